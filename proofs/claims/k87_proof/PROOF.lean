import PyProof.Rows.All
import Wide.All
import KE.KIsAll
import KE.KItem
import OpenK.KMore
import OpenK.Peek
import OpenK.KCls
import Open.Head
import OpenK.KLine
import OpenK.KOwn
import Wide.FinOn
import Lean
import PyProof.EqAt
import PyProof.EqKinds
import PyProof.TupleCall
import KE.KEqDict
import PySem.Str
import KE.KIntText
import PyProof.SliceList
import KE.KDictOf
import PyProof.SumWalk
import PyProof.Rows.ZipGen
import PyProof.Rows.SeqMore
import PyProof.Rows.TupIter
import OpenK.KTop
import KE.KSortTup
import KE.KPairComp
import KE.KMinKey
import PyProof.Rows.SortRuns
import KE.KDictLaws
import KE.KDictSum
import PyProof.Rows.SeqMore2
import KE.KUnpack
import OpenK.KWalk
import Wide.Tac
import Wide.Line
import Open.Line
import Open.Pieces
import PySem.Challenge.RW_postroad_k87_rows_refused
set_option Elab.async false
set_option linter.all false
set_option maxRecDepth 100000
set_option maxHeartbeats 4000000
abbrev bk:=@absurd
abbrev bL:=@if_neg
abbrev b2:=@if_pos
abbrev cQ:=@decide_eq_true
abbrev dJ:=@decide_eq_false
abbrev gF:=@congrArg
abbrev j2:=@of_decide_eq_true
abbrev rM:=@beq_iff_eq
abbrev BY:=@beq_eq_false_iff_ne
abbrev abD:=@beq_self_eq_true
abbrev auv:=@decide_eq_false_iff_not
open Array renaming append_assoc->Ej,toList_inj->Jd,all_eq_true_iff_forall_mem->OP,getElem?_eq_none->OQ,getElem?_toList->OR,length_toList->OS,getElem?_eq_getElem->Zs,getElem?_eq_some_iff->Zt,toList->afP
open Bool renaming and_eq_true->cJ,false_ne_true->hB,or_eq_true->lO,not_eq_true'->mf,true_and->qi,eq_false_iff->rt,false_and->sP,false_eq_true->AV,and_true->Je,eq_iff_iff->ZA,not_true->ZB,and_eq_false_iff->afX,and_false->afY,not_eq_false'->afZ,not_false->af0,or_true->af1
open Char renaming toNat->ZL
open Classical renaming choose_spec->O_,byContradiction->ZM,choose->agg
open False renaming elim->i6
open ForInStep renaming yield->Ex
open Int renaming le_refl->oL,toNat_of_nonneg->rB,toNat_natCast->ug,zero_add->yh,emod_nonneg->A_,emod_lt_of_pos->PJ,le_of_lt->Ν,le_trans->Ξ,mul_one->Ο,eq_ofNat_of_zero_le->agQ,min_eq_left->agR,natAbs_natCast->agS,not_lt->agT,ofNat.inj->agU,ofNat_le->agV,ofNat_lt->agW,toNat_eq_max->agX
open List renaming length_map->bQ,mem_map->cD,forall_mem_cons->c',mem_cons->dQ,length_append->dT,mem_singleton->d2,getElem?_map->ea,not_mem_nil->ee,getElem?_eq_getElem->ew,mem_of_getElem?->eX,length_cons->e5,range->fk,map_append->fP,getD->gL,getElem?_eq_some_iff->gM,map_map->hp,map_cons->hL,size_toArray->hY,all_eq_true->iw,mem_append->iM,nodup_cons->jj,append_nil->kK,append_assoc->mX,mem_cons_of_mem->nO,any_eq_true->oN,mem_append_right->oO,nodup_nil->pI,getElem?_of_mem->qk,length_nil->rD,length_range->s6,getElem_mem->uh,take_length->ui,length->wc,lookup->wd,mem_cons_self->we,filter_append->yy,length_drop->yz,length_take->yA,mem_filter->yB,getElem?_append_left->Bc,length_eq_zero_iff->Bd,length_pos_iff->Be,mem_range->Bf,nodup_append->Bg,range_succ->Bh,sum_cons->Bi,take_add_one->Bj,filterMap_cons->ER,find?_cons->ES,map_id->ET,range'->EU,all_cons->JN,any_cons->JO,drop_eq_getElem_cons->JP,drop_left->JQ,filter_eq_self->JR,forIn_cons->JS,getElem?_set_ne->JT,getElem_of_mem->JU,map_congr_left->JV,map_nil->JW,mem_filterMap->JX,all_map->P',drop_drop->P_,ext_getElem?->Qa,filter_cons->Qb,getElem?_append_right->Qc,getElem?_cons_zero->Qd,length_filter_le->Qe,mem_flatMap->Qf,mem_iff_getElem->Qg,pairwise_map->Qh,take_append_drop->Qi,cons.inj->Ì,cons_append->Í,filter_map->Î,forIn_nil->Ï,getElem?_eq_none->Ð,getElem?_set->Ñ,getElem?_set_self->Ò,map->Ó,map_eq_nil_iff->Ô,mem_append_left->Õ,mem_of_mem_drop->Ö,mem_range'_1->Ø,of_mem_zip->Ù,take_of_length_le->Ú,any_eq_false->ahN,cons.injEq->ahO,contains_cons->ahP,countP_cons->ahQ,countP_le_length->ahR,countP_pos_iff->ahS,dropLast_concat_getLast->ahT,drop_length->ahU,eq_nil_of_length_eq_zero->ahV,ext_getElem->ahW,filter_nil->ahX,foldr_cons->ahY,getElem?_drop->ahZ,getElem?_range->ah0,getElem_inj->ah1,getElem_map->ah2,getElem_toArray->ah3,getLast?_append->ah4,getLast?_singleton->ah5,length_dropLast->ah6,length_flatMap->ah7,length_set->ah8,length_singleton->ah9,pairwise_iff_getElem->aia,range'_append_1->aib,range_eq_range'->aic,sum_append->aid,take->aie,take_left->aif,zipIdx_cons->aih,zipIdx_map_snd->aii,zipIdx_nil->aij,zip_cons_cons->aik
open Nat renaming le_refl->cy,le_trans->eh,zero_le->ei,ne_of_lt->fH,le_of_ble_eq_true->hM,ble->iy,lt_of_lt_of_le->jk,le_of_lt->mZ,lt_irrefl->qp,lt_of_le_of_lt->qq,succ.inj->rG,lt_succ_of_lt->wo,ne_of_gt->wq,lt_or_ge->yJ,lt_succ_self->yK,toDigits->yL,ble_eq->E4,ble_eq_true_of_le->E5,le_succ->E6,min_le_right->E7,mul_le_mul->J',not_lt_zero->J_,succ_le_succ->Ka,succ_mul->Kb,zero_lt_one->Kc,le_of_eq->Qm,toDigits_of_lt_base->Qn,add_assoc->ú,blt->û,le_add_right->ü,lt.base->ý,lt_of_succ_lt->þ,lt_trans->ÿ,pos_of_ne_zero->Ā,sub_self->ā,toDigits_append_toDigits->Ă,add_le_add->aiA,add_le_add_left->aiB,add_sub_cancel_left->aiC,div_add_mod->aiD,le_add_left->aiE,le_antisymm->aiF,le_of_lt_succ->aiG,le_zero->aiH,log2_lt->aiI,min_eq_left->aiJ,min_eq_right->aiK,strongRecOn->aiL,sub_le->aiM,succ_ne_self->aiN,zero_lt_succ->aiO
open Ne renaming symm->dG
open Option renaming some.inj->gN,map_eq_some_iff->hN,isSome_iff_exists->wu,map_some->Qq,some.injEq->Qr,isSome_map->ai1,none->ai2
open Or renaming inl->hr,inr->Qs
open Prod renaming ext->BA,fst->ĝ,mk.inj->ajl
open PyProof.Rows renaming seqObj->mO,envOfC->qD,IsTup->rC,AllBare->tY,IsTupIter->EG,IntsAre->JK,callWith_type1->Qw,slot_tupleiter_next->XB,slot_tuple_getitem->ğ,Subscript_->Œ,subscriptTail->aeZ,callWith_builtin1->ajp,args_list_sort->atX,args_tupleiter_next->atY,entry_list_sort->auN,entry_tupleiter_next->auO,get?_update_seq->avF,slicePart_none->azp,slot_list_sort->azs,subscriptTail_builtinR->azx,kmk_tree->aA0,setObjOf_fresh->aA1
open PyProof.Rows.F renaming plain_set_update_loop->Ğ,entry_set_update_loop->ajo
open PySem renaming wpAny_bind->az,wpAny->aQ,Shared->aS,Value->a5,model->bj,wpAny_pure->bu,World->b0,Paired->b9,Program->cx,Value.ref->c1,starEach->dh,Str.ofString->dH,Heap.lt_size->dO,Heap.get?_push_of_some->d8,Around->et,Str->eF,wpAny_mono->gB,Heap.get?_push_size->g4,backTo->hE,Value.none->iA,bootBuiltins->i9,Paired.length->jz,compareOp->jU,Heap.SameBut->j7,IsPair->j8,wpAny_field->kt,PyData.eqv->kx,pyNext->kE,argBest->kP,sysModules->k7,PassesOwn.never->lT,wpAny_loadPart_at->me,rawInt->mL,wpAny_holding->mR,Model->mY,PyData.strOk->m3,wpAny_call_entry->nI,FuncData->nM,IsZip->nN,backToKw->n3,keywordEach->ot,ExcBaseFacts->oK,codeAny->oV,wpAny_newObj_type->pC,DictEntry->pG,PyData.depthAll->pK,Str.empty->pN,Value.int->qu,codeAny_mono->qy,mainGlobals->sa,wpAny_call->sE,wpAny_truthy_bool->sF,Heap.get?_update_other->s5,PyData.canLayAll0->ta,holding->tr,Heap.FlyingW->ub,Heap.size_push->uc,assignEach->uE,binaryOp->uF,field->uV,sizeLine_eq->vA,standAt->vC,wpAny_seqItems->vJ,wpAny_setField_rec->vK,Result->wA,Value.str->wD,atKey->wH,noteFrame->xu,swapsWith->xH,tupleKind->xK,wpAny_callSpecial?_slot->xY,wpAny_rule->xZ,Heap.get?_update_self->yf,IsItemIter->yi,IsPart->yj,Keyword->yw,NameKind->yI,Value.builtin->yU,behindInMarks->yX,bindC->yY,bindL->yZ,callWith->y1,getItem->zi,getMethod->zj,relabel->z',wpAny_attempt->AA,wpAny_dictEntries->AB,wpAny_execs_nil->AD,wpAny_fieldsOf->AE,wpAny_letGo->AF,ClassData->AW,Obj.mapFields->Bv,OwnTail->Bw,Within->BE,assign->BV,attributeBase->BW,callerA->B0,codeAny_builtin->B1,compPost->B2,excClassObj->B8,foldedSetIterable->Cd,isTrue->Cv,setField->DC,valueAt->DQ,wpAny_Call_Name_kw->DU,wpAny_passesOwn->DV,wpAny_pyIter_list->DW,wpAny_setField->DX,wpAny_standAt->DY,BindsTo->Eo,Data.cell->Ew,Obj.data_mapFields->E8,Obj.mapSeq->E9,PyData.depth->E_,Value->Fa,mem_of_lookup->Fe,Value.bool->Fz,Value.type->FA,call_meets->FO,closureFor->FQ,codeAny_call_builtin->FR,entryOfKey->F1,firstArgMember->F8,isInstance->GJ,newExc->Hc,pyIter->Hu,setAttr->H5,typeIs_str->Ie,wpAny_dictEpoch->IH,wpAny_of_eq->II,Around.under_plainId->Jc,PyData.list->Kt,Walks.list->KG,bindArgs->Ll,letOwnedTupleGo->MS,plainId_quiet->Nk,preSum->Nl,seqItems?->NO,setFlight->NP,tupleKind_room_in1->NY,wpAny_tryCatch->Ol,Code.quiet_builtin->Pa,Data.fields->Pb,Heap.ExtBut->PG,PyData.canLay0->Qv,Str.ext'->QJ,Value.isStrOf->Q5,ZipApart->Rk,compEnvC->Sr,comprehension->Ss,instanceDict->Vi,newList->Wd,refuseLoop->Xd,subscripted->XX,wpAny_execs_cons->YC,wpAny_isInstance->YD,wpAny_isOneOf_itemiter->YE,wpAny_isSubtype_exc->YF,wpAny_throw->YG,wpAny_typeNameOfWhole_itemiter->YH,wpAny_typeNameOfWhole_keyiter->YI,wpAny_typeNameOf_itemiter->YJ,wpAny_typeNameOf_keyiter->YK,Around.under->Zr,Code.isFrame->ZN,Heap.HeldW->σ,Heap.MadeExcOf->τ,Heap.get?_none_of_le->υ,Heap.get?_update_ne->φ,IsItemIterOut->Υ,Obj.isFreed_of_fields->Đ,Within.cons->ĵ,call->Ķ,frameOf->ķ,Shared.TypeIs->ŏ,Str.length->ő,Value.float->Š,builtinsNs->abF,call_meetsIn->abH,cellsFrom->abQ,entryPlaceOf->ab0,getAttrBy->aci,isSubtype_stop->adw,onTheHeap->aek,raiseStmt->aex,refuseLoop_ref->aey,sliceBounds->aeP,slicePicked->aeQ,strKind_is->aeY,wpAny_Call_method->afi,wpAny_Name->afj,wpAny_eqBool_int->afk,wpAny_handled->afl,wpAny_isOneOf_keyiter->afm,wpAny_landsW->afn,wpAny_looks_onW->afo,wpAny_newList->afp,wpAny_newTuple->afq,wpAny_notOrdered_dict->afr,wpAny_onRaise->afs,wpAny_pyIter_slot->aft,wpAny_updateSeq->afu,Heap.get?_push_at->agJ,Heap.get?_some_iff->agK,Obj.cls_mapFields->aiZ,Obj.data_mapDictKeys->ai0,PassesOwn.leaving->ajd,Addr->ajq,Within.nil->ajN,intText?->ajO,Value.isInt_shape->aly,behindIsImport->at1,checkBuiltinCall->at8,codeAny_handlers_test->aub,codeAny_of_tree->auc,numbered_texts->ayv,pastItsLine_dict->ayH,plainObj_wpAny_Assign_Attribute->ayJ,size_of_entries->azh,sliceRange_one->azq,slot_list_getitem->azr,theTreesLotGoes->azL,wpAny_Assign_Name->az0,wpAny_Compare1->az1,wpAny_Dict_empty->az2,wpAny_Expr_any->az3,wpAny_Try_except->az4,wpAny_assign_Name->az5,wpAny_getItem_of->az6,wpAny_handleBy_cons->az7,wpAny_isTrue_Compare1->az8,wpAny_leaves_onW->az9,wpAny_loadPart->aAa,wpAny_lookBehind->aAb,wpAny_missedRemoval_other->aAc,wpAny_mroOf_exc->aAd,wpAny_notIn_of->aAe,wpAny_pyIter_enum->aAf,wpAny_pyIter_zip->aAg,wpAny_tupleItemsOf->aAh,wpAny_updateSeq_pair->aAi
open PySem.Builtin.Builtins renaming bindParams->aAF
open PySem.Builtin.Dict renaming showsAll->O2,takeOut->af2,dictSlotNone->aAG,keyAndDefault->aAH,noArgs->aAI
open PySem.Builtin.Dict_items renaming ownsTuple->Jf,ownedTupleFields->af3,ownedTupleIsFree->af4,pairFromOwner->af5,dictOf->aAJ,newIterator->aAK
open PySem.Builtin.Frozenset renaming updateFrom->aAL
open PySem.Builtin.List renaming listTooLong->ZD
open PySem.Builtin.ObjectAttr renaming storeInOwnDict->O3,dataDescriptor?->af6,find->af7,storeInDict->af8,attrName->aAM,bindTo->aAN,getOf->aAO,newKeyGuard->aAP
open PySem.Builtin.Range renaming rangeSize->aAQ
open PySem.Builtin.Slice renaming slicePlaces->O4,sliceAdjust->ZE,sliceApplied->af9,sliceFields->aAR,slicePartIndex->aAS
open PySem.Builtin.SmallTypes renaming nextOf->vT,ownedTupleIsFree->O5,ownedTupleHandOut->aga
open PySem.Builtin.Str renaming strSliceIndices->agb,subAt->aA2
open PySem.Builtin.Tuple renaming tupleExact->O6,tupleItemsOf->aAT
open PySem.Calls renaming spliced_cons->Eu,callWith_builtin->Jh,evalArgs_plain->Ji,spliced_nil->O',Name_function_global->age,call_function_entry->agf
open PySem.Challenge renaming pw_postroad_k87_rows_refused->aA3,rw_postroad_k87_rows_refused->aA4
open PySem.EntryCells renaming newEntry->aAV
open PySem.F renaming excBase_ValueError->pL,plainAttrs_list->rH,slot_list_append->ur,type_list_append->uu,plainAttrs_str->yM,plainAttrs_dict->Qx,slot_dict_get->Ġ,slot_str_join->ġ,slot_str_split->Ģ,type_str_join->ģ,type_str_split->Ĥ,args_dict_get_2->ajr,entry_dict_get->ajs,slot_dict_getitem->ajt,slot_dict_setdefault->aju,slot_list_index->ajv,store_ValueError->ajw
open PySem.Heap renaming SameBut.update->A',ExtBut.push->PH,Ns1.of_empty->agH,SameBut.extBut->agI
open PySem.SeqAt renaming shaped->wB,EqAt->akP,EqAt.int_str->akQ,EqAt.str_int->akR,EqAt.bool_bool->aA5,list_indexAt->aA6
open PySem.Txt renaming split->pO,startswith->Fn,endswith->QO,slice->QP
open PySem.W renaming Frag->aI,findIn->cK,nsIn->dw,mroIn->j_,subIn->ka,kitOne->lU,keepIn->m4,fnOf->nR,hideAll->nS,specialIn->pM,kia_one->qr,isFn->rI,takesIn->tb,Looks->uv,excIn->uw,clsIn->wx,emptyDict->wy,looks_findIn->wz,instObj->yN,callWith_K->BC,typeIn->BD,codeIn->Fb,hasDictIn->Fc,methodCall_KW->Fd,hideAll_get->Ku,lookIn->Qy,makesIn->Qz,of_hideAll->QA,plainGet->QB,Looks.ld->ĥ,OpenLaw->Ħ,findCls->ħ,find_K->Ĩ,hideAll_none->ĩ,kitCls->Ī,kitMeta->ī,mapOf_K->Ĭ,methodObj->ĭ,plainGet_of->Į,readsIn->į,takerIn->Ĵ,KeysLit->ajy,WalkO->ajz,bind_fn->ajA,callWith_K0->ajB,cellsFrom_some->ajC,check_slot->ajD,funFrames_hide->ajE,handedIn->ajF,isClsIn->ajG,kitx_dict->ajH,kitx_list->ajI,looks_mroIn->ajJ,looks_subIn->ajK,mg_of->ajL,plainOver->ajM
open PySem.W.KF renaming slot_gs->ajx,args_gs->aA7,entry_class->aA8,entry_gs->aA9,owner_class->aBa,type_class->aBb
open PySem.W.KIN renaming call_text->aBc,num_reads->aBd,signs_num->aBe
open PySem.W.KT renaming ends_app->aBf,len_num->aBg,starts_app->aBh
open Sum renaming inr->f',inl->lg,inr.inj->QK
open True renaming intro->nX
open Option renaming some->ja,none->jp
open Bool renaming true->jx,false->jA
section
theorem sz_ {n:Nat}(h:Nat.ble n 20 = true:=by rfl):n ≤ PySem.sizeLine:=Nat.le_trans (Nat.le_of_ble_eq_true h) (by decide)
theorem E0_3{p q r G:Prop}(z:p/\q/\r)(k:p->q->r->G):G:=k z.1 z.2.1 z.2.2
theorem E0_4{p q r s G:Prop}(z:p/\q/\r/\s)(k:p->q->r->s->G):G:=k z.1 z.2.1 z.2.2.1 z.2.2.2
theorem E0_5{p q r s t G:Prop}(z:p/\q/\r/\s/\t)(k:p->q->r->s->t->G):G:=k z.1 z.2.1 z.2.2.1 z.2.2.2.1 z.2.2.2.2
theorem E0_6{p q r s t u G:Prop}(z:p/\q/\r/\s/\t/\u)(k:p->q->r->s->t->u->G):G:=k z.1 z.2.1 z.2.2.1 z.2.2.2.1 z.2.2.2.2.1 z.2.2.2.2.2
theorem E1_2{A:Type}{p q:A->Prop}{G:Prop}(z:∃a,p a/\q a)(k:∀a,p a->q a->G):G:=z.elim λa z=>k a z.1 z.2
theorem E1_3{A:Type}{p q r:A->Prop}{G:Prop}(z:∃a,p a/\q a/\r a)(k:∀a,p a->q a->r a->G):G:=z.elim λa z=>k a z.1 z.2.1 z.2.2
theorem E1_4{A:Type}{p q r s:A->Prop}{G:Prop}(z:∃a,p a/\q a/\r a/\s a)(k:∀a,p a->q a->r a->s a->G):G:=z.elim λa z=>k a z.1 z.2.1 z.2.2.1 z.2.2.2
theorem E1_5{A:Type}{p q r s t:A->Prop}{G:Prop}(z:∃a,p a/\q a/\r a/\s a/\t a)(k:∀a,p a->q a->r a->s a->t a->G):G:=z.elim λa z=>k a z.1 z.2.1 z.2.2.1 z.2.2.2.1 z.2.2.2.2
theorem E2_1{A B:Type}{p:A->B->Prop}{G:Prop}(z:∃a b,p a b)(k:∀a b,p a b->G):G:=z.elim λa z=>z.elim λb z=>k a b z
theorem E2_2{A B:Type}{p q:A->B->Prop}{G:Prop}(z:∃a b,p a b/\q a b)(k:∀a b,p a b->q a b->G):G:=z.elim λa z=>z.elim λb z=>k a b z.1 z.2
theorem E2_3{A B:Type}{p q r:A->B->Prop}{G:Prop}(z:∃a b,p a b/\q a b/\r a b)(k:∀a b,p a b->q a b->r a b->G):G:=z.elim λa z=>z.elim λb z=>k a b z.1 z.2.1 z.2.2
theorem E2_4{A B:Type}{p q r s:A->B->Prop}{G:Prop}(z:∃a b,p a b/\q a b/\r a b/\s a b)(k:∀a b,p a b->q a b->r a b->s a b->G):G:=z.elim λa z=>z.elim λb z=>k a b z.1 z.2.1 z.2.2.1 z.2.2.2
theorem E2_5{A B:Type}{p q r s t:A->B->Prop}{G:Prop}(z:∃a b,p a b/\q a b/\r a b/\s a b/\t a b)(k:∀a b,p a b->q a b->r a b->s a b->t a b->G):G:=z.elim λa z=>z.elim λb z=>k a b z.1 z.2.1 z.2.2.1 z.2.2.2.1 z.2.2.2.2
theorem E2_6{A B:Type}{p q r s t u:A->B->Prop}{G:Prop}(z:∃a b,p a b/\q a b/\r a b/\s a b/\t a b/\u a b)(k:∀a b,p a b->q a b->r a b->s a b->t a b->u a b->G):G:=z.elim λa z=>z.elim λb z=>k a b z.1 z.2.1 z.2.2.1 z.2.2.2.1 z.2.2.2.2.1 z.2.2.2.2.2
theorem E3_1{A B C:Type}{p:A->B->C->Prop}{G:Prop}(z:∃a b c,p a b c)(k:∀a b c,p a b c->G):G:=z.elim λa z=>z.elim λb z=>z.elim λc z=>k a b c z
theorem E3_2{A B C:Type}{p q:A->B->C->Prop}{G:Prop}(z:∃a b c,p a b c/\q a b c)(k:∀a b c,p a b c->q a b c->G):G:=z.elim λa z=>z.elim λb z=>z.elim λc z=>k a b c z.1 z.2
theorem E3_3{A B C:Type}{p q r:A->B->C->Prop}{G:Prop}(z:∃a b c,p a b c/\q a b c/\r a b c)(k:∀a b c,p a b c->q a b c->r a b c->G):G:=z.elim λa z=>z.elim λb z=>z.elim λc z=>k a b c z.1 z.2.1 z.2.2
theorem E3_4{A B C:Type}{p q r s:A->B->C->Prop}{G:Prop}(z:∃a b c,p a b c/\q a b c/\r a b c/\s a b c)(k:∀a b c,p a b c->q a b c->r a b c->s a b c->G):G:=z.elim λa z=>z.elim λb z=>z.elim λc z=>k a b c z.1 z.2.1 z.2.2.1 z.2.2.2
theorem E3_5{A B C:Type}{p q r s t:A->B->C->Prop}{G:Prop}(z:∃a b c,p a b c/\q a b c/\r a b c/\s a b c/\t a b c)(k:∀a b c,p a b c->q a b c->r a b c->s a b c->t a b c->G):G:=z.elim λa z=>z.elim λb z=>z.elim λc z=>k a b c z.1 z.2.1 z.2.2.1 z.2.2.2.1 z.2.2.2.2
theorem E3_6{A B C:Type}{p q r s t u:A->B->C->Prop}{G:Prop}(z:∃a b c,p a b c/\q a b c/\r a b c/\s a b c/\t a b c/\u a b c)(k:∀a b c,p a b c->q a b c->r a b c->s a b c->t a b c->u a b c->G):G:=z.elim λa z=>z.elim λb z=>z.elim λc z=>k a b c z.1 z.2.1 z.2.2.1 z.2.2.2.1 z.2.2.2.2.1 z.2.2.2.2.2
theorem E3_7{A B C:Type}{p q r s t u v:A->B->C->Prop}{G:Prop}(z:∃a b c,p a b c/\q a b c/\r a b c/\s a b c/\t a b c/\u a b c/\v a b c)(k:∀a b c,p a b c->q a b c->r a b c->s a b c->t a b c->u a b c->v a b c->G):G:=z.elim λa z=>z.elim λb z=>z.elim λc z=>k a b c z.1 z.2.1 z.2.2.1 z.2.2.2.1 z.2.2.2.2.1 z.2.2.2.2.2.1 z.2.2.2.2.2.2
theorem E4_2{A B C D:Type}{p q:A->B->C->D->Prop}{G:Prop}(z:∃a b c d,p a b c d/\q a b c d)(k:∀a b c d,p a b c d->q a b c d->G):G:=z.elim λa z=>z.elim λb z=>z.elim λc z=>z.elim λd z=>k a b c d z.1 z.2
theorem E4_3{A B C D:Type}{p q r:A->B->C->D->Prop}{G:Prop}(z:∃a b c d,p a b c d/\q a b c d/\r a b c d)(k:∀a b c d,p a b c d->q a b c d->r a b c d->G):G:=z.elim λa z=>z.elim λb z=>z.elim λc z=>z.elim λd z=>k a b c d z.1 z.2.1 z.2.2
theorem E4_4{A B C D:Type}{p q r s:A->B->C->D->Prop}{G:Prop}(z:∃a b c d,p a b c d/\q a b c d/\r a b c d/\s a b c d)(k:∀a b c d,p a b c d->q a b c d->r a b c d->s a b c d->G):G:=z.elim λa z=>z.elim λb z=>z.elim λc z=>z.elim λd z=>k a b c d z.1 z.2.1 z.2.2.1 z.2.2.2
theorem E4_5{A B C D:Type}{p q r s t:A->B->C->D->Prop}{G:Prop}(z:∃a b c d,p a b c d/\q a b c d/\r a b c d/\s a b c d/\t a b c d)(k:∀a b c d,p a b c d->q a b c d->r a b c d->s a b c d->t a b c d->G):G:=z.elim λa z=>z.elim λb z=>z.elim λc z=>z.elim λd z=>k a b c d z.1 z.2.1 z.2.2.1 z.2.2.2.1 z.2.2.2.2
theorem E4_6{A B C D:Type}{p q r s t u:A->B->C->D->Prop}{G:Prop}(z:∃a b c d,p a b c d/\q a b c d/\r a b c d/\s a b c d/\t a b c d/\u a b c d)(k:∀a b c d,p a b c d->q a b c d->r a b c d->s a b c d->t a b c d->u a b c d->G):G:=z.elim λa z=>z.elim λb z=>z.elim λc z=>z.elim λd z=>k a b c d z.1 z.2.1 z.2.2.1 z.2.2.2.1 z.2.2.2.2.1 z.2.2.2.2.2
theorem E4_7{A B C D:Type}{p q r s t u v:A->B->C->D->Prop}{G:Prop}(z:∃a b c d,p a b c d/\q a b c d/\r a b c d/\s a b c d/\t a b c d/\u a b c d/\v a b c d)(k:∀a b c d,p a b c d->q a b c d->r a b c d->s a b c d->t a b c d->u a b c d->v a b c d->G):G:=z.elim λa z=>z.elim λb z=>z.elim λc z=>z.elim λd z=>k a b c d z.1 z.2.1 z.2.2.1 z.2.2.2.1 z.2.2.2.2.1 z.2.2.2.2.2.1 z.2.2.2.2.2.2
theorem E5_3{A B C D E:Type}{p q r:A->B->C->D->E->Prop}{G:Prop}(z:∃a b c d e,p a b c d e/\q a b c d e/\r a b c d e)(k:∀a b c d e,p a b c d e->q a b c d e->r a b c d e->G):G:=z.elim λa z=>z.elim λb z=>z.elim λc z=>z.elim λd z=>z.elim λe z=>k a b c d e z.1 z.2.1 z.2.2
theorem E5_4{A B C D E:Type}{p q r s:A->B->C->D->E->Prop}{G:Prop}(z:∃a b c d e,p a b c d e/\q a b c d e/\r a b c d e/\s a b c d e)(k:∀a b c d e,p a b c d e->q a b c d e->r a b c d e->s a b c d e->G):G:=z.elim λa z=>z.elim λb z=>z.elim λc z=>z.elim λd z=>z.elim λe z=>k a b c d e z.1 z.2.1 z.2.2.1 z.2.2.2
theorem E5_6{A B C D E:Type}{p q r s t u:A->B->C->D->E->Prop}{G:Prop}(z:∃a b c d e,p a b c d e/\q a b c d e/\r a b c d e/\s a b c d e/\t a b c d e/\u a b c d e)(k:∀a b c d e,p a b c d e->q a b c d e->r a b c d e->s a b c d e->t a b c d e->u a b c d e->G):G:=z.elim λa z=>z.elim λb z=>z.elim λc z=>z.elim λd z=>z.elim λe z=>k a b c d e z.1 z.2.1 z.2.2.1 z.2.2.2.1 z.2.2.2.2.1 z.2.2.2.2.2
theorem E5_8{A B C D E:Type}{p q r s t u v w:A->B->C->D->E->Prop}{G:Prop}(z:∃a b c d e,p a b c d e/\q a b c d e/\r a b c d e/\s a b c d e/\t a b c d e/\u a b c d e/\v a b c d e/\w a b c d e)(k:∀a b c d e,p a b c d e->q a b c d e->r a b c d e->s a b c d e->t a b c d e->u a b c d e->v a b c d e->w a b c d e->G):G:=z.elim λa z=>z.elim λb z=>z.elim λc z=>z.elim λd z=>z.elim λe z=>k a b c d e z.1 z.2.1 z.2.2.1 z.2.2.2.1 z.2.2.2.2.1 z.2.2.2.2.2.1 z.2.2.2.2.2.2.1 z.2.2.2.2.2.2.2
theorem E5_9{A B C D E:Type}{p q r s t u v w P:A->B->C->D->E->Prop}{G:Prop}(z:∃a b c d e,p a b c d e/\q a b c d e/\r a b c d e/\s a b c d e/\t a b c d e/\u a b c d e/\v a b c d e/\w a b c d e/\P a b c d e)(k:∀a b c d e,p a b c d e->q a b c d e->r a b c d e->s a b c d e->t a b c d e->u a b c d e->v a b c d e->w a b c d e->P a b c d e->G):G:=z.elim λa z=>z.elim λb z=>z.elim λc z=>z.elim λd z=>z.elim λe z=>k a b c d e z.1 z.2.1 z.2.2.1 z.2.2.2.1 z.2.2.2.2.1 z.2.2.2.2.2.1 z.2.2.2.2.2.2.1 z.2.2.2.2.2.2.2.1 z.2.2.2.2.2.2.2.2
theorem E6_4{A B C D E F:Type}{p q r s:A->B->C->D->E->F->Prop}{G:Prop}(z:∃a b c d e f,p a b c d e f/\q a b c d e f/\r a b c d e f/\s a b c d e f)(k:∀a b c d e f,p a b c d e f->q a b c d e f->r a b c d e f->s a b c d e f->G):G:=z.elim λa z=>z.elim λb z=>z.elim λc z=>z.elim λd z=>z.elim λe z=>z.elim λf z=>k a b c d e f z.1 z.2.1 z.2.2.1 z.2.2.2
theorem E6_5{A B C D E F:Type}{p q r s t:A->B->C->D->E->F->Prop}{G:Prop}(z:∃a b c d e f,p a b c d e f/\q a b c d e f/\r a b c d e f/\s a b c d e f/\t a b c d e f)(k:∀a b c d e f,p a b c d e f->q a b c d e f->r a b c d e f->s a b c d e f->t a b c d e f->G):G:=z.elim λa z=>z.elim λb z=>z.elim λc z=>z.elim λd z=>z.elim λe z=>z.elim λf z=>k a b c d e f z.1 z.2.1 z.2.2.1 z.2.2.2.1 z.2.2.2.2
theorem E8_7{A B C D E F H I:Type}{p q r s t u v:A->B->C->D->E->F->H->I->Prop}{G:Prop}(z:∃a b c d e f g h,p a b c d e f g h/\q a b c d e f g h/\r a b c d e f g h/\s a b c d e f g h/\t a b c d e f g h/\u a b c d e f g h/\v a b c d e f g h)(k:∀a b c d e f g h,p a b c d e f g h->q a b c d e f g h->r a b c d e f g h->s a b c d e f g h->t a b c d e f g h->u a b c d e f g h->v a b c d e f g h->G):G:=z.elim λa z=>z.elim λb z=>z.elim λc z=>z.elim λd z=>z.elim λe z=>z.elim λf z=>z.elim λg z=>z.elim λh z=>k a b c d e f g h z.1 z.2.1 z.2.2.1 z.2.2.2.1 z.2.2.2.2.1 z.2.2.2.2.2.1 z.2.2.2.2.2.2
theorem E9_3{A B C D E F H I J:Type}{p q r:A->B->C->D->E->F->H->I->J->Prop}{G:Prop}(z:∃a b c d e f g h i,p a b c d e f g h i/\q a b c d e f g h i/\r a b c d e f g h i)(k:∀a b c d e f g h i,p a b c d e f g h i->q a b c d e f g h i->r a b c d e f g h i->G):G:=z.elim λa z=>z.elim λb z=>z.elim λc z=>z.elim λd z=>z.elim λe z=>z.elim λf z=>z.elim λg z=>z.elim λh z=>z.elim λi z=>k a b c d e f g h i z.1 z.2.1 z.2.2
theorem E15_2{A B C D E F H I J K L M N O X:Type}{p q:A->B->C->D->E->F->H->I->J->K->L->M->N->O->X->Prop}{G:Prop}(z:∃a b c d e f g h i j l m n o x,p a b c d e f g h i j l m n o x/\q a b c d e f g h i j l m n o x)(k:∀a b c d e f g h i j l m n o x,p a b c d e f g h i j l m n o x->q a b c d e f g h i j l m n o x->G):G:=z.elim λa z=>z.elim λb z=>z.elim λc z=>z.elim λd z=>z.elim λe z=>z.elim λf z=>z.elim λg z=>z.elim λh z=>z.elim λi z=>z.elim λj z=>z.elim λl z=>z.elim λm z=>z.elim λn z=>z.elim λo z=>z.elim λx z=>k a b c d e f g h i j l m n o x z.1 z.2
theorem E17_3{A B C D E F H I J K L M N O X Y Z:Type}{p q r:A->B->C->D->E->F->H->I->J->K->L->M->N->O->X->Y->Z->Prop}{G:Prop}(z:∃a b c d e f g h i j l m n o x y α,p a b c d e f g h i j l m n o x y α/\q a b c d e f g h i j l m n o x y α/\r a b c d e f g h i j l m n o x y α)(k:∀a b c d e f g h i j l m n o x y α,p a b c d e f g h i j l m n o x y α->q a b c d e f g h i j l m n o x y α->r a b c d e f g h i j l m n o x y α->G):G:=z.elim λa z=>z.elim λb z=>z.elim λc z=>z.elim λd z=>z.elim λe z=>z.elim λf z=>z.elim λg z=>z.elim λh z=>z.elim λi z=>z.elim λj z=>z.elim λl z=>z.elim λm z=>z.elim λn z=>z.elim λo z=>z.elim λx z=>z.elim λy z=>z.elim λα z=>k a b c d e f g h i j l m n o x y α z.1 z.2.1 z.2.2
theorem E17_4{A B C D E F H I J K L M N O X Y Z:Type}{p q r s:A->B->C->D->E->F->H->I->J->K->L->M->N->O->X->Y->Z->Prop}{G:Prop}(z:∃a b c d e f g h i j l m n o x y α,p a b c d e f g h i j l m n o x y α/\q a b c d e f g h i j l m n o x y α/\r a b c d e f g h i j l m n o x y α/\s a b c d e f g h i j l m n o x y α)(k:∀a b c d e f g h i j l m n o x y α,p a b c d e f g h i j l m n o x y α->q a b c d e f g h i j l m n o x y α->r a b c d e f g h i j l m n o x y α->s a b c d e f g h i j l m n o x y α->G):G:=z.elim λa z=>z.elim λb z=>z.elim λc z=>z.elim λd z=>z.elim λe z=>z.elim λf z=>z.elim λg z=>z.elim λh z=>z.elim λi z=>z.elim λj z=>z.elim λl z=>z.elim λm z=>z.elim λn z=>z.elim λo z=>z.elim λx z=>z.elim λy z=>z.elim λα z=>k a b c d e f g h i j l m n o x y α z.1 z.2.1 z.2.2.1 z.2.2.2
abbrev Y_:=Lean.Syntax
def nT__ (k:String) (l:List Y_):Y_:=.node .none (.str `Lean.Parser.Tactic k) l.toArray
def nR__ (k:String) (l:List Y_):Y_:=.node .none (.str `Lean.Parser.Tactic.rcasesPat k) l.toArray
def nM__ (k:String) (l:List Y_):Y_:=.node .none (.str `Lean.Parser.Term k) l.toArray
def nC__ (k:String) (l:List Y_):Y_:=.node .none (.str `Lean.Parser.Command k) l.toArray
def nL__ (l:List Y_):Y_:=.node .none `null l.toArray
def a__ (s:String):Y_:=.atom .none s
def i__ (n:Lean.Name):Y_:=Lean.mkIdent n
def sp__ (l:List Y_):Y_:=nL__ (l.intersperse (a__ ","))
def sq__ (t:Y_):Y_:=nT__ "tacticSeq" [nT__ "tacticSeq1Indented" [nL__ [t]]]
def by__ (t:Y_):Y_:=nM__ "byTactic" [a__ "by",sq__ t]
def oc__ (l:List Y_):Y_:=nT__ "optConfig" [nL__ l]
def tc__ (s:String):Y_:=nT__ s [a__ s,oc__ []]
def dg__ (x:Y_):List Nat:=[[],[0,1],[1],[0,0,1,1],[2],[0,1,0,1],[0,0],[1,0,1],[3],[4]].getD (x.isNatLit?.getD 0) []
def tu__ (l:List Y_):Y_:=nR__ "tuple" [a__ "⟨",sp__ (l.map fun x=>nT__ "rcasesPatLo" [nT__ "rcasesPatMed" [nL__ [x]],nL__ []]),a__ "⟩"]
def ob__ (p t:Y_):Y_:=nT__ "obtain" [a__ "obtain",nL__ [nT__ "rcasesPatMed" [nL__ [p]]],nL__ [],nL__ [a__ ":=",nL__ [t]]]
def se__ (l:List Y_):Y_:=nT__ "paren" [a__ "(",nT__ "tacticSeq" [nT__ "tacticSeq1Indented" [nL__ (l.intersperse (a__ ";"))]],a__ ")"]
def fi__ (l:List Y_):Y_:=nT__ "first" [a__ "first",nL__ (l.map fun x=>.node .none `group #[a__ "|",sq__ x])]
def us__:Lean.MacroM Y_:=Lean.Macro.throwUnsupported
local macro_rules (kind:=Lean.Parser.Tactic.tacticLet__) | s=>let d:=s[2][0];let e (x:Y_):List Y_:=let d:=dg__ x;if d.isEmpty then [if x.isIdent then nR__ "one" [x]else nR__ "ignore" [a__ "_"]]else d.map fun n=>if n == 0 then nR__ "ignore" [a__ "_"]else nR__ "one" [i__ `rfl];let v (f:Y_→List Y_) (x:Y_):=x[1].getSepArgs.toList.flatMap f;if d[0].isOfKind `«term#[_,]» then let l:=v (fun x=>if x.isOfKind `«term#[_,]» then [tu__ (v e x)]else e x) d[0];let o:=ob__ (tu__ l) d[4];let n:=l.length;let t:=d[4];return if n<3 then o else fi__ [se__ ([fi__ ((List.range n).map fun N=>nT__ "refine" [a__ "refine",nM__ "app" [i__ (.mkSimple s!"E{N}_{n-N}"),nL__ [t,nM__ "syntheticHole" [a__ "?",a__ "_"]]]])]++(if t.isIdent then [nT__ "tacticTry_" [a__ "try",sq__ (nT__ "clear" [a__ "clear",nL__ [t]])]]else [])++[nT__ "rintro" [a__ "rintro",nL__ (l.map fun x=>.node .none `Lean.Parser.Tactic.rintroPat.one #[x]),nL__ []]]),o]else return nT__ "tacticHave__" [a__ "have",s[1],s[2]]
local macro_rules (kind:=«term#[_,]») | s=>let l:=s[1].getSepArgs.toList.flatMap fun x=>let d:=dg__ x;if d.isEmpty then [x]else d.map fun n=>[nM__ "hole" [a__ "_"],i__ `rfl,nM__ "syntheticHole" [a__ "?",a__ "_"],by__ (tc__ "decide"),by__ (tc__ "lia")].getD n s;if l.length < 2 then us__ else return nM__ "anonymousCtor" [a__ "⟨",sp__ l,a__ "⟩"]
local macro_rules (kind:=Lean.Parser.Tactic.«show») | s=>let t:=s[1];if t.isOfKind `«term-_» then return nT__ "refine" [a__ "refine",t[1]]else if t.isOfKind `«term#[_,]» then return nT__ "refine" [a__ "refine",t]else us__
local macro_rules (kind:=Lean.Parser.Tactic.left) | s=>return nT__ "decide" [a__ "decide",oc__ [nT__ "configItem" [nT__ "posConfigItem" [a__ "+",i__ `kernel]]]]
local macro_rules (kind:=Lean.Parser.Tactic.acRfl) | s=>let m (n:Lean.Name):=nT__ "simpLemma" [nL__ [],nL__ [],i__ n];return nT__ "tacticTry_" [a__ "try",sq__ (nT__ "dsimp" [a__ "dsimp",oc__ [],nL__ [],nL__ [a__ "only"],nL__ [a__ "[",sp__ [m `da,m `c_],a__ "]"],nL__ []])]
def dA__ (s:Y_) (l:List Lean.Name):Lean.MacroM Y_:=let x:=s[1];let b:=x.isIdent;let f:=if b then x else x[0];if [`aA,`eI,`ki].contains f.getId then return nM__ "app" [f,nL__ (l.map i__++if b then []else x[1].getArgs.toList)]else us__
local macro_rules (kind:=«term-_») | s=>dA__ s [`P,`w,`K,`mg,`base]
local macro_rules (kind:=«term!_») | s=>dA__ s [`P,`w,`K,`mg,`base,`N,`qual,`scope,`f,`cdv,`A,`outer,`s,`H,`E]
def nm__ (p:Lean.Name) (s:String):Option Lean.Name:=match s with | "L"=>some (["heap","objs","size"].foldl .str p) | "Z"=>some (["length"].foldl .str p) | "Y"=>some (["objs","size"].foldl .str p) | "Q"=>some (["heap"].foldl .str p) | "X"=>some (["toNat"].foldl .str p) | "G"=>some (["toList"].foldl .str p) | "J"=>some (["symm"].foldl .str p) | _=>none
local macro_rules (kind:=ident) | i=>match i.getId with | .str p s=>if p.isAnonymous then (match s with | "jQ"=>return by__ (tc__ "lia") | "qc"=>return by__ (tc__ "decide") | "qv"=>return by__ (nT__ "simp" [a__ "simp",oc__ [],nL__ [],nL__ [],nL__ [],nL__ []]) | "qF"=>return by__ (nT__ "tacticRfl" [a__ "rfl"]) | "qL"=>return by__ (nT__ "left" [a__ "left"]) | _=>us__) else (match nm__ p s with | some n=>return i__ n | _=>us__) | _=>us__
local macro_rules (kind:=Lean.Parser.Term.proj) | s=>match s[2].getId with | .str p x=>(match nm__ p x with | some n=>return s.setArg 2 (i__ n) | _=>us__) | _=>us__
local macro_rules (kind:=Lean.Parser.Command.print) | s=>let l:List Y_:=((s[1].isStrLit?.getD "").toList.foldl (fun (x:List Y_ × Nat × Nat) c=>let n:=x.2.1 * 91 + (c.toNat - if c.toNat > 92 then 36 else 35);if x.2.2 == 9 then (i__ (.mkSimple ("tw"++toString n)) :: x.1,0,0) else (x.1,n,x.2.2 + 1)) ([],0,0)).1;let m:=nC__ "declModifiers" (List.replicate 7 (nL__ []));let o (x:Y_):=nC__ "optDeclSig" [nL__ [],nL__ [nM__ "typeSpec" [a__ ":",x]]];return nC__ "declaration" [m,nC__ "structure" [nC__ "structureTk" [a__ "structure"],nC__ "declId" [i__ `PySem.W.Fast,nL__ []],o (nM__ "prop" [a__ "Prop"]),nL__ [],nL__ [a__ "where",nL__ [],nC__ "structFields" [nL__ [nC__ "structExplicitBinder" [m,a__ "(",nL__ l,o (i__ `True),nL__ [],a__ ")"]]]],nC__ "optDeriving" [nL__ []]]]
local macro_rules (kind:=Lean.Parser.Command.declaration) | s=>let d:=s[1];let b:=d.isOfKind `Lean.Parser.Command.definition;let v:=d[3][1];let c:=v.isOfKind `Lean.Parser.Term.paren;if b&&(c||v.isOfKind `Lean.Parser.Term.byTactic)&&d[2][1].getNumArgs == 1&&s[0].getArgs.all (·.isNone) then return s.setArg 1 (nC__ "theorem" [a__ "theorem",d[1],nC__ "declSig" [d[2][0],d[2][1][0]],if c then d[3].setArg 1 v[1]else d[3]]) else if (b||d.isOfKind `Lean.Parser.Command.abbrev)&&s[0].getArgs.all (·.isNone) then return s.setArg 0 (s[0].setArg 4 (nL__ [nC__ "noncomputable" [a__ "noncomputable"]])) else us__
section
abbrev dv:List eF:=["self","number"]
abbrev gh:List eF:=["self","house","goal"]
abbrev f7:List eF:=["desk","values"]
abbrev eg:List eF:=["self"]
abbrev ix:List eF:=["day","values"]
abbrev s9:List eF:=["self","house","goal","road"]
abbrev lR:List eF:=["self","house"]
abbrev nP:List eF:=["_law_a","_law_b"]
abbrev rF:List eF:=["self","houses","roads"]
abbrev yD:List eF:=["net","walk","going","ways","turn"]
abbrev s7:List eF:=["houses","one","other"]
abbrev s8:List eF:=["net","letters","plan"]
abbrev mj:List eF:=["self","net"]
abbrev wg:List eF:=["thing","least","greatest"]
abbrev iN:List eF:=["word"]
abbrev ql:List eF:=["houses","thing"]
abbrev uj:List eF:=["self","net","letters"]
abbrev EV:List eF:=["walk","net","letters","ahead","thing"]
abbrev j':List eF:=["thing"]
abbrev rE:List eF:=["thing","length"]
abbrev Bk:List eF:=["self","number","house","turn"]
abbrev qm:List eF:=["self","road"]
abbrev oP:List eF:=["_law_row"]
abbrev yE:List eF:=["net","letters","ways"]
abbrev yF:List eF:=["_law_desk","_law_row"]
abbrev EW:List eF:=["_law_a","_law_b","_law_posted"]
abbrev k_:List eF:=["text"]
abbrev wh:List eF:=["houses","things"]
abbrev EX:List eF:=["walk","going","ways","turn"]
abbrev Bl:List eF:=["_law_script","_law_k"]
abbrev Bm:List eF:=["self","reason","seen"]
abbrev oQ:List eF:=["number"]
abbrev wj:List eF:=["self","letter"]
abbrev Bn:List eF:=["self","net","first"]
abbrev EY:List eF:=["road","far_from","goal"]
abbrev uk:List eF:=["self","row"]
abbrev um:List eF:=["self","bag"]
abbrev EZ:List eF:=["_law_cell","_law_many"]
abbrev yG:List eF:=["roads","house"]
abbrev Bo:List eF:=["letter","ways"]
abbrev Bp:List eF:=["number","walk"]
abbrev yH:List eF:=["net","some"]
abbrev Bq:List eF:=["road","found"]
abbrev E0:List eF:=["numbers","bound"]
abbrev wk:List eF:=["numbers"]
abbrev s_:List eF:=["plan"]
abbrev wm:List eF:=["things"]
abbrev E1:List eF:=["_law_error"]
abbrev ba:= List (List Nat)
abbrev cL:= Fa -> PySem.Shared -> Prop
abbrev dU:= List (ajq×PySem.Obj)
abbrev b6:= eF -> Option Fa
abbrev bg:= List Nat
abbrev b5:= List ajq
abbrev en:= List Fa
abbrev bY:= List eF
abbrev QR:= Nat -> Nat -> Bool
abbrev Fo:= List (Option Nat)
abbrev ml:= Array (Option Fa)
abbrev mn:= List (eF×Int×eF)
abbrev nY:= eF×Int×eF
abbrev kd:= List Int
abbrev hO:= List PySem.Expr
abbrev f_:= List PySem.PyData
abbrev m8:= eF -> Option Int
abbrev mm:= Array Fa
abbrev yT:= Option Fa
end
namespace al
open PySem PySem.Spec PyProof.Rows
abbrev bU:=Sum Int Str
def AS:bU->a5->Bool
 |.inl k,v=>Value.isInt k v
 |.inr x,v=>Q5 x v
def ar1(w:b0):bU->Int
 |.inl k=>hashInt k
 |.inr x=>hashStr w x
theorem tn:∀{k:bU}{v:a5},AS k v=jx->(∃i t,k=lg i/\v=qu i t)\/(∃x t,k=f' x/\v=wD x t)
 |.inl i,v,h=>by let#[t,e]:=aly (k:=i) (v:=v) h;show-.inl #[i,t,2,e]
 |.inr x,v,h=>by let#[t,e]:=Value.isStrOf_shape (x:=x) (v:=v) h;show-.inr #[x,t,2,e]
def ai3(i:Int)(t:Tok):AS (.inl i) (.int i t)=jx:=by simp[AS,Value.isInt]
def ai4(x:Str)(t:Tok):AS (.inr x) (.str x t)=jx:=by simp[AS,Q5]
def aog(a b:Int):decide ((lg a:bU)=lg b)=(a==b):=by
 by_cases e:a=b
 .subst e;simp
 let h:¬(lg a:bU)=lg b:=λq=>e (Sum.inl.inj q);rw[dJ h];exact(BY.mpr e).symm
def aoh(a b:Str):decide ((f' a:bU)=f' b)=decide (a=b):=by
 by_cases e:a=b
 .subst e;simp
 let h:¬(f' a:bU)=f' b:=λq=>e (QK q);rw[dJ h,dJ e]
def aoi(a:Int)(b:Str):decide ((lg a:bU)=f' b)=jA:=(dJ (λq=>nomatch q))
def aoj(a:Str)(b:Int):decide ((f' a:bU)=lg b)=jA:=(dJ (λq=>nomatch q))
def jD(d:cx)(w:b0):PySem.KeyKind d w bU where
 is:=AS
 hash:=ar1 w
 inj:=λv a b l g=>by
  rcases tn l with⟨i,t,rfl,rfl⟩|⟨x,t,rfl,rfl⟩
  .rcases tn g with⟨j,u,rfl,e⟩|⟨y,u,rfl,e⟩
   .injection e with c _;rw[c]
   exact nomatch e
  rcases tn g with⟨j,u,rfl,e⟩|⟨y,u,rfl,e⟩
  .exact nomatch e
  injection e with c _;rw[c]
 byValue:=λk v h=>by rcases tn h with⟨i,t,rfl,rfl⟩|⟨x,t,rfl,rfl⟩<;>rfl
 pyHash:=λf h=>by
  rcases tn f with⟨i,t,rfl,rfl⟩|⟨x,t,rfl,rfl⟩
  .exact wpAny_pyHash_int h
  exact wpAny_pyHash_str h
 eqBool:=λm f h=>by
  rcases tn m with⟨i,t,rfl,rfl⟩|⟨x,t,rfl,rfl⟩
  .rcases tn f with⟨j,u,rfl,rfl⟩|⟨y,u,rfl,rfl⟩
   .rw[aog]at h;show-afk h
   rw[aoi]at h;show-akQ i t y u _ _ _ _ h
  rcases tn f with⟨j,u,rfl,rfl⟩|⟨y,u,rfl,rfl⟩
  .rw[aoj]at h;show-akR x t j u _ _ _ _ h
  rw[aoh]at h;exact wpAny_eqBool_str h
 «strs»:=λk x t v h=>by
  rcases tn h with⟨i,u,rfl,e⟩|⟨y,u,rfl,e⟩
  .exact nomatch e
  injection e with c _;subst c;cases v<;>rfl
def agx(a:cx)(w:b0)(i:Int)(t:Tok):(jD a w).is (.inl i) (.int i t)=jx:=(ai3 i t)
def agy(a:cx)(w:b0)(x:Str)(t:Tok):(jD a w).is (.inr x) (.str x t)=jx:=(ai4 x t)
inductive V where
 |cw|aX (b:Bool)|int (i:Int)|str (x:Str)|BZ (b:Array UInt8)|ze (b:UInt64)|ref (a:Addr)|ty (n:String)
 deriving DecidableEq
abbrev aL:= List V
abbrev lh:= Option V
def RelV:V->a5->Prop
 |.cw,u=>u=iA
 |.aX b,u=>u=Fz b
 |.int i,u=>∃t,u=qu i t
 |.str x,u=>∃t,u=wD x t
 |.BZ b,u=>∃t,u=Value.bytes b t
 |.ze b,u=>∃t,u=Š b t
 |.ref a,u=>u=c1 a
 |.ty n,u=>u=FA n
abbrev dM:List V->List a5->Prop:=b9 RelV
def dM.Z{b:aL}{a:en}(r:dM b a):b.Z=a.Z:=(jz r)
theorem dM.get:∀{b:aL}{a:en}{i:Nat}{x:V},dM b a->b[i]?=ja x->∃u,a[i]?=ja u/\RelV x u
 |_,_,_,_,.nil,e=>by simp at e
 |_,_,0,_,.cons r _,e=>by simp at e;subst e;show#[1,r]
 |_,_,i+1,x,.cons _ t,e=>by let#[u,c,d]:=dM.get (i:=i) (x:=x) t (by simpa using e);show#[u,by simpa using c,d]
def dM.append{c d:aL}{a b:en}(h:dM c a)(s:dM d b):dM (c++d) (a++b):=by
 induction h with
 |nil=>show-s
 |cons r _ e=>show-.cons r e
theorem dM.take:∀{b:aL}{a:en}(n:Nat),dM b a->dM (b.take n) (a.take n)
 |_,_,0,_=>.nil
 |_,_,_+1,.nil=>.nil
 |_,_,n+1,.cons r t=>.cons r (dM.take n t)
theorem dM.drop:∀{b:aL}{a:en}(n:Nat),dM b a->dM (b.drop n) (a.drop n)
 |_,_,0,r=>r
 |_,_,_+1,.nil=>.nil
 |_,_,n+1,.cons _ t=>dM.drop n t
def k6:Option V->Option a5->Prop
 |some v,ja u=>RelV v u
 |none,jp=>True
 |_,_=>False
def ia{a:Type}:List (a×V)->List (a×a5)->Prop:=b9 λ(p:a×V)(q:a×a5)=>p.1=q.1/\RelV p.2 q.2
def ec:bU->V
 |.inl i=>.int i
 |.inr x=>.str x
inductive hX where
  |lst(_:aL)
  |tup(_:aL)
  |cO(kvs:List (bU×V))|dA (kvs:List (List bU×V))
  |set(_:Int->Bool)(n:Nat)
  |ins(C ah:Addr)(_:List (Str×V))
  |own(x:Addr)
  |Oq(_:List (Str×V))
  |met(f x:Addr)
  |Nw(lo hi:Int)
  |fi(_:Obj)(_:hX)
  |su(_:mm)
  |ext(_:Heap->Prop)
abbrev af:=Addr->Option hX
def upd(H:af)(a:Addr)(o:hX):af:=λb=>if b=a then ja o else H b
def aN:upd H a o a=ja o:=by unfold upd;rw[b2 rfl]
def aJ{H:af}(h:b≠a):upd H a o b=H b:=by unfold upd;rw[bL h]
def Ou:upd (upd H a o) a u=upd H a u:=by funext b;unfold upd;split<;>rfl
def f5{H:af}(h:H a=ja o)(c:H b=ja u)(d:o≠u):a≠b:=by intro e;subst e;rw[h]at c;show-d (gN c)
def cI{H:af}(h:H a=ja o)(c:H b=jp):a≠b:=by intro e;subst e;rw[h]at c;cases c
section
variable(P:cx)(w:b0)
def fh(H:af)(h:Heap)(a:Addr):hX->Prop
 |.lst c=>c.Z<=sizeLine/\∃(b:en)(n:Nat),dM c b/\h.get? a=ja {cls:=.type "list",data:=.seq b.toArray n}
 |.tup c=>c.Z<=sizeLine/\∃b:List a5,dM c b/\rC h a b.toArray
 |.cO kvs=>kvs.Z<=sizeLine/\(a==k7)=jA/\∃vs,ia kvs vs/\h.DictOf (jD P w) a vs
 |.dA kvs=>kvs.Z<=sizeLine/\(a==k7)=jA/\∃c:List (List bU×Addr×a5),
   b9 (λ(p:List bU×V)(q:List bU×Addr×a5)=>p.1=q.1/\H q.2.1=ja (.tup (p.1.map ec))/\RelV p.2 q.2.2) kvs c/\
   ∃o l m,h.get? a=ja o/\o.ExactDict/\o.data=.dict l m/\l.G=c.map (F1 (xK (jD P w)))/\(c.map (·.1)).Nodup
 |.set S n=>h.SetOf (intKind P w) a S n
 |.ins C ah fs=>H ah=ja (.own a)/\fs.Z<=1000/\ah≠a/\h.get? a=ja (yN C ah)/\
   ∃d,h.Ns1 ah d/\(∀f,k6 (fs.lookup f) (d f))/\BE d (fs.map (·.1))
 |.own _=>∃o,h.get? a=ja o
 |.Oq fs=>∃d,h.Ns1 a d/\∀f,k6 (fs.lookup f) (d f)
 |.Nw lo i=>∃t u v,h.get? a=ja {cls:=.type "range",data:=.fields (List.toArray [.int lo t,.int i u,.int 1 v])}
 |.fi o u=>h.get? a=ja o/\fh H h a u
 |.su j=>h.get? a=ja {cls:=.none,data:=.fields j}
 |.met f x=>h.get? a=ja (ĭ (.ref f) (.ref x))
 |.ext e=>e h/\(∃o,h.get? a=ja o)/\∀g k:Heap,e g->(∀o,g.get? a=ja o->k.get? a=ja o)->e k
def gK(H:af)(h:Heap):Prop:=∀a o,H a=ja o->fh P w H h a o
end
section
variable{P:cx}{w:b0}{H H':af}{h h':Heap}{a:Addr}{o:hX}
def fh.lt(x:fh P w H h a o):a<h.Y:=by
 cases o with
 |lst xs=>let#[6,6,e]:=x;show-dO e
 |tup xs=>let#[6,_,p]:=x;show-p.lt
 |cO kvs=>let#[6,6,o,6,e,_]:=x;show-dO e
 |dA kvs=>let#[6,6,o,6,e,_]:=x;show-dO e
 |set S n=>let#[o,6,_,e,_]:=x;show-dO e
 |ins C ah fs=>let#[6,_,e,_]:=x;show-dO e
 |own y=>let#[_,e]:=x;show-dO e
 |Oq fs=>let#[_,#[6,_,e,_],_]:=x;show-dO e
 |Nw lo i=>let#[6,_,e]:=x;show-dO e
 |fi ob u=>let#[e,_]:=x;show-dO e
 |su j=>show-dO (show h.get? a=ja _ from x)
 |met f y=>show-dO (show h.get? a=ja _ from x)
 |ext b=>let#[_,#[_,e],_]:=x;show-dO e
def b9.ju{g k:Type}{F G:g->k->Prop}{c:List g}{d:List k}(h:b9 F c d)(f:∀a b,F a b->G a b):b9 G c d:=by
 induction h with
 |nil=>show-.nil
 |cons r _ e=>show-.cons (f _ _ r) e
def fh.pn(x:fh P w H h a o)(k:∀b u,(b=a\/H b=ja (.own a))->h.get? b=ja u->h'.get? b=ja u)(aY:∀b,H b=ja (.own a)->H' b=ja (.own a))(s:∀b K,H b=ja (.tup K)->H' b=ja (.tup K)):fh P w H' h' a o:=by
 induction o with
 |lst K=>let#[z,A,n,r,e]:=x;show#[z,A,n,r,k _ _ (.inl rfl) e]
 |tup K=>let#[z,A,r,g,e,c]:=x;show#[z,A,r,g,k _ _ (.inl rfl) e,c]
 |cO kvs=>let#[z,y,vs,r,g,m,l,e,c]:=x;show#[z,y,vs,r,g,m,l,k _ _ (.inl rfl) e,c]
 |dA kvs=>
  let#[z,y,K,r,g,m,l,e,c]:=x;show#[z,y,K,b9.ju r λp q z=>#[z.1,s _ _ z.2.1,z.2.2],g,m,l,k _ _ (.inl rfl) e,c]
 |set S n=>let#[g,m,l,t,e,c]:=x;show#[g,m,l,t,k _ _ (.inl rfl) e,c]
 |ins C ah fs=>
  let#[d,z,B,e,N,#[L,m,l,V,c],r]:=x;show#[aY _ d,z,B,k _ _ (.inl rfl) e,N,#[L,m,l,k _ _ (.inr d) V,c],r]
 |own y=>let#[g,e]:=x;show#[g,k _ _ (.inl rfl) e]
 |Oq fs=>let#[N,#[L,m,l,e,c],r]:=x;show#[N,#[L,m,l,k _ _ (.inl rfl) e,c],r]
 |Nw lo D=>let#[t,u,v,e]:=x;show#[t,u,v,k _ _ (.inl rfl) e]
 |fi g u j=>let#[e,q]:=x;show#[k _ _ (.inl rfl) e,j q]
 |su i=>
  let e:h.get? a=ja {cls:=.none,data:=.fields i}:=x;show h'.get? a=ja {cls:=.none,data:=.fields i};show-k a _ (.inl rfl) e
 |met f y=>
  let e:h.get? a=ja (ĭ (.ref f) (.ref y)):=x;show h'.get? a=ja (ĭ (.ref f) (.ref y));show-k a _ (.inl rfl) e
 |ext E=>let#[p,#[o,e],st]:=x;show#[st _ _ p λo q=>k _ _ (.inl rfl) q,#[o,k _ _ (.inl rfl) e],st]
def gK.lt(x:gK P w H h)(e:H a=ja o):a<h.Y:=((x a o e).lt)
def gK.fresh(x:gK P w H h)(e:h.Y<=a):H a=jp:=by
 cases q:H a with
 |none=>rfl
 |some u=>show-bk (jk (x.lt q) e) (qp _)
theorem gK.kept(x:gK P w H h)(k:∀b u,h.get? b=ja u->h'.get? b=ja u):gK P w H h':=λa o e=>
 (x a o e).pn (λb u _ q=>k b u q) (λ_ q=>q) λ_ _ q=>q
theorem gK.laid(x:gK P w H h)(k:∀b u,h.get? b=ja u->h'.get? b=ja u)(l:h.Y<=a)(d:fh P w (upd H a o) h' a o):gK P w (upd H a o) h':=λb u e=>by
 let g:=x.fresh l;by_cases f:b=a
 .subst f;rw[aN]at e;cases e;show-d
 rw[aJ f]at e;exact(x b u e).pn (λc v _ q=>k c v q) (λc q=>by rwa[aJ (cI q g)]) λc m q=>by rwa[aJ (cI q g)]
end
def f9(H:af)(a:Addr)(u:hX):Prop:=H a=ja u\/∃o,H a=ja (.fi o u)
def f9.ok{a:Addr}(r:f9 H a u)(x:gK P w H h):fh P w H h a u:=by
 rcases r with r|⟨o,r⟩
 .exact x a u r
 let#[_,q]:=x a _ r;show-q
def E3:Option hX->Prop
 |some (.lst _)=>True
 |some (.cO _)=>True
 |some (.dA _)=>True
 |some (.set _ _)=>True
 |some (.ins _ _ _)=>True
 |some (.ext _)=>True
 |_=>False
section
variable{P:cx}{w:b0}{H:af}{h h':Heap}{x e:Addr}{cN:hX}
theorem gK.write(ok:gK P w H h)(dz:E3 (H x))(o:e=x\/H e=ja (.own x))(k:∀b u,b≠e->h.get? b=ja u->h'.get? b=ja u)(t:∃u,h'.get? e=ja u)(n:fh P w (upd H x cN) h' x cN):gK P w (upd H x cN) h':=λb u q=>by
 let a:∀c y,H c=ja (.own y)->c≠x:=λc y r z=>by subst z;rw[r]at dz;show-dz
 let m:∀c l,H c=ja (.tup l)->c≠x:=λc l r z=>by subst z;rw[r]at dz;exact dz
 by_cases d:b=x
 .subst d;rw[aN]at q;cases q;show-n
 rw[aJ d]at q;by_cases g:b=e
 .let p:H b=ja (.own x):=by
   rcases o with z|z
   .exact bk (g.trans z) d
   rwa[g]
  rw[q]at p;cases p;let#[v,A]:=t;show#[v,by rwa[g]]
 refine(ok b u q).pn (λc v f r=>k c v ?_ r) (λc r=>by rwa[aJ (a c b r)]) λc l r=>by rwa[aJ (m c l r)]
 rcases f with rfl|f
 .exact g
 rintro rfl;rcases o with z|z
 .exact a c b f z
 rw[f]at z;cases z;exact d rfl
end
structure iO(fs ex:b5)(H H':af)(h h':Heap):Prop where
 keep:∀b o,h.get? b=ja o->H b=jp->b∉fs->b∉ex->h'.get? b=ja o
 slot:∀b o,h.get? b=ja o->H b=jp->b∈fs->b∉ex->∃bz,h'.get? b=ja {o with slots:=bz}
 free:∀b o,h.get? b=ja o->H b=jp->b∉ex->H' b=jp
 there:∀b o,h.get? b=ja o->b∉ex->∃cN,h'.get? b=ja cN
 gZ:∀b xs,H b=ja (.tup xs)->H' b=ja (.tup xs)
 jq:∀b o u,H b=ja (.fi o u)->H' b=ja (.fi o u)
 jO:∀b ps,H b=ja (.su ps)->∃more,H' b=ja (.su (ps++more))
section
variable{fs avw ex aDm:b5}{H H1 ag:af}{h ai ak h':Heap}{a x e:Addr}{o:hX}
def iO.any(u:iO fs ex H H1 h ai){b:Addr}(q:h.get? b=ja ob)(n:H b=jp)(d:b∉ex):∃f,ai.get? b=ja {ob with slots:=f}:=by
 by_cases c:b∈fs
 .exact u.slot b ob q n c d
 show#[ob.slots,u.keep b ob q n c d]
theorem iO.kept(k:∀b u,h.get? b=ja u->h'.get? b=ja u):iO fs ex H H h h':=
 #[λb c q _ _ _=>k b c q,λb c q _ _ _=>#[c.slots,k b c q],λ_ _ _ n _=>n,λb c q _=>#[c,k b c q],λ_ _ q=>q,λ_ _ _ q=>q,λ_ d q=>#[#[],by rw[q];simp]]
def iO.refl:iO fs ex H H h h:=(iO.kept λ_ _ q=>q)
theorem iO.laid(k:∀b u,h.get? b=ja u->h'.get? b=ja u)(d:h.Y<=a)(c:H a=jp):iO fs ex H (upd H a o) h h' where
 keep:=λb u q _ _ _=>k b u q
 slot:=λb u q _ _ _=>#[u.slots,k b u q]
 free:=λb u q n _=>by rwa[aJ (fH (jk (dO q) d))]
 there:=λb u q _=>#[u,k b u q]
 gZ:=λb f q=>by rwa[aJ (cI q c)]
 jq:=λb u f q=>by rwa[aJ (cI q c)]
 jO:=λb g q=>#[#[],by rw[aJ (cI q c),q];simp]
def iO.write(dz:E3 (H x))(l:e=x\/H e=ja (.own x))(k:∀b u,b≠e->h.get? b=ja u->h'.get? b=ja u)(g:∃u,h'.get? e=ja u):iO fs ex H (upd H x o) h h':=by
 let d:∀b,H b=jp->b≠x:=λb n z=>by subst z;rw[n]at dz;show-dz
 let c:∀b,H b=jp->b≠e:=λb n z=>by
  subst z;rcases l with r|r
  .exact d b n r
  rw[n]at r;cases r
 let hm:∀b u,H b=ja u->¬E3 (ja u)->b≠x:=λb u q m z=>by subst z;rw[q]at dz;show-m dz
 show#[λb u q n _ _=>k b u (c b n) q,λb u q n _ _=>#[u.slots,k b u (c b n) q],λb u q n _=>by rwa[aJ (d b n)],λb u q _=>?_,
  λb p q=>by rwa[aJ (hm b _ q λz=>z)],λb u p q=>by rwa[aJ (hm b _ q λz=>z)],λb t q=>#[#[],by rw[aJ (hm b _ q λz=>z),q];simp]]
 by_cases f:b=e
 .subst f;show-g
 show#[u,k b u f q]
end
def NX(h:Heap)(H:af):List Addr:=(fk h.Y).filter λa=>(H a).isSome
def t2(h:Heap)(H:af):Heap:=nS h (NX h H)
def ai5(h:Heap)(H:af):(t2 h H).objs.size=h.Y:=(PySem.W.hideAll_size _ _)
theorem ajR{h:Heap}{H:af}(e:h.get? b=ja o)(n:H b=jp):(t2 h H).get? b=ja o:=
 Ku _ e λhm=>by let q:(H b).isSome=jx:=(yB.mp hm).2;rw[n]at q;simp at q
def alN{h:Heap}{H:af}(e:(t2 h H).get? b=ja o):h.get? b=ja o/\H b=jp:=by
 let a:h.get? b=ja o:=QA (NX h H) e;show#[a,4];cases q:H b with
 |none=>rfl
 |some x=>
  let hm:b∈NX h H:=yB.mpr #[Bf.mpr (dO a),by simp[q]];let z:(t2 h H).get? b=jp:=ĩ (NX h H) hm;rw[z]at e;cases e
structure Mod(K:aI)(mg:b6)(base:Heap):Prop where
 tF:K.In base
 glob:base.Ns sa mg
 blt:∃jK,base.Ns abF jK/\∀x:Str,x≠"__name__"->jK x=i9 x
 nolimit:base.NoLimit
structure bA where
 prog:cx
 w:b0
 K:aI
 mg:Str->Option a5
 base:Heap
 A:et
 N:List Str
 fD:aS
 ho:af
 env:Env
 outer:List Env
 stack:List Env
 ex:List Addr
 fn:Str->Bool
 calm:Bool
 de:List (Addr×Obj)
 dN:a5->aS->Prop
def fa(l:List Env):List Addr:=l.filterMap (·.frame)
abbrev bA.fs(X:bA):List Addr:=fa X.outer
def Q8(a:Scope)(x:Str):Prop:=a.names.lookup x=ja .local\/a.names.lookup x=ja .cell\/a.names.lookup x=ja .free
def Loc(a:Scope)(x:Str):Prop:=a.names.lookup x=ja .local\/a.names.lookup x=ja .cell
def Look(a:Env)(h:Heap)(m:b6)(x:Str)(u:a5):Prop:=
 (a.kindOf x=ja .local/\m x=ja u)\/((a.kindOf x=ja .cell\/a.kindOf x=ja .free)/\∃c,a.cells.lookup x=ja c/\h.IsCell c (ja u))
structure bA.Ok(X:bA):Prop where
 mod:Mod X.K X.mg X.base
 kind:X.env.scope.kind=.function
 glob:X.env.globals=sa
 blt:X.env.builtins=abF
 above:X.fD.L<=X.env.locals
 inj:∀x y c,X.env.cells.lookup x=ja c->X.env.cells.lookup y=ja c->x=y
 has:∀x,(X.env.kindOf x=ja .cell\/X.env.kindOf x=ja .free)->∃c,X.env.cells.lookup x=ja c
 y0:∀x c,X.fn x=jx->X.env.cells.lookup x=ja c->X.fD.L<=c
 hd:X.calm=jx->X.A.handled=jp
 frames:X.A.frames=ja X.stack
 tN:X.stack=X.outer\/(X.stack=X.env::X.outer/\X.env.frame=ja X.env.locals)
 LD:∀b∈X.ex,b≠X.env.locals/\∀x c,X.env.cells.lookup x=ja c->c≠b
 bs:∀b o,X.base.get? b=ja o->X.fD.heap.get? b=ja o/\X.ho b=jp
 tf:X.base.Y<=X.fD.L
 zV:∀b o,X.base.get? b=ja o->b∉X.ex
 B9:∀b∈X.ex,b∉X.fs
 l0:X.fD.heap.FunFrames X.base X.outer
 uW:∀b∈X.fs,X.ho b=jp
structure Inv(X:bA)(pins:dU)(U:List (Option V))(H:af)(s:aS):Prop where
 ok:X.Ok
 os:s.os=X.fD.os
 bare:tY s.gens
 base:iO X.fs X.ex X.ho H X.fD.heap s.Q
 loc:∃m,s.heap.Ns X.env.locals m/\∀(i:Nat)(x:Str)(v:V),X.N[i]?=ja x->U[i]?=ja (ja v)->Q8 X.env.scope x->∃u,RelV v u/\Look X.env s.heap m x u
 cell:∀x c,X.env.cells.lookup x=ja c->∃v,s.heap.IsCell c v
 free:H X.env.locals=jp
 oY:∀x c,X.env.cells.lookup x=ja c->H c=jp
 pin:∀p∈X.de++pins,s.heap.get? p.1=ja p.2/\H p.1=jp/\p.1≠X.env.locals/\p.1∉X.fs/\∀v,p.2.data≠.cell v
 bC:gK X.prog X.w H s.Q
 len:U.Z=X.N.Z
section
variable{X:bA}{pins:dU}{U:List (Option V)}{H H':af}{s:aS}{h':Heap}
def bA.Ok.ayf(ok:X.Ok){b:Addr}(e:X.base.get? b=ja o):b∉X.fs:=(λa=>by have:=(ok.l0.mem a).1;rw[e]at this;cases this)
theorem Inv.bs(I:Inv X pins U H s):∀b o,X.base.get? b=ja o->s.heap.get? b=ja o/\H b=jp:=λb o e=>
 #[I.base.keep b o (I.ok.bs b o e).1 (I.ok.bs b o e).2 (I.ok.ayf e) (I.ok.zV b o e),I.base.free b o (I.ok.bs b o e).1 (I.ok.bs b o e).2 (I.ok.zV b o e)]
def Inv.i8(I:Inv X pins U H s):∀b o,X.base.get? b=ja o->s.heap.get? b=ja o:=(λb o e=>(I.bs b o e).1)
def Inv.mod(I:Inv X pins U H s):Mod X.K X.mg X.base:=(I.ok.mod)
def Inv.e1(I:Inv X pins U H s):X.K.In s.Q:=(I.ok.mod.tF.keeps I.i8)
def Inv.lt(I:Inv X pins U H s):X.env.locals<s.L:=(let⟨_,a,_⟩:=I.loc;a.lt)
def Inv.oB(I:Inv X pins U H s):X.fD.L<=s.L:=(eh I.ok.above (mZ I.lt))
def Inv.ad7(I:Inv X pins U H s){a:Addr}(h:s.L<=a):a∉X.fs:=(λb=>by let#[_,o,aY,_]:=I.ok.l0.mem b;show-bk (jk (dO aY) (eh I.oB h)) (qp _))
def Inv.rU(I:Inv X pins U H s):∀x c,X.env.cells.lookup x=ja c->c≠X.env.locals:=(λx c e z=>by let#[v,o,aY,a]:=I.cell x c e;let#[m,#[f,k,g,b,d,_],_]:=I.loc;rw[z,b]at aY;cases aY;rw[d]at a;cases a)
def Inv.l0(I:Inv X pins U H s):s.heap.FunFrames X.base X.outer:=by
 let all:∀(l:List Env),(∀b∈fa l,b∈X.fs)->X.fD.heap.FunFrames X.base l->s.heap.FunFrames X.base l:=by
  intro l
  induction l with
  |nil=>intro _ _;trivial
  |cons env r h=>
   intro f m;let#[g,#[L,o,c,p,aY,n],k]:=m;let d:L∈X.fs:=f L (by unfold fa;rw[ER,c];show-we);let#[t,e]:=I.base.slot L o aY (I.ok.uW L d) d λz=>I.ok.B9 L z d;show#[g,#[L,_,c,p,e,n],h (λb a=>f b (by unfold fa;rw[ER,c];show-nO _ a)) k]
 show-all X.outer (λ_ a=>a) I.ok.l0
def Inv.stack(I:Inv X pins U H s):s.heap.FunFrames X.base X.stack:=by
 rcases I.ok.tN with e|⟨e,h⟩
 .rw[e];show-I.l0
 rw[e];let#[m,a,_]:=I.loc;show-.cons (by rw[I.ok.kind];decide) h a ?_ I.l0;show-υ (eh I.ok.tf I.ok.above)
theorem Inv.DF(I:Inv X pins U H s):∀b∈fa X.stack,b∈X.env.locals::X.fs:=λb a=>by
 rcases I.ok.tN with e|⟨e,h⟩
 .rw[e]at a;show-nO _ a
 rw[e]at a;unfold fa at a;rwa[ER,h]at a
theorem Inv.NS(I:Inv X pins U H s):∀b∈fa X.stack,H b=jp:=λb a=>by
 rcases dQ.mp (I.DF b a)with e|a
 .rw[e];show-I.free
 let#[_,o,aY,_]:=I.ok.l0.mem a;show-I.base.free b o aY (I.ok.uW b a) λz=>I.ok.B9 b z a
def Inv.step{g':Array GenState}{t':Nat}{d':Drawn}{ch:b5}(I:Inv X pins U H s)(jZ:∀b∈ch,(b∈X.ex\/X.fD.L<=b)/\b≠X.env.locals/\(∀x c,X.env.cells.lookup x=ja c->c≠b)/\∀p∈X.de++pins,p.1≠b)(t:∀b o,b≠X.env.locals->b∉X.fs->b∉ch->s.heap.get? b=ja o->H b=jp->h'.get? b=ja o)(y:∀b o,b≠X.env.locals->b∈X.fs->b∉ch->s.heap.get? b=ja o->H b=jp->∃F,h'.get? b=ja {o with slots:=F})(f:∀b o,b∉ch->s.heap.get? b=ja o->H b=jp->H' b=jp)(L:∀b o,b∉ch->s.heap.get? b=ja o->∃j,h'.get? b=ja j)(Z:∀b A,H b=ja (.tup A)->H' b=ja (.tup A))(jq:∀b o u,H b=ja (.fi o u)->H' b=ja (.fi o u))(jO:∀b E,H b=ja (.su E)->∃B,H' b=ja (.su (E++B)))(ns:∀m,s.heap.Ns X.env.locals m->h'.Ns X.env.locals m)(R:gK X.prog X.w H' h')(hg:tY g'):
  Inv X pins U H' {s with heap:=h',gens:=g',drawn:=d',toks:=t'}:=by
 let h:∀b o,X.fD.heap.get? b=ja o->b≠X.env.locals:=λb o e=>fH (jk (dO e) I.ok.above);let D:∀b o,X.fD.heap.get? b=ja o->b∉X.ex->b∉ch:=λb o e a K=>by
  rcases(jZ b K).1 with z|z
  .exact a z
  show-bk (jk (dO e) z) (qp _)
 let g:∀x c,X.env.cells.lookup x=ja c->∀v,s.heap.IsCell c v->h'.IsCell c v:=λx c e v⟨o,aY,G⟩=>by
  let C:c∉ch:=λz=>(jZ c z).2.2.1 x c e rfl;by_cases J:c∈X.fs
  .let#[F,q]:=y c o (I.rU x c e) J C aY (I.oY x c e);show#[_,q,G]
  show#[o,t c o (I.rU x c e) J C aY (I.oY x c e),G]
 show#[I.ok,I.os,hg,#[λb o e n K a=>?_,λb o e n K a=>?_,λb o e n a=>?_,λb o e a=>?_,λb A e=>Z b A (I.base.gZ b A e),λb o A e=>jq b o A (I.base.jq b o A e),λb E e=>?_],4,λx c e=>?_,4,λx c e=>?_,λp M=>?_,R,I.len]
 .exact t b o (h b o e) K (D b o e a) (I.base.keep b o e n K a) (I.base.free b o e n a)
 .let#[F,w]:=I.base.slot b o e n K a;let#[qd,N]:=y b _ (h b o e) K (D b o e a) w (I.base.free b o e n a);show#[qd,N]
 .let#[j,w]:=I.base.there b o e a;show-f b j (D b o e a) w (I.base.free b o e n a)
 .let#[j,w]:=I.base.there b o e a;show-L b j (D b o e a) w
 .let#[Y,w]:=I.base.jO b E e;let#[hc,N]:=jO b _ w;show#[Y++hc,by rw[N,Ej]]
 .let#[m,hn,Q]:=I.loc;show#[m,ns m hn,λi x v w N T=>?_];let#[u,r,l]:=Q i x v w N T;show#[u,r,4];rcases l with l|⟨k,c,e,z⟩
  .exact .inl l
  show-.inr #[k,c,e,g x c e _ z]
 .let#[v,z]:=I.cell x c e;show#[v,g x c e v z]
 .let#[m,#[o,6,aY,_],_]:=I.loc;show-f _ o (λz=>(jZ _ z).2.1 rfl) aY I.free
 .let#[v,o,aY,G]:=I.cell x c e;show-f c o (λz=>(jZ c z).2.2.1 x c e rfl) aY (I.oY x c e)
 let#[e,n,P,O,d]:=I.pin p M;let C:p.1∉ch:=λz=>(jZ p.1 z).2.2.2 p M rfl;show#[t p.1 p.2 P O C e n,f p.1 p.2 C e n,P,O,d]
def Inv.un{t':Nat}(I:Inv X pins U H s)(u:iO X.fs [] H H' s.heap h')(d:gK X.prog X.w H' h'):Inv X pins U H' {s with heap:=h',toks:=t'}:=by
 let#[m,#[o,A,y,aY,r],_]:=id I.loc;let#[p,g]:=u.any aY I.free qv;show-I.step (g':=s.gens) (d':=s.drawn) (ch:=[]) (λ_ z=>nomatch z) (λb o _ a _ e n=>u.keep b o e n a qv) (λb o _ a _ e n=>u.slot b o e n a qv) (λb o _ e n=>u.free b o e n qv) (λb o _ e=>u.there b o e qv) u.gZ u.jq u.jO (λw hm=>by
  let#[t,l,k,c,f]:=hm;rw[aY]at c;cases c;show#[_,l,k,g,f]) d I.bare
def Inv.call{g':Array GenState}{t':Nat}{d':Drawn}{ch:b5}(I:Inv X pins U H s)(u:iO (fa X.stack) ch H H' s.heap h')(k:gK X.prog X.w H' h')(t:tY g')(jZ:∀b∈ch,(b∈X.ex\/X.fD.L<=b)/\b≠X.env.locals/\(∀x c,X.env.cells.lookup x=ja c->c≠b)/\∀p∈X.de++pins,p.1≠b):
  Inv X pins U H' {s with heap:=h',gens:=g',drawn:=d',toks:=t'}:=by
 let#[m,#[o,h,N,aY,r],_]:=id I.loc;let#[A,d]:=u.any aY I.free λz=>(jZ _ z).2.1 rfl;show-I.step (ch:=ch) jZ (λb o d g a e n=>u.keep b o e n (λz=>(dQ.mp (I.DF b z)).elim d g) a) (λb o _ _ a e n=>u.any e n a) (λb o a e n=>u.free b o e n a) (λb o a e=>u.there b o e a) u.gZ u.jq u.jO (λL hm=>by
  let#[K,y,w,f,l]:=hm;rw[aY]at f;cases f;show#[_,y,w,d,l]) k t
def Inv.turned{t':Nat}{a:Addr}(I:Inv X pins U H s)(k:∀b o,b≠a->s.heap.get? b=ja o->h'.get? b=ja o)(L:H a=jp)(g:a≠X.env.locals)(w:a∈X.ex\/X.fD.L<=a)(y:∀x c,X.env.cells.lookup x=ja c->c≠a)(l:∀p∈X.de++pins,p.1≠a):Inv X pins U H {s with heap:=h',toks:=t'}:=by
 let f:∀b u,H b=ja u->b≠a:=λb u e z=>by rw[z,L]at e;cases e
 refine I.step (g':=s.gens) (d':=s.drawn) (ch:=[a]) (λb t=>?_) (λb o _ _ d e _=>k b o (λz=>d (by simp[z])) e) (λb o _ _ d e _=>#[o.slots,k b o (λz=>d (by simp[z])) e]) (λ_ _ _ _ n=>n)
  (λb o d e=>#[o,k b o (λz=>d (by simp[z])) e]) (λ_ _ e=>e) (λ_ _ _ e=>e) (λb N e=>#[#[],by rw[e];simp]) (λm hm=>?_) (λb u e=>?_) I.bare
 .let e:b=a:=by simpa using t
  subst e;show#[w,g,y,l]
 .let#[o,K,A,aY,r]:=hm;show#[o,K,A,k _ o (dG g) aY,r]
 refine(I.bC b u e).pn (λc v d q=>k c v ?_ q) (λ_ q=>q) λ_ _ q=>q;rcases d with z|z
 .rw[z];show-f b u e
 show-f c _ z
def Inv.tok(I:Inv X pins U H s)(t:Nat):Inv X pins U H {s with toks:=t}:=(I.un (h':=s.Q) (t':=t) iO.refl I.bC)
def Inv.kept{t':Nat}(I:Inv X pins U H s)(k:∀b u,s.heap.get? b=ja u->h'.get? b=ja u):Inv X pins U H {s with heap:=h',toks:=t'}:=(I.un (iO.kept k) (I.bC.kept k))
theorem Inv.laid{a:Addr}{t':Nat}(I:Inv X pins U H s)(k:∀b u,s.heap.get? b=ja u->h'.get? b=ja u)(c:s.L<=a)(d:fh X.prog X.w (upd H a o) h' a o):
  Inv X pins U (upd H a o) {s with heap:=h',toks:=t'}:=I.un (iO.laid k c (I.bC.fresh c)) (I.bC.laid k c d)
def Inv.write{x:Addr}{t':Nat}(I:Inv X pins U H s)(dz:E3 (H x))(d:e=x\/H e=ja (.own x))(k:∀b u,b≠e->s.heap.get? b=ja u->h'.get? b=ja u)(c:∃u,h'.get? e=ja u)(a:fh X.prog X.w (upd H x o) h' x o):Inv X pins U (upd H x o) {s with heap:=h',toks:=t'}:=(I.un (iO.write dz d k c) (I.bC.write dz d k c a))
theorem Inv.aeq{a:dU}(I:Inv X pins U H s)(h:∀p∈a,s.heap.get? p.1=ja p.2/\H p.1=jp/\p.1≠X.env.locals/\p.1∉X.fs/\∀v,p.2.data≠.cell v):Inv X a U H s:=
 #[I.ok,I.os,I.bare,I.base,I.loc,I.cell,I.free,I.oY,λp b=>(iM.mp b).elim (λz=>I.pin p (Õ _ z)) (h p),I.bC,I.len]
def Zk{N:bY}(f:N.Nodup){i j:Nat}(a:N[i]?=ja x)(b:N[j]?=ja x):i=j:=by let#[g,c]:=gM.mp a;let#[k,d]:=gM.mp b;exact(ah1 f).mp (c.trans d.J)
def ZO{M:mY}{E:cL}{i:Nat}{Q:Unit->aS->Prop}(I:Inv X pins U H s)(fK:X.N.Nodup)(F:X.N[i]?=ja x)(w:Loc X.env.scope x)(r:RelV v u)(h:∀s',Inv X pins (U.set i (ja v)) H s'->(∃a,j7 a s.heap s'.Q/\(a=X.env.locals\/X.env.cells.lookup x=ja a))->Q () s')(bG:X.fn x=jx\/X.env.scope.names.lookup x=ja .local:=by first|exact .inl rfl|exact .inr rfl|assumption):aQ M A (storeName X.env x u) Q E s:=by
 let#[m,hn,au]:=id I.loc;let Ua:(X.env.scope.kind==.class||(X.env.scope.kind==.module&&X.env.locals !=X.env.globals))=jA:=by rw[I.ok.kind];rfl
 let Mp:i<U.Z:=by rw[I.len];exact(gM.mp F).1
 let rU:=I.rU;let l:∀{a:Addr}{h':Heap},(∃o,s.heap.get? a=ja o/\H a=jp)->j7 a s.heap h'->gK X.prog X.w H h':=λ{a h'}aB f b ob e=>by
  let#[6,Mn]:=aB;refine(I.bC b ob e).pn (λc G t q=>(f.2 c ?_).trans q) (λ_ q=>q) λ_ _ q=>q;rintro rfl;rcases t with rfl|t
  .rw[Mn]at e;cases e
  rw[Mn]at t;cases t
 rcases w with L|L
 .refine wpAny_storeName_local L hn (λh' kq f=>?_) Ua;let#[Z,6,T,_]:=id hn;show-h _ #[I.ok,I.os,I.bare,#[λb o e n N w=>?_,λb o e n N w=>?_,I.base.free,λb o e w=>?_,I.base.gZ,I.base.jq,I.base.jO],#[_,kq,λj y xV g K cz=>?_],λy c e=>?_,I.free,I.oY,λp R=>?_,l #[Z,T,I.free] f,by simpa using I.len] #[_,f,.inl rfl]
  .exact(f.2 b (fH (jk (dO e) I.ok.above))).trans (I.base.keep b o e n N w)
  .let#[bz,g]:=I.base.slot b o e n N w;show#[bz,(f.2 b (fH (jk (dO e) I.ok.above))).trans g]
  .let#[cN,g]:=I.base.there b o e w;show#[cN,(f.2 b (fH (jk (dO e) I.ok.above))).trans g]
  .by_cases B:j=i
   .subst B;rw[F]at g;cases g;rw[Ò Mp]at K;cases K;show#[u,r,.inl #[L,by simp]]
   rw[JT (dG B)]at K;let#[u',d6,q]:=au j y xV g K cz;show#[u',d6,4];rcases q with⟨k,e⟩|⟨k,c,e,z⟩
   .refine .inl #[k,4];have:y≠x:=λe=>B (Zk fK g (e▸F));simp[this,e]
   show-.inr #[k,c,e,z.sameBut f (rU y c e)]
  .let#[G,z]:=I.cell y c e;show#[G,z.sameBut f (rU y c e)]
  let#[e,n,J,hy,d]:=I.pin p R;show#[(f.2 p.1 J).trans e,n,J,hy,d]
 let P:X.fn x=jx:=by
  rcases bG with z|z
  .exact z
  rw[z]at L;cases L
 let#[c,t]:=I.ok.has x (.inl L);let#[G,z]:=I.cell x c t;show-wpAny_storeName_cell I.ok.kind L t z (λh' w5 f=>?_);let#[lF,D,Y]:=id z;refine h {s with heap:=h'} #[I.ok,I.os,I.bare,#[λb o e n N w=>?_,λb o e n N w=>?_,I.base.free,λb o e w=>?_,I.base.gZ,I.base.jq,I.base.jO],#[m,hn.sameBut f (dG (rU x c t)),λj y xV g K cz=>?_],λy O e=>?_,I.free,I.oY,λp R=>?_,l #[lF,D,I.oY x c t] f,by simpa using I.len] #[c,f,.inr t]
 .exact(f.2 b (fH (jk (dO e) (I.ok.y0 x c P t)))).trans (I.base.keep b o e n N w)
 .let#[bz,g]:=I.base.slot b o e n N w;show#[bz,(f.2 b (fH (jk (dO e) (I.ok.y0 x c P t)))).trans g]
 .let#[cN,g]:=I.base.there b o e w;show#[cN,(f.2 b (fH (jk (dO e) (I.ok.y0 x c P t)))).trans g]
 .by_cases B:j=i
  .subst B;rw[F]at g;cases g;rw[Ò Mp]at K;cases K;show#[u,r,.inr #[.inl L,c,t,w5]]
  rw[JT (dG B)]at K;let#[u',d6,q]:=au j y xV g K cz;show#[u',d6,4];rcases q with q|⟨k,O,e,d1⟩
  .exact .inl q
  show-.inr #[k,O,e,d1.sameBut f ?_];rintro rfl;exact B (Zk fK g (I.ok.inj _ _ _ e t▸F))
 .by_cases C:O=c
  .subst C;show#[_,w5]
  let#[h_,aE]:=I.cell y O e;show#[h_,aE.sameBut f C]
 let#[e,n,J,hy,d]:=I.pin p R;show#[(f.2 p.1 ?_).trans e,n,J,hy,d];intro q;rw[q,D]at e;let k4:lF=p.2:=gN e;show-d G (by rwa[<-k4])
theorem Om{M:mY}{E:cL}{i:Nat}{Q:Unit->aS->Prop}(I:Inv X pins U H s)(d:X.N.Nodup)(f:X.N[i]?=ja x)(b:Loc X.env.scope x)(r:RelV v u)(h:∀a,Inv X pins (U.set i (ja v)) H a->Q () a)(c:X.fn x=jx\/X.env.scope.names.lookup x=ja .local:=by first|exact .inl rfl|exact .inr rfl|assumption):aQ M A (storeName X.env x u) Q E s:=
 ZO I d f b r (λa g _=>h a g) c
def Inv.Lm{s':aS}{ch:b5}(I:Inv X pins U H s)(aY:s'.os=s.os)(u:iO (fa X.stack) ch H H' s.heap s'.Q)(a:gK X.prog X.w H' s'.Q)(f:tY s'.gens)(jZ:∀b∈ch,(b∈X.ex\/X.fD.L<=b)/\b≠X.env.locals/\(∀x c,X.env.cells.lookup x=ja c->c≠b)/\∀p∈X.de++pins,p.1≠b):Inv X pins U H' s':=by let#[h',g',d',t',d]:=s';let e:d=s.os:=aY;subst e;show-I.call (g':=g') (t':=t') (d':=d') u a f jZ
end
abbrev bF:=a5->Option Addr->af->Prop
abbrev St:=List (Option V)
abbrev aO:=V->af->Prop
abbrev TE:=St->af->aO->Prop
abbrev iz:=St->af->(Bool->af->Prop)->Prop
abbrev fR:=St->af->(List V->af->Prop)->Prop
structure Ends where
 dq:St->af->Prop
 gz:aO
 i8:St->af->Prop:=λ_ _=>False
 gd:St->af->Prop:=λ_ _=>False
abbrev fJ:=Ends->St->af->Prop
inductive jh(X:bA)(pins:dU)(U:St)(Q:aO)(u:a5)(s':aS):Prop where
 |mk(v:V)(H':af)(_:Inv X pins U H' s')(_:RelV v u)(_:Q v H')
def Kx(X:bA)(a:dU)(U:St)(Q:Bool->af->Prop)(b:Bool)(c:aS):Prop:=∃H',Inv X a U H' c/\Q b H'
inductive Zm(X:bA)(pins:dU)(U:St)(Q:List V->af->Prop)(us:en)(s':aS):Prop where
 |mk(vs:aL)(H':af)(_:Inv X pins U H' s')(_:dM vs us)(_:Q vs H')
def uy(X:bA)(a:dU)(D:Ends)(f:Flow)(c:aS):Prop:=
 match f with
 |.next=>∃b H',Inv X a b H' c/\D.dq b H'
 |.brk=>∃b H',Inv X a b H' c/\D.i8 b H'
 |.cont=>∃b H',Inv X a b H' c/\D.gd b H'
 |.ret u=>∃v b H',Inv X a b H' c/\RelV v u/\D.gz v H'
def a'(X:bA)(e:Expr)(t:TE):Prop:=
 ∀(a:dU)(s:aS)(U:St)(H:af)(Q:aO),Inv X a U H s->t U H Q->aQ (bj X.prog X.w) X.A (eval e X.env) (jh X a U Q) X.dN s
def m2(X:bA)(e:Expr)(t:iz):Prop:=
 ∀(a:dU)(s:aS)(U:St)(H:af)(Q:Bool->af->Prop),Inv X a U H s->t U H Q->aQ (bj X.prog X.w) X.A (Cv e X.env (eval e X.env)) (Kx X a U Q) X.dN s
def lS(X:bA)(e:Expr)(t:iz):Prop:=
 ∀(b:Sem a5)(a:dU)(s:aS)(U:St)(H:af)(Q:Bool->af->Prop),Inv X a U H s->t U H Q->aQ (bj X.prog X.w) X.A (Cv e X.env b) (Kx X a U Q) X.dN s
def lS.pt{t:iz}(h:lS X e t):m2 X e t:=(h _)
def fI(X:bA)(c:hO)(t:fR):Prop:=
 ∀(b:Pos)(a:dU)(s:aS)(U:St)(H:af)(Q:List V->af->Prop),Inv X a U H s->t U H Q->aQ (bj X.prog X.w) X.A (spliced (hE b (dh c X.env))) (Zm X a U Q) X.dN s
def i7(X:bA)(st:Stmt)(t:fJ):Prop:=
 ∀(a:dU)(s:aS)(U:St)(H:af)(D:Ends),Inv X a U H s->t D U H->aQ (bj X.prog X.w) X.A (exec st X.env) (uy X a D) X.dN s
def ie(X:bA)(st:List Stmt)(t:fJ):Prop:=
 ∀(a:dU)(s:aS)(U:St)(H:af)(D:Ends),Inv X a U H s->t D U H->aQ (bj X.prog X.w) X.A (execs st X.env) (uy X a D) X.dN s
def bT{c:Type}{t:Sem c}{Q b:c->aS->Prop}{M:mY}{E:cL}(h:aQ M A t Q E s)(d:∀a s,Q a s->b a s):aQ M A t b E s:=(gB h d λ_ _ x=>x)
section
variable{X:bA}
inductive pz(i:Nat)(U:al.St)(H:af)(Q:aO):Prop where
 |mk(v:_)(_:U[i]?=ja (ja v))(_:Q v H)
def j6(v:V):TE:=λ_ H Q=>Q v H
def aok{i:Nat}(n:X.N[i]?=ja x)(g:Q8 X.env.scope x)(f:(x==("__debug__":Str))=jA:=by decide)(p:(x==("__classdict__":Str))=jA:=by decide):a' X (.Name x pos) (pz i):=by
 intro d s U H Q I h;let#[v,e,h]:=h;let#[m,o,k]:=I.loc;let#[u,r,l]:=k i x v n e g;let b:jh X d U Q u s:=#[v,H,I,r,h]
 rcases l with⟨a,hm⟩|⟨a,c,j,q⟩
 .exact afj (wpAny_loadName_local I.ok.kind a o hm b) f
 rcases a with a|a
 .exact afj (wpAny_loadName_cell I.ok.kind a j q b) f
 show-afj (wpAny_loadName_free I.ok.kind a j q b p) f
def bt{i j pos}:a' X (.Constant (.int i) j pos) (j6 (.int i)):=(λ_ _ _ H _ I h=>wpAny_Constant_int #[.int i,H,I.tok _,#[1],h])
def nv{b j pos}:a' X (.Constant (.bool b) j pos) (j6 (.aX b)):=(λ_ _ _ H _ I h=>Constant_bool #[.aX b,H,I,2,h])
def kn{j pos}:a' X (.Constant .none j pos) (j6 .cw):=(λ_ _ _ H _ I h=>Constant_none #[.cw,H,I,2,h])
def cF{x j pos}:a' X (.Constant (.str x) j pos) (j6 (.str x)):=(λ_ _ _ H _ I h=>Calls.Constant_str #[.str x,H,I.tok _,#[1],h])
def jR(X:bA)(x:Str):Prop:=X.env.kindOf x=ja .globalImplicit
theorem vq{E:cL}{Q:cL}(I:Inv X pins U H s)(b:jR X x)(hm:X.mg x=ja u)(h:Q u s)(a:(x==("__debug__":Str))=jA:=by decide):aQ (bj X.prog X.w) X.A (eval (.Name x pos) X.env) Q E s:=
 age I.ok.kind b (Calls.loadGlobal_global (by rw[I.ok.glob];show-I.mod.glob.keeps I.i8) hm h) a
def As{E:cL}{Q:cL}(I:Inv X pins U H s)(f:jR X x)(hm:X.mg x=jp)(a:i9 x=ja u)(h:Q u s)(g:x≠"__name__":=by decide)(d:(x==("__debug__":Str))=jA:=by decide):aQ (bj X.prog X.w) X.A (eval (.Name x pos) X.env) Q E s:=by let#[k,b,c]:=I.mod.blt;show-age I.ok.kind f (Calls.loadGlobal_builtin (by rw[I.ok.glob];show-I.mod.glob.keeps I.i8) hm (by rw[I.ok.blt];show-b.keeps I.i8) ((c x g).trans a) h) d
theorem Û(b:jR X x)(hm:X.mg x=ja u)(r:RelV v u)(a:(x==("__debug__":Str))=jA:=by decide):a' X (.Name x pos) (j6 v):=
 λ_ _ _ H _ I h=>vq I b hm #[v,H,I,r,h] a
theorem alO(c:jR X x)(hm:X.mg x=jp)(a:i9 x=ja u)(r:RelV v u)(d:x≠"__name__":=by decide)(b:(x==("__debug__":Str))=jA:=by decide):a' X (.Name x pos) (j6 v):=
 λ_ _ _ H _ I h=>As I c hm a #[v,H,I,r,h] d b
variable{a b:Expr}{cu bH:TE}{pos:Pos}
def E'(X:bA)(f:CmpOp)(a b:Expr)(t:TE):Prop:=
 ∀(c:dU)(s:aS)(U:St)(H:af)(Q:aO),Inv X c U H s->t U H Q->
  aQ (bj X.prog X.w) X.A (eval a X.env) (λv d=>aQ (bj X.prog X.w) X.A (eval b X.env) (λu g=>aQ (bj X.prog X.w) X.A (jU f v u) (jh X c U Q) X.dN g) X.dN d) X.dN s
def ε(b:Expr){c:CmpOp}(h:c≠.In)(g:c≠.NotIn):yX c b=jA:=by
 let d:(c==CmpOp.In)=jA:=by cases c<;>first|rfl|exact bk rfl h
 let f:(c==CmpOp.NotIn)=jA:=by cases c<;>first|rfl|exact bk rfl g
 cases b<;>simp[yX,d,f]
inductive Ω(x:V)(H1:af)(Q:Bool->af->Prop):Prop where
 |mk(c:_)(_:x=.aX c)(_:Q c H1)
def X2(t:TE):iz:=λU H Q=>t U H λx c=>Ω x c Q
def aol{d:CmpOp}{t:TE}(h:E' X d a b t)(f:yX d b=jA:=by first|exact ε _ qc qc|rfl):a' X (.Compare a [d] [b] pos) t:=(λc s U H Q I g=>az1 (h c s U H Q I g) f)
def Ja{k:CmpOp}{t:TE}(h:E' X k a b t)(g:yX k b=jA:=by first|exact ε _ qc qc|rfl):m2 X (.Compare a [k] [b] pos) (X2 t):=by intro f s U H Q I r;show-az8 (bT (h f s U H _ I r) λv y g=>bT g λu A n=>bT n λc K w=>?_) g;let#[x,l,m,p,o]:=w;let#[d,2,q]:=o;cases p;show-sF #[l,m,q]
def jE{e:Expr}{t:TE}(h:a' X e t)(n:∀c,Cv e X.env c=(do let v <-c;vC e.pos;tr [v] (truthy v)):=by intro _;rfl):m2 X e (X2 t):=by intro f s U H Q I o;show-isTrue_plain (bT (h f s U H _ I o) λv r p=>?_) (n _);let#[x,g,k,m,l]:=p;let#[d,2,q]:=l;cases m;show-sF #[g,k,q]
variable{q6 NT:iz}{rest:hO}
def ar2(t u:iz):iz:=λU H Q=>t U H λc d=>if c=jx then u U d Q else Q jA d
def azG(t u:iz):iz:=λU H Q=>t U H λc d=>if c=jx then Q jx d else u U d Q
def aaJ(t:iz):iz:=λU H Q=>t U H λc d=>Q (!c) d
def Ü(f:m2 X a q6):lS X (.BoolOp .And [a] pos) q6:=by
 intro g d s U H Q I h;show-isTrue_and (bT (f d s U H Q I h) λc k e=>?_);cases c with
 |true=>show-isTrue_and_nil e
 |false=>show-e
def xS(f:m2 X a q6):lS X (.BoolOp .Or [a] pos) q6:=by
 intro g d s U H Q I h;show-isTrue_or (bT (f d s U H Q I h) λc k e=>?_);cases c with
 |false=>show-isTrue_or_nil e
 |true=>show-e
def ĸ(m:m2 X a q6)(n:lS X (.BoolOp .And (b::rest) pos) NT):lS X (.BoolOp .And (a::b::rest) pos) (ar2 q6 NT):=by
 intro l d s U H Q I h;show-isTrue_and (bT (m d s U H _ I h) λc p o=>?_);let#[f,g,k]:=o;cases c with
 |true=>show-n l d p U f Q g k
 |false=>show#[f,g,k]
def x2(m:m2 X a q6)(n:lS X (.BoolOp .Or (b::rest) pos) NT):lS X (.BoolOp .Or (a::b::rest) pos) (azG q6 NT):=by
 intro l d s U H Q I h;show-isTrue_or (bT (m d s U H _ I h) λc p o=>?_);let#[f,g,k]:=o;cases c with
 |true=>show#[f,g,k]
 |false=>show-n l d p U f Q g k
def jF(g:m2 X a q6):m2 X (.UnaryOp .Not a pos) (aaJ q6):=by intro d s U H Q I h;show-isTrue_not (g d s U H (λc f=>Q (!c) f) I h)
def JM(cu bH:TE):TE:=λU H Q=>cu U H λx d=>∃c,x=.aX c/\if c=jx then bH U d Q else Q (.aX jA) d
def ar3(cu bH:TE):TE:=λU H Q=>cu U H λx d=>∃c,x=.aX c/\if c=jx then Q (.aX jx) d else bH U d Q
def apS(cu:TE):TE:=λU H Q=>cu U H λx d=>∃c,x=.aX c/\Q (.aX (!c)) d
def qV{op}{t:TE}(h:a' X a t):a' X (.BoolOp op [a] pos) t:=(λc s U H Q I d=>BoolOp_one (h c s U H Q I d))
def kT(l:a' X a cu)(m:a' X (.BoolOp .And (b::rest) pos) bH):a' X (.BoolOp .And (a::b::rest) pos) (JM cu bH):=by
 intro d s U H Q I h;show-BoolOp_and (bT (l d s U H _ I h) λv p o=>?_);let#[x,g,k,n,f]:=o;let#[c,2,f]:=f;cases n;show-sF ?_;cases c with
 |true=>show-m d p U g Q k f
 |false=>show#[.aX jA,g,k,2,f]
def apT(l:a' X a cu)(m:a' X (.BoolOp .Or (b::rest) pos) bH):a' X (.BoolOp .Or (a::b::rest) pos) (ar3 cu bH):=by
 intro d s U H Q I h;show-BoolOp_or (bT (l d s U H _ I h) λv p o=>?_);let#[x,g,k,n,f]:=o;let#[c,2,f]:=f;cases n;show-sF ?_;cases c with
 |false=>show-m d p U g Q k f
 |true=>show#[.aX jx,g,k,2,f]
def aom(k:a' X a cu):a' X (.UnaryOp .Not a pos) (apS cu):=by intro d s U H Q I h;show-UnaryOp_ (bT (k d s U H _ I h) λv o n=>?_);let#[x,g,l,m,f]:=n;let#[c,2,f]:=f;cases m;show-not_of (sF #[.aX (!c),g,l,2,f])
def azE(t:iz)(cu bH:TE):TE:=λU H Q=>t U H λc d=>if c=jx then cu U d Q else bH U d Q
def ajS(p:m2 X c q6)(n:a' X a cu)(o:a' X b bH):a' X (.IfExp c a b pos) (azE q6 cu bH):=by
 intro f s U H Q I h;show-wpAny_IfExp (bT (p f s U H _ I h) λd m r=>?_);let#[g,k,l]:=r;cases d with
 |true=>show-n f m U g Q k l
 |false=>show-o f m U g Q k l
end
def aM(K:aI)(H:af)(a:Addr)(c:aL):Prop:=
 f9 H a (.lst c)\/
  ∃(o:Obj)(b:mm)(n:Nat),K.lookup a=ja o/\o.cls=.type "list"/\o.dict=jp/\o.data=.seq b n/\b.size<=sizeLine/\dM c b.G
def cH(K:aI)(H:af)(a:Addr)(c:aL):Prop:=
 f9 H a (.tup c)\/
  ∃(o:Obj)(b:mm)(n:Nat),K.lookup a=ja o/\o.cls=.type "tuple"/\o.data=.seq b n/\b.size<=sizeLine/\dM c b.G
def ar4:a5->Option V
 |.none=>ja .cw
 |.bool b=>ja (.aX b)
 |.int i _=>ja (.int i)
 |.str x _=>ja (.str x)
 |.bytes b _=>ja (.BZ b)
 |.float b _=>ja (.ze b)
 |.ref a=>ja (.ref a)
 |.type n=>ja (.ty n)
 |_=>jp
def RelV.abs(r:RelV x u):ar4 u=ja x:=by
 cases x with
 |cw=>cases r;rfl
 |aX _=>cases r;rfl
 |int _=>let#[t,2]:=r;rfl
 |str _=>let#[t,2]:=r;rfl
 |BZ _=>let#[t,2]:=r;rfl
 |ze _=>let#[t,2]:=r;rfl
 |ref _=>cases r;rfl
 |ty _=>cases r;rfl
def RelV.inj{y:V}(r:RelV x u)(q:RelV y u):x=y:=(gN (r.abs.symm.trans q.abs))
def dM.inj{a:aL}(h:dM xs us)(g:dM a us):xs=a:=by
 induction h generalizing a with
 |nil=>
  cases g;rfl
 |cons r _ e=>
  cases g with
  |cons i fq=>rw[RelV.inj r i,e fq]
section
variable{X:bA}{pins:dU}{U:St}{H:af}{s:aS}{a:Addr}{xs ys:aL}
def aM.of{K:aI}(h:H a=ja (.lst xs)):aM K H a xs:=(.inl (.inl h))
def cH.of{K:aI}(h:H a=ja (.tup xs)):cH K H a xs:=(.inl (.inl h))
def Inv.list(I:Inv X pins U H s)(h:aM X.K H a xs):∃b:List a5,dM xs b/\PlainL s.heap a b.toArray/\xs.Z<=sizeLine:=by
 rcases h with h|⟨o,b,n,i,j,hd,hs,hz,r⟩
 .let#[z,b,n,r,e]:=h.ok I.bC;show#[b,r,#[_,n,e,2,2,2],z]
 show#[b.G,r,#[o,n,I.e1 a o i,j,hd,by simpa using hs],4];let e:=r.Z;simp only[OS]at e
 lia
def Inv.tuple(I:Inv X pins U H s)(h:cH X.K H a xs):∃b:List a5,dM xs b/\rC s.heap a b.toArray/\xs.Z<=sizeLine:=by
 rcases h with h|⟨o,b,n,i,j,hs,hz,r⟩
 .let#[z,b,r,p]:=h.ok I.bC;show#[b,r,p,z]
 show#[b.G,r,#[o,I.e1 a o i,j,n,by simpa using hs],4];let e:=r.Z;simp only[OS]at e
 lia
def Inv.MT(I:Inv X pins U H s)(h:aM X.K H a xs)(m:aM X.K H a ys):xs=ys:=by
 let#[c,r,#[o,n,e,6,d],_]:=I.list h;let#[b,k,#[p,t,f,6,g],_]:=I.list m;rw[e]at f;cases f;rw[d]at g;injection g with l _;have:c=b:=by simpa using gF afP l
 subst this;show-r.inj k
def Inv.ae8(I:Inv X pins U H s)(h:cH X.K H a xs)(m:cH X.K H a ys):xs=ys:=by
 let#[c,r,#[o,e,_,n,d],_]:=I.tuple h;let#[b,k,#[p,f,_,t,g],_]:=I.tuple m;rw[e]at f;cases f;rw[d]at g;injection g with l _;have:c=b:=by simpa using gF afP l
 subst this;show-r.inj k
end
abbrev bA.mQ(X:bA)(E:cL):bA:={X with dN:=E}
abbrev bA.vn(X:bA):bA:=X.mQ λ_ _=>False
theorem bA.Ok.mQ{X:bA}(ok:X.Ok)(E:cL):(X.mQ E).Ok:=
 #[ok.mod,ok.kind,ok.glob,ok.blt,ok.above,ok.inj,ok.has,ok.y0,ok.hd,ok.frames,ok.tN,ok.LD,ok.bs,ok.tf,ok.zV,ok.B9,ok.l0,ok.uW]
theorem bA.Ok.pw{X:bA}{E:cL}(ok:(X.mQ E).Ok):X.Ok:=
 #[ok.mod,ok.kind,ok.glob,ok.blt,ok.above,ok.inj,ok.has,ok.y0,ok.hd,ok.frames,ok.tN,ok.LD,ok.bs,ok.tf,ok.zV,ok.B9,ok.l0,ok.uW]
section
variable{X:bA}{pins:dU}{U:St}{H:af}{s:aS}{E:cL}
def Inv.mQ(I:Inv X pins U H s)(E:cL):Inv (X.mQ E) pins U H s:=(#[I.ok.mQ E,I.os,I.bare,I.base,I.loc,I.cell,I.free,I.oY,I.pin,I.bC,I.len])
def Inv.pw(I:Inv (X.mQ E) pins U H s):Inv X pins U H s:=(#[I.ok.pw,I.os,I.bare,I.base,I.loc,I.cell,I.free,I.oY,I.pin,I.bC,I.len])
def uy.pw{D:Ends}{f:Flow}(h:uy (X.mQ E) pins D f e):uy X pins D f e:=by
 cases f with
 |next=>let#[a,H',I,q]:=h;show#[a,H',I.pw,q]
 |brk=>let#[a,H',I,q]:=h;show#[a,H',I.pw,q]
 |cont=>let#[a,H',I,q]:=h;show#[a,H',I.pw,q]
 |ret u=>let#[v,a,H',I,r,q]:=h;show#[v,a,H',I.pw,r,q]
theorem ie.vn{st:List Stmt}{t:fJ}(h:ie X.vn st t):ie X st t:=λpins s U H D I a=>
 gB (h pins s U H D (I.mQ _) a) (λ_ _ q=>q.pw) λ_ _ z=>i6 z
end
section
variable{X:bA}{st:Stmt}{rest:List Stmt}{t u:fJ}{e:Expr}{bR:TE}{pos:Pos}
def tV:fJ:=λD U H=>D.dq U H
def h4(t u:fJ):fJ:=λD U H=>t {D with dq:=u D} U H
def eH:ie X [] tV:=(λ_ _ U H _ I h=>AD #[U,H,I,h])
def a3(b:i7 X st t)(c:ie X rest u):ie X (st::rest) (h4 t u):=by
 intro a s U H D I h;show-YC (bT (b a s U H {D with dq:=u D} I h) λf k q=>?_);cases f with
 |next=>
  let#[d,H',g,q]:=q;show-c a k d H' D g q
 |ret v=>show-q
 |brk=>show-q
 |cont=>show-q
def a9(b:i7 X st t):ie X [st] t:=by
 intro a s U H D I h;show-YC (bT (b a s U H D I h) λf c q=>?_);cases f with
 |next=>show-AD q
 |ret v=>show-q
 |brk=>show-q
 |cont=>show-q
def Inv.quiet(I:Inv X pins U H s):interactive X.env=jA:=by simp[interactive,I.ok.kind]
def apU(bR:TE):fJ:=λD U H=>bR U H λ_ a=>D.dq U a
def gD(f:a' X e bR)(g:xH e jp pos.line X.env=pure jA:=by rfl):i7 X (.Expr e pos) (apU bR):=by intro a s U H D I h;show-az3 (bT (f a s U H _ I h) λv m k=>?_) I.quiet g;let#[x,b,c,l,d]:=k;show#[U,b,c,d]
def t4(bR:TE):fJ:=λD U H=>bR U H D.gz
def ct(g:a' X e bR):i7 X (.Return (ja e) pos) (t4 bR):=by intro a s U H D I h;show-wpAny_Return_some (bT (g a s U H _ I h) λv l k=>?_);let#[x,b,c,f,d]:=k;show#[x,U,b,c,f,d]
def Kz(c:iz)(t u:fJ):fJ:=λD U H=>c U H λb a=>if b=jx then t D U a else u D U a
def eu{a b:List Stmt}(p:m2 X c i)(n:ie X a t)(o:ie X b u):i7 X (.If c a b pos) (Kz i t u):=by
 intro f s U H D I h;show-wpAny_If (bT (p f s U H _ I h) λd m r=>?_);let#[g,k,l]:=r;cases d with
 |true=>show-n f m U g D k l
 |false=>show-o f m U g D k l
def Ĺ:fJ:=λ_ _ _=>False
def Il:i7 X st Ĺ:=(λ_ _ _ _ _ _ h=>h.elim)
def zP{a:List Stmt}:ie X a Ĺ:=(λ_ _ _ _ _ _ h=>h.elim)
abbrev kN:=V->St->af->(St->af->Prop)->Prop
abbrev uz:=List V->St->af->(St->af->Prop)->Prop
end
def pJ(X:bA)(a:Expr)(t:kN):Prop:=
 ∀(b:dU)(s:aS)(U:St)(H:af)(v:V)(u:a5)(Q:St->af->Prop),Inv X b U H s->RelV v u->t v U H Q->
  aQ (bj X.prog X.w) X.A (BV a X.env u) (λ_ d=>∃c H',Inv X b c H' d/\Q c H') X.dN s
def Bx(X:bA)(d:hO)(t:uz):Prop:=
 ∀(a:dU)(s:aS)(U:St)(H:af)(vs:aL)(c:en)(Q:St->af->Prop),Inv X a U H s->dM vs c->t vs U H Q->
  aQ (bj X.prog X.w) X.A (assignInOrder ((uE d X.env).map (·.2)) c) (λ_ f=>∃b H',Inv X a b H' f/\Q b H') X.dN s
section
variable{X:bA}{pos:Pos}
def hR(i:Nat):kN:=λv U H Q=>Q (U.set i (ja v)) H
def ed(i:Nat)(d:X.N.Nodup)(f:X.N[i]?=ja x:=by rfl)(b:Loc X.env.scope x:=by first|exact .inl rfl|exact .inr rfl)(c:X.fn x=jx\/X.env.scope.names.lookup x=ja .local:=by first|exact .inl rfl|exact .inr rfl|assumption):pJ X (.Name x pos) (hR i):=by intro a s U H v u Q I r h;show-az5 (Om I d f b r (λk g=>#[_,H,g,h]) c)
def yo:uz:=λvs U H Q=>vs=[]/\Q U H
inductive p9(t:kN)(u:uz)(vs:aL)(U:al.St)(H:af)(Q:(al.St->af->Prop)):Prop where
 |mk(v:_)(r:_)(_:vs=v::r)(_:t v U H λbq H'=>u r bq H' Q)
def xx:Bx X [] yo:=by intro a s U H vs b Q I r h;let#[e,h]:=h;subst e;cases r;show-assignInOrder_nil #[U,H,I,h]
def ng{e:Expr}{b:hO}{t:kN}{u:uz}(g:pJ X e t)(k:Bx X b u)(m:(uE (e::b) X.env).map (·.2)=BV e X.env::(uE b X.env).map (·.2):=by rfl):Bx X (e::b) (p9 t u):=by
 intro a s U H vs y Q I r h;let#[v,w,d,h]:=h;subst d;cases r with
 |cons r i=>
  rw[m];show-assignInOrder_cons (bT (g a s U H _ _ _ I r h) λ_ p n=>?_);let#[o,c,f,l]:=n;show-k a p o c _ _ Q f i l
inductive vU(K:aI)(n:Nat)(t:uz)(v:al.V)(U:al.St)(H:af)(Q:(al.St->af->Prop)):Prop where
 |mk(a:_)(xs:_)(_:v=.ref a)(_:cH K H a xs)(_:xs.Z=n)(_:t xs U H Q)
def PU{k:Nat}{t:uz}{n:Nat}(p:X.calm=jx)(h:Bx X i t)(L:(uE i X.env).Z=n:=by rfl)(V:(uE i X.env).findIdx? (·.1)=jp:=by rfl):pJ X (.Tuple i k pos) (vU X.K n t):=by intro c s U H v u Q I r d;let#[a,j,g,y,w,d]:=d;subst g;cases r;let#[N,f,A,q]:=I.tuple y;show-assign_Tuple_tuple (I.ok.hd p) A (by simp[L,<-w,f.Z]) V λK m=>?_;let l:Inv X c U H {s with heap:=K}:=I.kept (t':=s.toks) λb o e=>m b o (fH (dO e)) e;show-h c _ U H j _ Q l (by simpa using f) d
def t5(b:TE)(g:kN):fJ:=λD U H=>b U H λx a=>g x U a D.dq
def aon{g:kN}(l:a' X e j)(m:pJ X i g)(n:swapsWithSole [i] e pos.line X.env=pure jA:=by rfl)(o:swappedStores [i] e X.env=pure jp:=by rfl)(d:(uE [i] X.env).map (·.2)=[BV i X.env]:=by rfl):i7 X (.Assign [i] e pos) (t5 j g):=by intro a s U H D I h;show-wpAny_Assign_stores (bT (l a s U H _ I h) λv r p=>?_) n o;let#[x,b,c,k,f]:=p;rw[d];show-bT (m a r U b x v _ c k f) λ_ t q=>q
def dg(i:Nat)(m:X.N.Nodup)(n:a' X e j)(o:X.N[i]?=ja x:=by rfl)(d:Loc X.env.scope x:=by first|exact .inl rfl|exact .inr rfl)(p:xH e (ja (.Name x pos')) pos.line X.env=pure jA:=by rfl)(f:X.fn x=jx\/X.env.scope.names.lookup x=ja .local:=by first|exact .inl rfl|exact .inr rfl|assumption):
  i7 X (.Assign [.Name x pos'] e pos) (t5 j (hR i)):=by intro a s U H D I h;show-az0 (bT (n a s U H _ I h) λv t r=>?_) p;let#[y,b,c,l,k]:=r;show-Om c m o d l (λw g=>#[_,b,g,k]) f
def aoo(c:iz)(g:fJ):fJ:=λD U H=>∃W:Nat->St->af->Prop,(∃m,W m U H)/\∀m U H,W m U H->
 c U H λb a=>if b=jx then∃N:St->af->Prop,(∀d H',N d H'->∃f,f<m/\W f d H')/\g {D with dq:=N,gd:=N,i8:=D.dq} U a else D.dq U a
def Zd{d:List Stmt}(L:PassesOwn (bj X.prog X.w) X.A X.env X.dN)(x:m2 X c J)(u:ie X d bH):i7 X (.While c d [] pos) (aoo J bH):=by
 intro a s U H D I h;let#[W,#[C,j],l]:=h;show-wpAny_While (codeAny_whileLoop (λn E=>∃e H',Inv X a e H' E/\W n e H') ?_ C #[U,H,I,j]);rintro n F ⟨p,A,q,z⟩;show-DV L (bT (x a F p A _ q (l n p A z)) λb G B=>?_);let#[K,V,m]:=B;cases b with
 |true=>
  let#[N,i,m]:=m;rw[b2 rfl];show-DV L (bT (u a G p K _ V m) λf M o=>?_);cases f with
  |next=>
   let#[k,g,r,y]:=o;let#[t,hm,w]:=i k g y;show#[t,hm,k,g,r,w]
  |cont=>
   let#[k,g,r,y]:=o;let#[t,hm,w]:=i k g y;show#[t,hm,k,g,r,w]
  |brk=>show-o
  |ret v=>show-o
 |false=>
  rw[bL hB];show-AD #[p,K,V,m]
structure ff where
 go:Nat->af->Prop
 AK:Nat->af->V->af->Prop
 stop:Nat->af->Prop
end
def qg(X:bA)(a:dU)(H:af)(b:Addr):Prop:=
 H b=jp/\b≠X.env.locals/\b∉X.fs/\(b∈X.ex\/X.fD.L<=b)/\(∀x c,X.env.cells.lookup x=ja c->c≠b)/\∀p∈X.de++a,p.1≠b
def Inv.tm{H':af}{s:aS}{b:Addr}(I:Inv X pins U H s)(a:s.L<=b)(f:H' b=jp):qg X pins H' b:=by
 show#[f,wq (jk I.lt a),I.ad7 a,.inr (eh I.oB a),λx c e z=>?_,λp d z=>?_]
 .let#[v,q]:=I.cell x c e;show-bk (jk q.lt (by rwa[z])) (qp _)
 show-bk (jk (dO (I.pin p d).1) (by rwa[z])) (qp _)
inductive apV(X:bA)(pins:dU)(U:St)(H:af)(J:ff)(bP:b5)(eD:Nat->Heap->Prop)(i:Nat)(u:a5)(s2:aS):Prop where
 |mk(x:V)(H':af)(_:Inv X pins U H' s2)(_:RelV x u)(_:J.AK i H x H')(_:eD (i+1) s2.Q)(_:∀b∈bP,H' b=jp)
structure Turn(P:cx)(w:b0)(K:aI)(d0:Expr)(J:ff)(bP:b5)(it:Addr)(eD:Nat->Heap->Prop):Prop where
 mem:it∈bP
 obj:∀i h,eD i h->∀b∈bP,∃o,h.get? b=ja o/\∀v,o.data≠.cell v
 keep:∀i h h',eD i h->(∀b∈bP,∀o,h.get? b=ja o->h'.get? b=ja o)->eD i h'
 item:∀(X:bA),X.prog=P->X.w=w->X.K=K->X.calm=jx->∀(i:Nat)(pins:dU)(s:aS)(U:St)(H:af)(E:cL),Inv X pins U H s->(∀b∈bP,qg X pins H b)->eD i s.Q->J.go i H->
  aQ (bj P w) X.A (kE (.ref it)) (λr s1=>∃u,r=ja u/\
   aQ (bj P w) X.A (MS d0 (.ref it) u) (λ_ s2=>apV X pins U H J bP eD i u s2) E s1) E s
 done:∀(X:bA),X.prog=P->X.w=w->X.K=K->X.calm=jx->∀(i:Nat)(pins:dU)(s:aS)(U:St)(H:af)(E:cL),Inv X pins U H s->(∀b∈bP,qg X pins H b)->eD i s.Q->J.stop i H->
  aQ (bj P w) X.A (kE (.ref it)) (λr s1=>r=jp/\Inv X pins U H s1) E s
 self:∀(A:et)(i:Nat)(s:aS)(Q:cL)(E:cL),eD i s.Q->Q (.ref it) s->aQ (bj P w) A (Hu (.ref it)) Q E s
abbrev eG:=St->af->(ff->af->Prop)->Prop
inductive Qt(X:bA)(pins:dU)(U:St)(d0:Expr)(R:ff->af->Prop)(Vk:a5)(s2:aS):Prop where
 |mk(it:Addr)(bP:b5)(eD:Nat->Heap->Prop)(J:ff)(H':af)(_:Vk=.ref it)(_:Inv X pins U H' s2)(_:Turn X.prog X.w X.K d0 J bP it eD)(_:eD 0 s2.Q)(_:∀b∈bP,qg X pins H' b)(_:R J H')
def m1(X:bA)(b iter:Expr)(d:eG):Prop:=
 ∀(a:dU)(s:aS)(U:St)(H:af)(R:ff->af->Prop),Inv X a U H s->d U H R->
  aQ (bj X.prog X.w) X.A (eval iter X.env) (λv c=>aQ (bj X.prog X.w) X.A (Hu v) (Qt X a U b R) X.dN c) X.dN s
def AX{M:mY}{E:cL}{s:aS}{o:Obj}{Q:Unit->aS->Prop}(aY:s.heap.get? it=ja o)(b:o.cls=.type n)(c:o.data=.fields vs)(d:["enumerate","zip","dict_itemiterator","dict_reverseitemiterator","odict_iterator","itertools.zip_longest","itertools.pairwise"].contains n=jA)(a:Q () s):aQ M A (MS e (.ref it) u) Q E s:=by
  unfold MS;cases e<;>first
    |show-bu a
    | (cases u<;>first
        |show-bu a
        | (show-az (wpAny_load aY ?_)
           rw[b,c];show aQ M A (if(["enumerate","zip","dict_itemiterator","dict_reverseitemiterator","odict_iterator","itertools.zip_longest","itertools.pairwise"].contains n&&vs[0]?==ja (mL _))=jx then _ else _) Q E s;rw[bL (by intro h;rw[d,sP]at h;cases h)];show-bu a))
def j9(K:aI)(a:Addr):ff:=
 #[λi H=>∃b x,aM K H a b/\b[i]?=ja x,λi H x H'=>H'=H/\∀b,aM K H a b->b[i]?=ja x,λi H=>∃b,aM K H a b/\b.Z<=i]
def ym(K:aI)(a:Addr):ff:=
 #[λi H=>∃b x,cH K H a b/\b[i]?=ja x,λi H x H'=>H'=H/\∀b,cH K H a b->b[i]?=ja x,λi H=>∃b,cH K H a b/\b.Z<=i]
def yl(lo:Int)(n:Nat):ff:=#[λi _=>i<n,λi H x H'=>H'=H/\x=.int (lo+i),λi _=>n<=i]
def ai6{K:aI}(a l:Addr):Turn P w K d0 (j9 K a) [l] l (λi h=>h.IsListIter l a i)where
 mem:=by simp
 obj:=λi h st b g=>by
  let e:b=l:=by simpa using g
  subst e;let#[o,e,c,d]:=st;show#[o,e,λv z=>by rw[d]at z;cases z]
 keep:=λi h r st k=>st.at λo e=>k l qv o e
 item:=by intro X q D B G i f s U H E I m st C;subst q D B;let#[xs,x,n,t]:=C;let#[F,A,p,Z]:=I.list n;let#[u,R,e3]:=A.get t;let#[L,N,Y,y,V,j]:=m l qv;show-wpAny_pyNext_list_item st p.isList (x:=u) (by simpa using R) λr J Q=>?_;let M:Inv X f U H {s with heap:=r}:=I.turned (t':=s.toks) (λb o g e=>(Q.2 b g).trans e) L N y V j;let#[o,e,c,d]:=id J;show#[u,2,AX (s:={s with heap:=r}) e c d qc #[x,H,M,e3,#[2,λys O=>by rwa[I.MT O n]],J,λb g=>(m b g).1]]
 done:=by intro X q D B G i f s U H E I m st C;subst q D B;let#[xs,n,t]:=C;let#[F,A,p,Z]:=I.list n;let#[L,N,Y,y,V,j]:=m l qv;let au:=A.Z;exact wpAny_pyNext_list_end (I.ok.hd G) st p.isList (by simp;lia) λr T=>#[2,I.turned (t':=s.toks) (λb o g e=>T b o g e) L N y V j]
 self:=λ_ _ _ _ _ st h=>wpAny_pyIter_listiter st h
def ag4{K:aI}(a l:Addr):Turn P w K d0 (ym K a) [l] l (λi h=>h.IsTupleIter l a i)where
 mem:=by simp
 obj:=λi h st b g=>by
  let e:b=l:=by simpa using g
  subst e;let#[o,e,c,d]:=st;show#[o,e,λv z=>by rw[d]at z;cases z]
 keep:=λi h t st k=>st.at λo e=>k l qv o e
 item:=by intro X B F C G i f s U H E I n st D;subst B F C;let#[xs,x,r,y]:=D;let#[m,L,p,Z]:=I.tuple r;let#[u,R,e3]:=L.get y;let#[N,V,Y,A,j,q]:=n l qv;show-wpAny_pyNext_tuple_item st (show s.heap.IsTuple a m.toArray from p) (x:=u) (by simpa using R) λt J Q=>?_;let M:Inv X f U H {s with heap:=t}:=I.turned (t':=s.toks) (λb o g e=>(Q.2 b g).trans e) N V A j q;let#[o,e,c,d]:=id J;show#[u,2,AX (s:={s with heap:=t}) e c d qc #[x,H,M,e3,#[2,λys O=>by rwa[I.ae8 O r]],J,λb g=>(n b g).1]]
 done:=by intro X B F C G i f s U H E I n st D;subst B F C;let#[xs,r,y]:=D;let#[m,L,p,Z]:=I.tuple r;let#[N,V,Y,A,j,q]:=n l qv;let au:=L.Z;exact wpAny_pyNext_tuple_end (I.ok.hd G) st (show s.heap.IsTuple a m.toArray from p) (by simp;lia) λt T=>#[2,I.turned (t':=s.toks) (λb o g e=>T b o g e) N V A j q]
 self:=λ_ _ _ _ _ st h=>wpAny_pyIter_tupleiter st h
def ag5{K:aI}(a:Addr)(lo:Int)(n:Nat):Turn P w K J (yl lo n) [a] a (λi h=>IsRangeIter h a (lo+(i:Nat)*1) ((n:Int)-(i:Nat)) 1)where
 mem:=by simp
 obj:=λi h st b d=>by
  let e:b=a:=by simpa using d
  subst e;show#[_,st,λv z=>by
   let C:Pb _=Ew v:=z;cases C]
 keep:=λi h g st k=>k a qv _ st
 item:=by intro X L j N l i c s U H E I f st V;subst L j N;let#[p,r,G,m,y,A]:=f a qv;let W:=Walks.range (prog:=X.prog) (w:=X.w) (I.ok.hd l) a lo 1 n;show-W.item i s _ _ V st λv g q B u D=>?_;let#[t,2]:=B;let x:Inv X c U H {s with heap:=g,toks:=q}:=I.turned (λb o d e=>D b o (by simpa using d) e) p r m y A;show#[1,AX (s:={s with heap:=g,toks:=q}) (n:="range_iterator") u rfl rfl qc #[.int (lo+i),H,x,#[t,4],#[2,2],u,λb d=>(f b d).1]];rw[Ο]
 done:=by intro X L j N l i c s U H E I f st V;subst L j N;let#[p,r,G,m,y,A]:=f a qv;exact wpAny_pyNext_range_end (I.ok.hd l) st (by have:n<=i:=V;lia) λg F=>#[2,I.turned (t':=s.toks) (λb o d e=>F b o d e) p r m y A]
 self:=λ_ _ _ _ _ st h=>wpAny_pyIter_rangeiter st h
section
variable{X:bA}{d0:Expr}
inductive ar5(K:aI)(x:V)(H1:af)(R:ff->af->Prop):Prop where
 |mk(a:_)(_:x=.ref a)(_:(∃xs,aM K H1 a xs))(_:R (j9 K a) H1)
def QC(K:aI)(b:TE):eG:=λU H R=>b U H λx a=>ar5 K x a R
def ar6(K:aI)(c:TE):eG:=λU H R=>c U H λx b=>∃a,x=.ref a/\(∃d,cH K b a d)/\R (ym K a) b
def hF(n:a' X l i):m1 X d0 l (QC X.K i):=by
 intro c s U H R I h;show-bT (n c s U H _ I h) λv f g=>?_;let#[x,k,d,w,r]:=g;let#[a,e,#[K,t],q]:=r;subst e;cases w;let#[y,A,p,g]:=d.list t;show-DW p.isList ?_;show#[f.L,[f.L],6,k,2,d.kept (t':=f.toks) λb o e=>d8 _ e,ai6 a _,#[_,g4 _ rfl,2,2],λb m=>?_,q];let e:b=f.L:=by simpa using m
 subst e;show-d.tm (cy _) (d.bC.fresh (cy _))
def I4(r:a' X l i):m1 X d0 l (ar6 X.K i):=by
 intro c s U H R I h;show-bT (r c s U H _ I h) λv d k=>?_;let#[x,m,f,y,t]:=k;let#[a,e,#[K,w],q]:=t;subst e;cases y;let#[g,A,p,k]:=f.tuple w;show-wpAny_pyIter_tuple (show d.heap.IsTuple a g.toArray from p) ?_;show#[d.L,[d.L],6,m,2,f.kept (t':=d.toks) λb o e=>d8 _ e,ag4 a _,#[_,g4 _ rfl,2,2],λb n=>?_,q];let e:b=d.L:=by simpa using n
 subst e;show-f.tm (cy _) (f.bC.fresh (cy _))
def ajT{s:aS}{R:ff->af->Prop}{E:cL}{lo a:Int}{t:Tok}{d:Nat}(I:Inv X pins U H s)(m:-(2 ^ 62)<=lo)(n:lo<2 ^ 62)(k:-(2 ^ 62)<=a)(p:a<2 ^ 62)(q:R (yl lo (a-lo).toNat) H):aQ (bj X.prog X.w) X.A (Hu (.ref s.L)) (Qt X pins U d0 R) E {s with heap:=s.heap.push {cls:=.type "range",data:=.fields (List.toArray [.int lo t,.int a u,.int 1 v])},toks:=d}:=by
 show-wpAny_pyIter_range (IsRange.new ..) (small_one m n k p) ?_;let c:Inv X pins U H {s with heap:=s.heap.push {cls:=.type "range",data:=.fields (List.toArray [.int lo t,.int a u,.int 1 v])},toks:=d}:=I.kept λb o e=>d8 _ e;show#[(s.heap.push {cls:=.type "range",data:=.fields (List.toArray [.int lo t,.int a u,.int 1 v])}).objs.size,[(s.heap.push {cls:=.type "range",data:=.fields (List.toArray [.int lo t,.int a u,.int 1 v])}).objs.size],6,H,2,
  c.kept (t':=d) λb o e=>d8 _ e,ag5 _ lo (a-lo).toNat,4,λb l=>?_,q]
 .let f:lo+((0:Nat):Int)*1=lo:=by simp
  let g:(((a-lo).toNat:Nat):Int)-((0:Nat):Int)=aAQ lo a 1:=by rw[rangeSize_one];split<;>lia
  show IsRangeIter _ _ (lo+((0:Nat):Int)*1) ((((a-lo).toNat:Nat):Int)-((0:Nat):Int)) 1;rw[f,g];exact g4 _ rfl
 let e:b=(s.heap.push {cls:=.type "range",data:=.fields (List.toArray [.int lo t,.int a u,.int 1 v])}).objs.size:=by simpa using l
 subst e;show-c.tm (cy _) (c.bC.fresh (cy _))
def apW(b:fR):eG:=λU H R=>b U H λvs a=>∃j:Int,vs=[.int j]/\-(2 ^ 62)<=j/\j<2 ^ 62/\R (yl 0 j.X) a
def Hx{d:fR}{p:Pos}(m:jR X "range")(hm:X.mg "range"=jp)(f:fI X [a] d)(n:dh [a] X.env=[(jA,eval a X.env)]:=by rfl):m1 X d0 (.Call (.Name "range" p) [a] [] pos) (apW d):=by
 intro b s U H R I h;show-Call_ (As I m hm boot_range (Qw (bT (f pos b s U H _ I h) λA y o=>?_) n rfl));let#[vs,w,g,k,c]:=o;let#[j,e,c,l,q]:=c;subst e;cases k with
 |cons r i=>
  cases i;let#[t,2]:=r;show-call_range_1 (ajT g jQ jQ c l (by simpa using q))
def AN(J:ff)(g:kN)(f:fJ)(D:Ends)(U:St)(c:af):Prop:=∃W:Nat->Nat->St->af->Prop,(∃m,W 0 m U c)/\∀i m U H,W i m U H->
 (J.stop i H/\D.dq U H)\/(J.go i H/\∃N:St->af->Prop,(∀a H',N a H'->∃b,b<m/\W (i+1) b a H')/\∀x H',J.AK i H x H'->g x U H' λk d=>f {D with dq:=N,gd:=N,i8:=D.dq} k d)
def ar7(c:eG)(g:kN)(b:fJ):fJ:=λD U H=>c U H λJ a=>AN J g b D U a
def I5(a:b5)(h:Heap):List (Addr×Obj):=a.filterMap λb=>(h.get? b).map λo=>(b,o)
def NA{a:b5}{h:Heap}{b:Addr}(c:b∈a)(e:h.get? b=ja o):(b,o)∈I5 a h:=(JX.mpr #[b,c,by rw[e];rfl])
def aiX{a:b5}{h:Heap}{p:Addr×Obj}(d:p∈I5 a h):p.1∈a/\h.get? p.1=ja p.2:=by
 let#[b,c,e]:=JX.mp d;cases q:h.get? b with
 |none=>rw[q]at e;cases e
 |some o=>
  rw[q]at e;let f:(b,o)=p:=gN e;subst f;show#[c,q]
theorem Inv.pinned{a:dU}{s:aS}{c:b5}(I:Inv X a U H s)(l:∀b∈c,qg X a H b)(aY:∀b∈c,∃o,s.heap.get? b=ja o/\∀v,o.data≠.cell v):Inv X (a++I5 c s.Q) U H s:=
 I.aeq λp k=>(iM.mp k).elim (λz=>I.pin p (oO _ z)) λz=>by let#[f,e]:=aiX z;let#[m,n,r,_]:=l p.1 f;let#[o,g,d]:=aY p.1 f;rw[e]at g;cases g;show#[e,m,n,r,d]
def Inv.N2{a pl:dU}(I:Inv X (a++pl) U H s):Inv X a U H s:=(I.aeq λp b=>I.pin p (oO _ (Õ _ b)))
def l6{t:List Stmt}{g:kN}(L:PassesOwn (bj X.prog X.w) X.A X.env X.dN)(P:X.calm=jx)(hi:m1 X d0 iter wi)(hg:pJ X d0 g)(c:ie X t bH)(hs:∀x,Cd iter X.env x=pure x:=by intro _;rfl):i7 X (.For d0 iter t [] pos) (ar7 wi g bH):=by
 intro a s U H D I h;show-wpAny_For (bT (hi a s U H _ I h) λv s1 ai=>bT ai λVk s2 ak=>?_) hs;let#[it,V,Z,J,ag,e,bM,T,DE,f2,W,#[m0,Iw],z]:=ak;subst e;let F:∀{H':af},(∀b∈V,H' b=jp)->∀b∈V,qg X a H' b:=λhn b c=>#[hn b c,(f2 b c).2]
 show-codeAny_forLoop_any (λn s'=>∃i j H',Inv X a j H' s'/\Z i s'.Q/\(∀b∈V,H' b=jp)/\W i n j H') ?_ m0 #[0,U,ag,bM,DE,λb c=>(f2 b c).1,Iw];rintro n s3 ⟨i,q,C,Y,K,A,hT⟩;rcases z i n q C hT with⟨stop,xC⟩|⟨go,N,fK,step⟩
 .refine DV L (bT (T.done X rfl rfl rfl P i a s3 q C X.dN Y (F A) K stop) λr b4 y=>?_);let#[M,mh]:=y;subst M;show-AD #[q,C,mh,xC]
 show-DV L (bT (T.item X rfl rfl rfl P i a s3 q C X.dN Y (F A) K go) λr b4 y=>?_);let#[u,M,cT]:=y;subst M;show-DV L (bT cT λ_ R y=>?_);let#[x,Q,lP,HC,x1,E,Tr]:=y;let PI:=lP.pinned (F Tr) (T.obj _ _ E);show-DV L (bT (hg _ R q Q x u _ PI HC (step x Q x1)) λ_ fC y=>?_);let#[Jb,g_,ue,W8]:=y;show-DV L (bT (c _ fC Jb g_ _ ue W8) λf O w=>?_);let again:∀{p:St}{k:af},Inv X (a++I5 V R.Q) p k O->N p k->∃m,m<n/\∃i j H',Inv X a j H' O/\Z i O.Q/\(∀b∈V,H' b=jp)/\W i m j H':=λ{p k}l B=>by let#[eO,hm,N_]:=fK p k B;show#[eO,hm,i+1,p,k,l.N2,T.keep _ _ _ E λb c o e=>(l.pin (b,o) (oO _ (oO _ (NA c e)))).1,λb c=>?_,N_];let#[o,e,d]:=T.obj _ _ E b c;exact(l.pin (b,o) (oO _ (oO _ (NA c e)))).2.1
 cases f with
 |next=>let#[p,k,l,B]:=w;show-again l B
 |cont=>let#[p,k,l,B]:=w;show-again l B
 |brk=>let#[p,k,l,w]:=w;show#[p,k,l.N2,w]
 |ret v=>let#[vM,p,k,l,G,w]:=w;show#[vM,p,k,l.N2,G,w]
def tC{K:aI}{xs:aL}{g:kN}{c:fJ}{D:Ends}(b:Nat->St->af->Prop)(l:b 0 U H)(k:∀i U H,i<=xs.Z->b i U H->aM K H a xs)(t:∀i x U H,xs[i]?=ja x->b i U H->g x U H λw f=>c {D with dq:=b (i+1),gd:=b (i+1),i8:=D.dq} w f)(o:∀U H,b xs.length U H->D.dq U H):
  AN (j9 K a) g c D U H:=by
 show#[λi m U H=>m=xs.Z-i/\i<=xs.Z/\b i U H,#[xs.Z,by simp,ei _,l],4];rintro i m U H ⟨rfl,r,p⟩;let q:=k i U H r p;by_cases d:i<xs.Z
 .refine .inr #[#[xs,xs[i],q,by simp[d]],b (i+1),λA H' n=>#[xs.Z-(i+1),9,2,d,n],λx H' y=>?_];let#[e,y]:=y;subst e;show-t i x U _ (y xs q) p
 let e:i=xs.Z:=by lia
 subst e;show-.inl #[#[xs,q,cy _],o U H p]
def È{K:aI}{xs:aL}{g:kN}{c:fJ}{D:Ends}(b:Nat->St->af->Prop)(l:b 0 U H)(k:∀i U H,i<=xs.Z->b i U H->cH K H a xs)(t:∀i x U H,xs[i]?=ja x->b i U H->g x U H λw f=>c {D with dq:=b (i+1),gd:=b (i+1),i8:=D.dq} w f)(o:∀U H,b xs.length U H->D.dq U H):
  AN (ym K a) g c D U H:=by
 show#[λi m U H=>m=xs.Z-i/\i<=xs.Z/\b i U H,#[xs.Z,by simp,ei _,l],4];rintro i m U H ⟨rfl,r,p⟩;let q:=k i U H r p;by_cases d:i<xs.Z
 .refine .inr #[#[xs,xs[i],q,by simp[d]],b (i+1),λA H' n=>#[xs.Z-(i+1),9,2,d,n],λx H' y=>?_];let#[e,y]:=y;subst e;show-t i x U _ (y xs q) p
 let e:i=xs.Z:=by lia
 subst e;show-.inl #[#[xs,q,cy _],o U H p]
def YN{lo:Int}{n:Nat}{g:kN}{c:fJ}{D:Ends}(a:Nat->St->af->Prop)(f:a 0 U H)(o:∀i U H,i<n->a i U H->g (.int (lo+i)) U H λr d=>c {D with dq:=a (i+1),gd:=a (i+1),i8:=D.dq} r d)(l:∀U H,a n U H->D.dq U H):
  AN (yl lo n) g c D U H:=by
 show#[λi m U H=>m=n-i/\i<=n/\a i U H,#[n,by simp,ei _,f],4];rintro i m U H ⟨rfl,w,p⟩;by_cases b:i<n
 .refine .inr #[b,a (i+1),λt H' k=>#[n-(i+1),9,2,b,k],λx H' y=>?_];let#[e,y]:=y;subst e y;show-o i U _ b p
 let e:i=n:=by lia
 subst e;show-.inl #[cy _,l U H p]
abbrev m5:=V->V->af->aO->Prop
end
def hD(X:bA)(f:a5->a5->Sem a5)(r:m5):Prop:=
 ∀(a:dU)(s:aS)(U:St)(H:af)(x y:V)(v u:a5)(Q:aO),Inv X a U H s->RelV x v->RelV y u->r x y H Q->
  aQ (bj X.prog X.w) X.A (f v u) (jh X a U Q) X.dN s
def QW(X:bA)(f:a5->Sem a5)(r:V->af->aO->Prop):Prop:=
 ∀(a:dU)(s:aS)(U:St)(H:af)(x:V)(v:a5)(Q:aO),Inv X a U H s->RelV x v->r x H Q->
  aQ (bj X.prog X.w) X.A (f v) (jh X a U Q) X.dN s
def kB(X:bA)(f:a5)(r:List V->af->aO->Prop):Prop:=
 ∀(a:dU)(s:aS)(U:St)(H:af)(c:aL)(b:en)(Q:aO),Inv X a U H s->dM c b->r c H Q->
  aQ (bj X.prog X.w) X.A (call f b) (jh X a U Q) X.dN s
def ar8(X:bA)(r:V->af->(Bool->af->Prop)->Prop):Prop:=
 ∀(a:dU)(s:aS)(U:St)(H:af)(x:V)(v:a5)(Q:Bool->af->Prop),Inv X a U H s->RelV x v->r x H Q->
  aQ (bj X.prog X.w) X.A (truthy v) (Kx X a U Q) X.dN s
def pv(r:m5)(d c:TE):TE:=λU H Q=>d U H λx a=>c U a λy b=>r x y b Q
def azI(r:V->af->aO->Prop)(b:TE):TE:=λU H Q=>b U H λx a=>r x a Q
inductive HI(C:Int->Int->Prop)(g:Int->Int->V)(x:al.V)(y:al.V)(H:af)(Q:aO):Prop where
 |mk(i:_)(j:_)(_:x=.int i)(_:y=.int j)(_:C i j)(_:Q (g i j) H)
inductive z8(g:Int->Int->V)(x:al.V)(y:al.V)(H:af)(Q:aO):Prop where
 |mk(i:_)(j:_)(_:x=.int i)(_:y=.int j)(_:Q (g i j) H)
inductive aew(g:Int->V)(x:V)(H:af)(Q:aO):Prop where
 |mk(i:_)(_:x=.int i)(_:Q (g i) H)
section
variable{X:bA}{a b c:Expr}{cu bH sv:TE}{pos:Pos}
def Rt(m:a' X a cu)(o:a' X b bH){R:V->V->af->Prop}(I:Inv X pins U H s)(h:cu U H λx k=>bH U k λy d=>R x y d){Q:cL}{f:a5->a5->Sem a5}(p:∀v u g x y d,Inv X pins U d g->RelV x v->RelV y u->R x y d->aQ (bj X.prog X.w) X.A (f v u) Q X.dN g):
  aQ (bj X.prog X.w) X.A (eval a X.env) (λv L=>aQ (bj X.prog X.w) X.A (eval b X.env) (λu e=>aQ (bj X.prog X.w) X.A (f v u) Q X.dN e) X.dN L) X.dN s:=by show-bT (m pins s U H _ I h) λv N l=>?_;let#[x,k,n,w,t]:=l;show-bT (o pins N U k _ n t) λu g l=>?_;let#[y,d,r,K,A]:=l;show-p v u g x y d r w K A
def c5{f:Operator}{r:m5}(aY:hD X (uF f) r)(g:a' X a cu)(k:a' X b bH):a' X (.BinOp a f b pos) (pv r cu bH):=by intro d s U H Q I h;show-wpAny_BinOp (Rt g k I h λv u p x y l n m o q=>aY d p U l x y v u Q n m o q)
def AO{f:UnaryOp}{r:V->af->aO->Prop}(aY:QW X (unaryOp f) r)(k:a' X a cu):a' X (.UnaryOp f a pos) (azI r cu):=by intro d s U H Q I h;show-UnaryOp_ (bT (k d s U H _ I h) λv p o=>?_);let#[x,g,l,n,m]:=o;show-aY d p U g x v Q l n m
def Nh{f:a5->a5->Sem a5}{C:Int->Int->Prop}{g:Int->Int->Int}(rule:∀(i j:Int)(t u:Tok)(s:aS)(Q:cL)(E:cL),C i j->Q (.int (g i j) s.toks) {s with toks:=s.toks+1}->aQ (bj X.prog X.w) X.A (f (.int i t) (.int j u)) Q E s):
  hD X f (HI C λi j=>.int (g i j)):=by intro d s U H x y v u Q I l m h;let#[i,j,2,2,k,q]:=h;let#[t,2]:=l;let#[n,2]:=m;show-rule i j t n s _ _ k #[.int (g i j),H,I.tok _,#[1],q]
def aaK{f:a5->a5->Sem a5}{g:Int->Int->Int}(rule:∀(i j:Int)(t u:Tok)(s:aS)(Q:cL)(E:cL),Q (.int (g i j) s.toks) {s with toks:=s.toks+1}->aQ (bj X.prog X.w) X.A (f (.int i t) (.int j u)) Q E s):
  hD X f (z8 λi j=>.int (g i j)):=by intro d s U H x y v u Q I k l h;let#[i,j,2,2,q]:=h;let#[t,2]:=k;let#[m,2]:=l;show-rule i j t m s _ _ #[.int (g i j),H,I.tok _,#[1],q]
def Ru{f:a5->a5->Sem a5}{g:Int->Int->Bool}(rule:∀(i j:Int)(t u:Tok)(s:aS)(Q:cL)(E:cL),Q (.bool (g i j)) s->aQ (bj X.prog X.w) X.A (f (.int i t) (.int j u)) Q E s):
  hD X f (z8 λi j=>.aX (g i j)):=by intro d s U H x y v u Q I k l h;let#[i,j,2,2,q]:=h;let#[t,2]:=k;let#[m,2]:=l;show-rule i j t m s _ _ #[.aX (g i j),H,I,2,q]
def ar9(i j:Int):Prop:=0<j/\j<1073741824
def asC(i j:Int):Prop:=0<=j/\j<=1000000/\i.natAbs<2 ^ 64
def Rv(i j:Int):Prop:=(-(2 ^ 64)<i/\i<2 ^ 64)\/(-(2 ^ 64)<j/\j<2 ^ 64)
def Rv.ok{i j:Int}(h:Rv i j):IntMulOk i j:=by
 rcases h with⟨d,f⟩|⟨d,f⟩
 .exact .of_left (intBits_le_64 d f)
 show-.of_right (intBits_le_64 d f)
def p3:hD X (uF .Add) (z8 λi j=>.int (i+j)):=(aaK λ_ _ _ _ _ _ _ q=>add_int q)
def Jk:hD X (uF .Sub) (z8 λi j=>.int (i-j)):=(aaK λ_ _ _ _ _ _ _ q=>sub_int q)
def D2:hD X (uF .Mult) (HI Rv λi j=>.int (i*j)):=(Nh λ_ _ _ _ _ _ _ d q=>mul_int q d.ok)
def Iz:hD X (uF .FloorDiv) (HI ar9 λi j=>.int (i/j)):=(Nh λi j _ _ _ _ _ d q=>by let f:(0:Int)<j:=d.1;let g:j<1073741824:=d.2;show-floordiv_int jQ (by rwa[Int.fdiv_eq_ediv_of_nonneg i jQ]) (.inl (PyProof.noPylong_small jQ)))
def tK:hD X (uF .Mod) (HI (λ_ j=>0<j) λi j=>.int (i%j)):=(Nh λi j _ _ _ _ _ d q=>by let f:(0:Int)<j:=d;show-mod_int' jQ (by rwa[Int.fmod_eq_emod_of_nonneg i jQ]))
def aop:hD X (uF .Pow) (HI asC λi j=>.int (i ^ j.X)):=(Nh λ_ _ _ _ _ _ _ d q=>pow_int_small d.1 d.2.1 d.2.2 q)
def azS{f:a5->Sem a5}{g:Int->Int}(rule:∀(i:Int)(t:Tok)(s:aS)(Q:cL)(E:cL),Q (.int (g i) s.toks) {s with toks:=s.toks+1}->aQ (bj X.prog X.w) X.A (f (.int i t)) Q E s):
  QW X f (aew λi=>.int (g i)):=by intro d s U H x v Q I k h;let#[i,2,q]:=h;let#[t,2]:=k;show-rule i t s _ _ #[.int (g i),H,I.tok _,#[1],q]
def Au:QW X (unaryOp .USub) (aew λi=>.int (-i)):=(azS λ_ _ _ _ _ q=>neg_int q)
def KB:V->V->Bool
 |.int _,.int _=>jx
 |.str _,.str _=>jx
 |_,_=>jA
def ayT:m5:=λx y H Q=>KB x y=jx/\Q (.aX (decide (x=y))) H
def ayU:m5:=λx y H Q=>KB x y=jx/\Q (.aX (!decide (x=y))) H
def IA{i j:Int}:decide (V.int i=V.int j)=(i==j):=by rw[ZA];simp
def É{j:Str}:decide (V.str i=V.str j)=(i==j):=by rw[ZA];simp
def xT{Q:aO}{k d:Bool}(I:Inv X pins U H s)(q:Q (.aX k) H)(e:k=d):jh X pins U Q (.bool d) s:=by subst e;show#[.aX k,H,I,2,q]
def q7:hD X (jU .Eq) ayT:=by
 intro k s U H x y v u Q I f g h;let#[d,q]:=h;unfold KB at d;split at d
 .let#[t,2]:=f;let#[l,2]:=g;show-eq_int (xT I q IA)
 .let#[t,2]:=f;let#[l,2]:=g;show-eq_str (xT I q É)
 cases d
def AP:hD X (jU .NotEq) ayU:=by
 intro k s U H x y v u Q I f g h;let#[d,q]:=h;unfold KB at d;split at d
 .let#[t,2]:=f;let#[l,2]:=g;show-ne_int (xT I q (gF not IA))
 .let#[t,2]:=f;let#[l,2]:=g;show-ne_str (xT I q (gF not É))
 cases d
def vG:hD X (jU .Lt) (z8 λi j=>.aX (decide (i<j))):=(Ru λ_ _ _ _ _ _ _ q=>lt_int q)
def q8:hD X (jU .LtE) (z8 λi j=>.aX (decide (i<=j))):=(Ru λ_ _ _ _ _ _ _ q=>le_int q)
def AQ:hD X (jU .Gt) (z8 λi j=>.aX (decide (j<i))):=(Ru λ_ _ _ _ _ _ _ q=>gt_int q)
def vy:hD X (jU .Is) (λx y H Q=>y=.cw/\Q (.aX (decide (x=.cw))) H):=by
 intro f s U H x y v u Q I d g h;let#[2,q]:=h;cases g;show-is_none_gen (xT I q ?_);cases x<;>first
  | (cases d;rfl)
  | (let#[t,2]:=d;rfl)
def Ov:hD X (jU .IsNot) (λx y H Q=>y=.cw/\Q (.aX (!decide (x=.cw))) H):=by
 intro f s U H x y v u Q I d g h;let#[2,q]:=h;cases g;show-isnot_none_gen (xT I q ?_);cases x<;>first
  | (cases d;rfl)
  | (let#[t,2]:=d;rfl)
def e9(b:Expr){d:CmpOp}(h:d≠.In:=by decide)(k:d≠.NotIn:=by decide):yX d b=jA:=by
 let f:(d==CmpOp.In)=jA:=by cases d<;>first|rfl|exact bk rfl h
 let g:(d==CmpOp.NotIn)=jA:=by cases d<;>first|rfl|exact bk rfl k
 cases b<;>simp[yX,f,g]
def oi{f:CmpOp}{r:m5}(aY:hD X (jU f) r)(g:a' X a cu)(k:a' X b bH)(hm:yX f b=jA):a' X (.Compare a [f] [b] pos) (pv r cu bH):=by intro d s U H Q I h;show-az1 (Rt g k I h λv u p x y l n m o q=>aY d p U l x y v u Q n m o q) hm
def QE(t:TE):iz:=λU H Q=>t U H λx H'=>Ω x H' Q
def gs{f:CmpOp}{r:m5}(aY:hD X (jU f) r)(l:a' X a cu)(o:a' X b bH)(hm:yX f b=jA):m2 X (.Compare a [f] [b] pos) (QE (pv r cu bH)):=by
 intro d s U H Q I h;show-az8 (bT (l d s U H _ I h) λv i⟨x,g,n,A,w⟩=>bT (o d i U g _ n w) λu j⟨y,p,t,N,L⟩=>
  bT (aY d j U p x y v u _ t A N L) λc B⟨z,m,K,q,k,e,V⟩=>?_) hm
 subst e;cases q;show-sF #[m,K,V]
def Ņ(r m:m5)(cu bH sv:TE):TE:=λU H Q=>cu U H λx f=>bH U f λy g=>r x y g λz d=>∃k,z=.aX k/\
 (if k=jx then sv U d λn l=>m y n l Q else Q (.aX jA) d)
def Ze{g l:CmpOp}{r o:m5}(aY:hD X (jU g) r)(J:hD X (jU l) o)(K:a' X a cu)(N:a' X b bH)(i:a' X c sv)(hm:lastMarks [g,l] [b,c]=jA:=by with_unfolding_all rfl):a' X (.Compare a [g,l] [b,c] pos) (Ņ r o cu bH sv):=by
 intro f s U H Q I h;show-Compare_chain (bT (K f s U H _ I h) λv O⟨x,w,L,D,B⟩=>chain_link (bT (N f O U w _ L B) λu P⟨y,V,q,p,F⟩=>
  bT (aY f P U V x y v u _ q D p F) λd R⟨z,m,n,T,k,e,t⟩=>?_)) hm
 subst e;cases T;show-sF ?_;cases k with
 |false=>show-ite_ff #[.aX jA,m,n,2,t]
 |true=>show-ite_tt (chain_last (bT (i f R U m _ n t) λG j⟨E,C,M,A,Y⟩=>J f j U C y E u G Q M p A Y))
def z5{l m:CmpOp}{r p:m5}(aY:hD X (jU l) r)(mF:hD X (jU m) p)(V:a' X a cu)(q:a' X b bH)(C:a' X c sv)(hm:lastMarks [l,m] [b,c]=jA:=by with_unfolding_all rfl):m2 X (.Compare a [l,m] [b,c] pos) (QE (Ņ r p cu bH sv)):=by
 intro f s U H Q I h;show-isTrue_chain (bT (V f s U H _ I h) λv s1⟨x,A,j,O,G⟩=>test_link (bT (q f s1 U A _ j G) λu s2⟨y,B,F,t,R⟩=>
  bT (aY f s2 U B x y v u _ F O t R) λd s3⟨z,n,o,vw,k,e,w⟩=>?_)) hm
 subst e;cases vw;show-sF ?_;cases k with
 |false=>
  let#[xh,E,Y]:=w;cases E;show-ite_ff #[n,o,Y]
 |true=>
  show-ite_tt (test_last (bT (C f s3 U n _ o w) λT D g=>?_));let#[P,M,mh,K,z7]:=g;show-bT (mF f D U M y P u T _ mh t K z7) λd' c2 g=>?_;let#[aE,J,Z,L,k2,i,N]:=g;subst i;cases L;show-sF #[J,Z,N]
def aaL(K:aI)(x:V)(H:af)(k:Bool):Prop:=
 match x with
 |.cw=>k=jA
 |.aX b=>k=b
 |.int i=>k=(i !=0)
 |.str y=>y.Z<=sizeLine/\k=((y.Z:Int) !=0)
 |.BZ y=>y.size<=sizeLine/\k=((y.size:Int) !=0)
 |.ref p=>(∃f,aM K H p f/\k=!f.isEmpty)\/(∃f,cH K H p f/\k=!f.isEmpty)\/∃d,H p=ja (.cO d)/\k=!d.isEmpty
 |_=>False
def ag6{f:Type}{d:List (f×V)}{vs:List (f×a5)}(r:ia d vs):(!vs.isEmpty)=!d.isEmpty:=by cases r<;>rfl
def afJ{f:aL}{d:en}(r:dM f d):(!d.toArray.isEmpty)=!f.isEmpty:=by cases r<;>simp
def D3:(sizeLine:Nat)<2 ^ 63:=by rw[vA];decide
def aoq:ar8 X (λx H Q=>∃k,aaL X.K x H k/\Q k H):=by
 intro K s U H x v Q I n h;let#[k,e,q]:=h;let V:=D3;let j:sizeLine=16777216:=vA;cases x with
 |cw=>
  cases n;let d:k=jA:=e;subst d;show-truthy_none #[H,I,q]
 |aX b=>
  cases n;let d:k=b:=e;subst d;show-sF #[H,I,q]
 |int i=>
  let#[t,2]:=n;let d:k=(i !=0):=e;subst d;show-PySem.P.truthy_int #[H,I,q]
 |str y=>
  let#[t,2]:=n;obtain⟨L,d⟩:y.Z<=sizeLine/\k=((y.Z:Int) !=0):=e;subst d;show-PySem.P.truthy_str jQ #[H,I.tok _,q]
 |BZ y=>
  let#[t,2]:=n;obtain⟨L,d⟩:y.size<=sizeLine/\k=((y.size:Int) !=0):=e;subst d;show-PySem.W.truthy_bytes jQ #[H,I.tok _,q]
 |ref p=>
  cases n;let d:(∃l,aM X.K H p l/\k=!l.isEmpty)\/(∃l,cH X.K H p l/\k=!l.isEmpty)\/∃f,H p=ja (.cO f)/\k=!f.isEmpty:=e;rcases d with⟨l,o,d⟩|⟨l,o,d⟩|⟨f,o,d⟩
  .subst d;let#[w,r,pl,A]:=I.list o;let g:=r.Z;show-wpAny_truthy_list pl.isList (by simp only[hY];lia) #[H,I.tok _,by rwa[afJ r]]
  .subst d;let#[w,r,pl,A]:=I.tuple o;let g:=r.Z;show-truthy_tuple pl (by simp only[hY];lia) #[H,I.tok _,by rwa[afJ r]]
  subst d;obtain⟨A,N,vs,r,m⟩:f.Z<=sizeLine/\(p==k7)=jA/\∃vs,ia f vs/\s.heap.DictOf (jD X.prog X.w) p vs:=I.bC p _ o;let g:f.Z=vs.Z:=jz r;show-wpAny_truthy_dict N m jQ #[H,I.tok _,by rwa[ag6 r]]
 |_=>exact(show False from e).elim
def akA(l:a' X a cu)(p:∀d,Cv a X.env d=(do let v <-d;vC a.pos;tr [v] (truthy v))):
  m2 X a (λU H Q=>cu U H λx H'=>∃k,aaL X.K x H' k/\Q k H'):=by intro f s U H Q I h;show-isTrue_plain (bT (l f s U H _ I h) λv t r=>?_) (p _);let#[x,g,m,o,n]:=r;show-aoq f t U g x v Q m o n
inductive q9(x y:V)(H:af)(Q:aO):Prop where
 |mk(i j:Str)(_:x=.str i)(_:y=.str j)(_:i.Z+j.Z<=sizeLine)(_:Q (.str (i++j)) H)
def hP:hD X (uF .Add) q9:=by intro d s U H x y v u Q I f g h;let#[i,j,2,2,k,q]:=h;let#[t,2]:=f;let#[l,2]:=g;show-add_str (λl m=>#[.str (i++j),H,I.tok _,#[1],q]) k
def vals1(r:dM [x] us):∃u,us=[u]/\RelV x u:=by
 cases r with
 |cons e h=>cases h;show#[1,e]
def vals2(r:dM [x,y] us):∃u d,us=[u,d]/\RelV x u/\RelV y d:=by
 cases r with
 |cons h i=>
  cases i with
  |cons j e=>cases e;show#[_,1,h,j]
def aiY(l:X.calm=jx):kB X (.builtin "max") (λg H Q=>∃i j,g=[.int i,.int j]/\Q (.int (if j>i then j else i)) H):=by
 intro f s U H g w Q I r h;let#[i,j,2,q]:=h;let#[u,n,2,#[t,2],#[p,2]]:=vals2 r;refine max_two_ints (I.ok.hd l) λo m k=>#[_,H,I.kept k,4,q]
 by_cases d:j>i
 .rw[b2 d,b2 d];show#[1]
 rw[bL d,bL d];show#[1]
def ZF:kB X (.type "int") (λd H Q=>(∃i,d=[.int i]/\Q (.int i) H)\/∃k,d=[.aX k]/\Q (.int (if k then 1 else 0)) H):=by
 intro f s U H d l Q I r h;rcases h with⟨i,rfl,q⟩|⟨k,rfl,q⟩
 .let#[u,2,t,2]:=vals1 r;show-call_int_int #[.int i,H,I,#[1],q]
 let#[u,2,g]:=vals1 r;cases g;show-call_int_bool #[.int (if k then 1 else 0),H,I.tok _,#[1],q]
def qA:kB X (.type "str") (λf H Q=>∃i,f=[.int i]/\i.natAbs.log2<1920/\Q (.str (toString i)) H):=by intro d s U H f k Q I r h;let#[i,2,g,q]:=h;let#[u,2,t,2]:=vals1 r;show-PySem.P.str_of_int g #[.str _,H,I.tok _,#[1],q]
structure yp(h:Heap)(x ah C:Addr)(mA:b6):Prop where
 obj:h.get? x=ja (yN C ah)
 ns:h.Ns1 ah mA
 ne:ah≠x
end
def aiP{h:Heap}{d:b6}(n:h.Ns1 ah d):∃b,h.get? ah=ja b/\∀name,Qy name b=ja (d name):=by
 let#[o,c,p,aY,m,g,_,hm]:=n;show#[o,aY,λname=>?_];let e:=hm name;unfold nsFind findBy at e;rw[<-Array.find?_toList]at e;unfold Qy;rw[m];dsimp only;split
 .rename_i y q;rw[q]at e;show-gF ja e
 rename_i q;rw[q]at e;let a:c.toList.any (·.refKey)=jA:=by rw[ahN];intro y l;let#[z,t,f]:=g y (Array.mem_toList_iff.mp l);simp[DictEntry.refKey,f]
 let k:¬c.toList.any (·.refKey)=jx:=by rw[a];show-hB
 rw[bL k];show-gF ja e
theorem yp.look{b:b6}(I:yp h x ah C b):∃a,PySem.W.InstAt h x (yN C ah) C (ja a)/\∀name,Qy name a=ja (b name):=
 let⟨a,aY,c⟩:=aiP I.ns
 #[a,#[I.obj,2,2,aY],c]
section
variable{prog:cx}{w:b0}{A:et}{E:cL}{s:aS}{K:aI}{x ah C f:Addr}{mA:b6}{name:Str}{v:a5}
def alG{Q:cL}(X:K.In s.Q)(I:yp s.heap x ah C mA)(k:QB K C name=jx)(g:Fc K C=jx)(b:cK K (.ref C) name=ja jp)(c:mA name=ja v)(a:ajF v=jx)(h:Q v {s with toks:=s.toks+1}):
  aQ (bj prog w) A (getAttr (.ref x) name expr) Q E s:=by let#[l,J,d]:=I.look;show-PySem.W.get_value X J (Į k).1 (PySem.W.findObj_own g b rfl (by rw[d,c])) a h
def akB{pl:Sem Bool}{Q:a5×List a5->aS->Prop}(X:K.In s.Q)(I:yp s.heap x ah C mA)(a:QB K C name=jx)(d:cK K (.ref C) name=ja (ja (.ref f)))(g:rI K (.ref f)=jx)(b:mA name=jp)(h:Q (.ref f,[.ref x]) s):
  aQ (bj prog w) A (zj (.ref x) name pl) Q E s:=by let#[k,J,c]:=I.look;show-PySem.W.method_fn X J (Į a).1 (Į a).2 d (rM.mp g) (by show(Qy name k).map (·.isSome)=ja jA;rw[c,b];rfl) h
def alH{k:bY}{Q:Unit->aS->Prop}(X:K.In s.Q)(I:yp s.heap x ah C mA)(j:cK K (.ref C) "__setattr__"=ja (ja (.builtin "object.__setattr__")))(N:ajM K C=jx)(e:Ĵ K C name=ja jp)(i:Fc K C=jx)(q:BE mA k)(hsz:k.Z<=sizeLine)(h:∀c,yp c x ah C (λy=>if y=name then ja v else mA y)->j7 ah s.heap c->Q () {s with heap:=c,toks:=s.toks+2}):
  aQ (bj prog w) A (H5 (.ref x) name v) Q E s:=by let#[D,J,z]:=I.look;show-PySem.W.set_plain X J j (PySem.W.osa_open (s:={s with toks:=s.toks+1}) (r:=jp) X J N e λb=>?_);let#[B,p,u]:=PySem.W.any_some i;let o:s.heap.get? x=ja #[.ref C,ja ah,.plain,#[]]:=I.obj;show-az (bu (az (az (aAa o (az (PySem.W.Looks.here (s:={s with toks:=s.toks+1}) (PySem.W.looks_clsIn X p) ?_))))));rw[u];show-bu (a:=ja ah) (az (bu (az ?_)));show-wpAny_nsSet1 (s:={s with toks:=s.toks+1}) I.ns λc d g=>?_;let#[V,L,t,m,n,l]:=d.count (ĵ name v q);show-az (aAb m (by rw[n];show-ayH (eh l (by rw[e5];lia))) ?_);show-bu (h _ #[(g.2 _ (dG I.ne)).trans I.obj,d,I.ne] g)
def akC{R:wA->aS->Prop}{vs:en}{a:List (Str×a5)}(X:K.In s.Q)(hm:Qz K C=jx)(c:cK K (.ref C) "__init__"=ja (ja (.ref f)))(b:BD K (.ref f)=ja (.type "function"))(h:oV (bj prog w) (A.under (.builtin "type.__call__" #[.ref C::vs,a])) (.call (.ref f) #[.ref (s.L+1)::vs,a]) (PySem.W.InitBack (s.L+1) R)
   {s with heap:=(s.heap.push wy).push (yN C s.L)}):
  oV (bj prog w) A (.call (.ref C) #[vs,a]) R s:=by let#[k,g,d,t,os]:=s;show-PySem.W.make_core (PySem.W.makes_of X hm) (wz X c) (λself=>ajA X self b) (.inl rfl) h
end
def lJ(f:Str)(v:V):List (Str×V)->List (Str×V)
 |[]=>[(f,v)]
 | (g,x)::r=>if g=f then(g,v)::r else(g,x)::lJ f v r
theorem Ye(f g:Str)(v:V):∀c:List (Str×V),(lJ f v c).lookup g=if g=f then ja v else c.lookup g
 |[]=>by
  show wd g [(f,v)]=_;by_cases h:g=f
  .let a:(g==f)=jx:=rM.mpr h;simp only[wd,a,b2 h]
  let a:(g==f)=jA:=BY.mpr h;simp only[wd,a,bL h]
 | (k,x)::r=>by
  let d:=Ye f g v r;rw[show lJ f v ((k,x)::r)=(if k=f then(k,v)::r else(k,x)::lJ f v r)from rfl];by_cases b:k=f
  .rw[b2 b];by_cases h:g=k
   .let a:(g==k)=jx:=rM.mpr h;simp only[wd,a,b2 (h.trans b)]
   let a:(g==k)=jA:=BY.mpr h;simp only[wd,a,bL (λe:g=f=>h (e.trans b.J))]
  rw[bL b];by_cases h:g=k
  .let a:(g==k)=jx:=rM.mpr h;simp only[wd,a,bL (λe:g=f=>b (h.symm.trans e))]
  let a:(g==k)=jA:=BY.mpr h;simp only[wd,a];show-d
theorem Hy(f:Str)(v:V):∀b:List (Str×V),f∈(lJ f v b).map (·.1)/\∀g,g∈b.map (·.1)->g∈(lJ f v b).map (·.1)
 |[]=>#[by simp[lJ],λg h=>by simp at h]
 | (k,x)::r=>by
  let#[c,d]:=Hy f v r;rw[show lJ f v ((k,x)::r)=(if k=f then(k,v)::r else(k,x)::lJ f v r)from rfl];by_cases a:k=f
  .rw[b2 a];subst a;show#[by simp,λg h=>by simpa using h]
  rw[bL a];show#[4,λg h=>?_]
  .rw[hL];show-nO _ c
  rw[hL]at h⊢;rcases dQ.mp h with e|e
  .exact dQ.mpr (.inl e)
  show-nO _ (d g e)
theorem Yf(f:Str)(v:V):∀b:List (Str×V),(lJ f v b).Z<=b.Z+1
 |[]=>by simp[lJ]
 | (k,x)::r=>by
  let c:=Yf f v r;rw[show lJ f v ((k,x)::r)=(if k=f then(k,v)::r else(k,x)::lJ f v r)from rfl];by_cases a:k=f
  .rw[b2 a,e5,e5];lia
  rw[bL a,e5,e5];lia
def k6.XD{o:yT}(r:k6 (ja v) o):∃u,o=ja u/\RelV v u:=by
 cases o with
 |none=>exact(show False from r).elim
 |some u=>show#[u,2,r]
def k6.none_of{o:yT}(r:k6 jp o):o=jp:=by
 cases o with
 |none=>rfl
 |some u=>exact(show False from r).elim
def aiQ(r:RelV v u):ajF u=jx:=by
 cases v with
 |cw=>cases(show u=iA from r);rfl
 |aX b=>cases(show u=Fz b from r);rfl
 |int i=>let#[t,e]:=(show∃t,u=qu i t from r);cases e;rfl
 |str x=>let#[t,e]:=(show∃t,u=wD x t from r);cases e;rfl
 |BZ b=>let#[t,e]:=(show∃t,u=Value.bytes b t from r);cases e;rfl
 |ze b=>let#[t,e]:=(show∃t,u=Š b t from r);cases e;rfl
 |ref a=>cases(show u=c1 a from r);rfl
 |ty n=>cases(show u=FA n from r);rfl
section
variable{P:cx}{w:b0}{H H':af}{h h':Heap}{a C ah:Addr}{fs avw:List (Str×V)}
def Oy(c:gK P w H h)(e:H a=ja (.ins C ah fs)):∃b,yp h a ah C b/\(∀f,k6 (fs.lookup f) (b f))/\BE b (fs.map (·.1))/\fs.Z<=1000/\H ah=ja (.own a):=by
 let#[d,z,g,k,b,n,r,q]:=(show fh P w H h a (.ins C ah fs)from c a _ e)
 show#[b,#[k,n,g],r,q,z,d]
end
structure ef(K:aI)(C:Addr):Prop where
 ayI:QB K C pN=jx
 hd:Fc K C=jx
 po:ajM K C=jx
 hf:cK K (.ref C) "__setattr__"=ja (ja (.builtin "object.__setattr__"))
def ef.get{K:aI}(c:ef K C)(f:Str):QB K C f=jx:=(c.ayI)
def xU(K:aI)(C:Addr)(f:Str):Prop:=cK K (.ref C) f=ja jp
def xU.azJ{K:aI}{f:Str}(n:xU K C f):Ĵ K C f=ja jp:=by unfold Ĵ;rw[show cK K (.ref C) f=ja jp from n];rfl
structure Meth(K:aI)(C:Addr)(m:Str)(f:Addr):Prop where
 at_:cK K (.ref C) m=ja (ja (.ref f))
 fn:rI K (.ref f)=jx
 fL:m4 K (.ref f)=jx
section
variable{X:bA}{pins:dU}{U:St}{H:af}{s:aS}{a C ah:Addr}{fs:List (Str×V)}{f:Str}{v:V}{A:et}{E:cL}
def ag7{Q:cL}(I:Inv X pins U H s)(e:H a=ja (.ins C ah fs))(c:ef X.K C)(n:xU X.K C f)(l:fs.lookup f=ja v)(h:∀u d,Inv X pins U H d->RelV v u->Q u d):aQ (bj X.prog X.w) A (getAttr (.ref a) f b) Q E s:=by let#[k,O,r,6,_]:=Oy I.bC e;let#[u,g,e3]:=k6.XD (v:=v) (o:=k f) (by rw[<-l];show-r f);show-alG I.e1 O (c.get f) c.hd n g (aiQ e3) (h u _ (I.tok _) e3)
def Hj{pl:Sem Bool}{Q:a5×List a5->aS->Prop}(I:Inv X pins U H s)(e:H a=ja (.ins C ah fs))(c:ef X.K C)(k:Meth X.K C m g)(l:fs.lookup m=jp)(h:Q (.ref g,[.ref a]) s):aQ (bj X.prog X.w) A (zj (.ref a) m pl) Q E s:=by let#[d,O,r,6,_]:=Oy I.bC e;let b:d m=jp:=k6.none_of (by rw[<-l];show-r m);show-akB I.e1 O (c.get m) k.at_ k.fn b h
def ag8{Q:Unit->aS->Prop}(I:Inv X pins U H s)(e:H a=ja (.ins C ah fs))(c:ef X.K C)(n:xU X.K C f)(B:fs.Z<1000)(w:RelV y u)(h:∀l,Inv X pins U (upd H a (.ins C ah (lJ f y fs))) l->Q () l):aQ (bj X.prog X.w) A (H5 (.ref a) f u) Q E s:=by
 let#[k,O,r,m,_,aY]:=Oy I.bC e;let j:(fs.map (·.1)).Z<=sizeLine:=by rw[bQ,vA];lia
 show-alH I.e1 O c.hf c.po n.azJ c.hd m j λL d K=>h _ ?_;let N:∃o,L.get? ah=ja o:=let⟨o,_,_,t,_⟩:=d.ns;#[o,t]
 show-I.write (x:=a) (e:=ah) (by rw[e];show-nX) (.inr aY) (λb q p z=>(K.2 b p).trans z) N ?_;show#[by rwa[aJ O.ne],4,O.ne,d.obj,_,d.ns,λg=>?_,λg i=>?_]
 .have:=Yf f y fs;lia
 .show k6 ((lJ f y fs).lookup g) (if g=f then ja u else k g);rw[Ye];by_cases q:g=f
  .rwa[b2 q,b2 q]
  rw[bL q,bL q];exact r g
 by_cases q:g=f
 .rw[q];exact(Hy f y fs).1
 refine(Hy f y fs).2 g (m g λz=>i ?_);show(if g=f then ja u else k g)=jp;rwa[bL q]
def Inv.made(I:Inv X pins U H s):Inv X pins U (upd (upd H s.heap.objs.size (.own (s.L+1))) (s.L+1) (.ins C s.heap.objs.size []))
  {s with heap:=(s.heap.push wy).push (yN C s.L)}:=by
 let c:(s.heap.push wy).get? s.L=ja wy:=g4 s.heap rfl;let g:((s.heap.push wy).push (yN C s.L)).get? (s.L+1)=ja (yN C s.L):=by
  have:=g4 (s.heap.push wy) (o:=yN C s.L) rfl
  rwa [uc]at this
 let m:(s.heap.push wy).Ns s.heap.objs.size (λ_=>jp):=#[wy,#[],_,c,2,(λe n=>bk n qv),λ_=>rfl]
 let k:=I.laid (a:=s.L) (o:=.own (s.L+1)) (h':=s.heap.push wy) (t':=s.toks) (λb u q=>d8 _ q) (cy _) #[_,c];show-k.laid (a:=s.L+1) (o:=.ins C s.heap.objs.size []) (t':=s.toks) (λb u q=>d8 _ q) (Qm (uc _ _)) ?_;let d:s.L≠s.L+1:=fH (yK _);show#[by rw[aJ d,aN],ei _,d,g,λ_=>jp,(agH m).at λo q=>d8 _ q,λ_=>nX,λy l=>bk rfl l]
theorem alI{b:Env}{f:Str}{Q:cL}(c:BW e f b (eval e b)=eval e b)(h:aQ (bj prog w) A (eval e b) (λo d=>aQ (bj prog w) A (getAttr o f jx) Q E d) E s):aQ (bj prog w) A (eval (.Attribute e f pos) b) Q E s:=
 Attribute_any_ h (by rw[arm_eval_Attribute,c])
end
inductive asD(K:aI)(f:Str)(x:V)(H1:af)(Q:aO):Prop where
 |mk(a:_)(C:_)(ah:_)(fs:_)(v:_)(_:x=.ref a)(_:H1 a=ja (.ins C ah fs))(_:ef K C)(_:xU K C f)(_:fs.lookup f=ja v)(_:Q v H1)
def aaM(K:aI)(b:TE)(f:Str):TE:=λU H Q=>b U H λx a=>asD K f x a Q
def aaN(K:aI)(k bf:TE)(f:Str):fJ:=λD U H=>bf U H λy g=>k U g λx c=>∃a C d b,x=.ref a/\c a=ja (.ins C d b)/\ef K C/\xU K C f/\b.Z<1000/\
 D.dq U (upd c a (.ins C d (lJ f y b)))
section
variable{X:bA}{o e value:Expr}{f:Str}{pos pos' Ap:Pos}{cu bf:TE}
def dE(w:a' X e cu)(m:BW e f X.env (eval e X.env)=eval e X.env:=by rfl):a' X (.Attribute e f pos) (aaM X.K cu f):=by intro b s U H Q I h;show-alI m (bT (w b s U H _ I h) λu L y=>?_);let#[x,d,k,p,a,C,A,K,v,t,g,c,n,l,q]:=y;subst t;obtain rfl:u=c1 a:=p;show-ag7 k g c n l λV N r e3=>#[v,d,r,e3,q]
def jo(k:a' X o cu)(r:a' X value bf)(i:xH value (ja (.Attribute o f pos')) pos.line X.env=pure jA):i7 X (.Assign [.Attribute o f pos'] value pos) (aaN X.K cu bf f):=by intro b s U H D I h;show-ayJ (bT (r b s U H _ I h) λu j d=>?_) i;let#[y,g,p,A,q]:=d;show-bT (k b j U g _ p q) λV F d=>?_;let#[x,z,w,t,a,C,B,E,N,m,c,n,l,L]:=d;subst N;obtain rfl:V=c1 a:=t;show-ag8 w m c n l A λG K=>#[U,_,K,L]
def aBi{pl:Sem Bool}{n:Pos}{args:hO}{Q:cL}{w:TE}(V:a' X e w)(I:Inv X pins U H s)(h:w U H λx d=>∃a C t p g,x=.ref a/\d a=ja (.ins C t p)/\ef X.K C/\Meth X.K C m g/\p.lookup m=jp/\
   ∀b,Inv X pins U d b->aQ (bj X.prog X.w) X.A (y1 pos (.ref g) [.ref a] (hE pos (dh args X.env)) (n3 pos (ot [] X.env))) Q X.dN b)(L:eval (.Call (.Attribute e m n) args [] pos) X.env=(do
   let y <-eval e X.env
   vC n.atName
   let(f,first) <-tr [y] (zj y m pl)
   y1 pos f first (hE pos (dh args X.env)) (n3 pos (ot [] X.env)))):
  aQ (bj X.prog X.w) X.A (eval (.Call (.Attribute e m n) args [] pos) X.env) Q X.dN s:=by show-Fd (pl:=pl) (bT (V pins s U H _ I h) λu b i=>?_) L;let#[x,d,r,K,a,C,t,p,g,N,A,c,k,l,q]:=i;subst N;obtain rfl:u=c1 a:=K;show-Hj r A c k l (q b r)
end
section
variable{X:bA}{pins:dU}{U:St}{H:af}{s:aS}{A:et}{E:cL}{Q:cL}{c:a5}{b:Bool}
inductive pA(K:aI)(H:af):V->a5->Prop where
 |cw:pA K H .cw (.type "NoneType")
 |aX(x:Bool):pA K H (.aX x) (.type "bool")
 |int(i:Int):pA K H (.int i) (.type "int")
 |str(x:Str):pA K H (.str x) (.type "str")
 |ze(x:UInt64):pA K H (.ze x) (.type "float")
 |lst{a:Addr}{xs:aL}(_:H a=ja (.lst xs)):pA K H (.ref a) (.type "list")
 |fi{a:Addr}{o:Obj}{xs:aL}(_:H a=ja (.fi o (.lst xs))):pA K H (.ref a) (.type "list")
 |tup{a:Addr}{xs:aL}(_:H a=ja (.tup xs)):pA K H (.ref a) (.type "tuple")
 |cO{a:Addr}{kvs:List (bU×V)}(_:H a=ja (.cO kvs)):pA K H (.ref a) (.type "dict")
 |dA{a:Addr}{kvs:List (List bU×V)}(_:H a=ja (.dA kvs)):pA K H (.ref a) (.type "dict")
 |ins{a C ah:Addr}{fs:List (Str×V)}(_:H a=ja (.ins C ah fs))(_:ef K C)(_:cK K (.ref C) "__class__"=ja (ja (.builtin "object.__class__")))
   (hn:pM K (.builtin "object.__class__") "__get__"=ja (ja (.builtin "getset_descriptor.__get__"))) (MF:tb K (.builtin "object.__class__")=ja jx)
   (hm:j_ K C (.type "object")=ja jx):pA K H (.ref a) (.ref C)
def aiR{t:a5}(I:Inv X pins U H s)(d:RelV x u)(ty:pA X.K H x t)(e:lU X.K t c=ja b)(h:∀l,Q (.bool b) {s with toks:=l}):
  aQ (bj X.prog X.w) A (call (.builtin "isinstance") [u,c]) Q E s:=by
 cases ty with
 |cw=>cases(show u=iA from d);show-qr PySem.W.kitx_none I.e1 nX e (λz=>nomatch z) h
 |aX y=>cases(show u=Fz y from d);show-qr PySem.W.kitx_bool I.e1 nX e (λz=>nomatch z) h
 |int i=>let#[t,q]:=(show∃t,u=qu i t from d);cases q;show-qr PySem.W.kitx_int I.e1 nX e (λz=>nomatch z) h
 |str y=>let#[t,q]:=(show∃t,u=wD y t from d);cases q;show-qr PySem.W.kitx_str I.e1 nX e (λz=>nomatch z) h
 |ze y=>let#[t,q]:=(show∃t,u=Š y t from d);cases q;show-qr PySem.W.kitx_float I.e1 nX e (λz=>nomatch z) h
 |@lst a g j=>
  cases(show u=c1 a from d);let#[6,n,_,f]:=(show fh X.prog X.w H s.heap a (.lst g)from I.bC a _ j)
  show-qr ajI I.e1 #[_,f,2] e (λz=>nomatch z) h
 |@fi a ob g j=>
  cases(show u=c1 a from d);let#[6,_,n,_,f]:=(show fh X.prog X.w H s.heap a (.fi ob (.lst g))from I.bC a _ j)
  show-qr ajI I.e1 #[_,f,2] e (λz=>nomatch z) h
 |@tup a g j=>
  cases(show u=c1 a from d);let#[6,_,p]:=(show fh X.prog X.w H s.heap a (.tup g)from I.bC a _ j)
  let#[o,f,k,_]:=p;show-qr PySem.W.kitx_tuple I.e1 #[o,f,k] e (λz=>nomatch z) h
 |@cO a kvs j=>
  cases(show u=c1 a from d);let#[6,vs,_,p]:=(show fh X.prog X.w H s.heap a (.cO kvs)from I.bC a _ j)
  let#[o,r,m,f,k,_]:=p;show-qr ajH I.e1 #[o,f,k.1] e (λz=>nomatch z) h
 |@dA a kvs j=>
  cases(show u=c1 a from d);let#[6,g,_,o,r,m,f,k,_]:=(show fh X.prog X.w H s.heap a (.dA kvs)from I.bC a _ j)
  show-qr ajH I.e1 #[o,f,k.1] e (λz=>nomatch z) h
 |@ins a C ah fs j cl aB hn MF hm=>
  cases(show u=c1 a from d);let#[K,O,_]:=Oy I.bC j;let#[w,J,_]:=O.look;show-qr (PySem.W.kitx_own (cl.get _) cl.hd aB hn MF hm) I.e1 J e (λz=>nomatch z) h
end
structure gU(k:Nat)(A:et):Prop where
 hd:A.handled=jp
 Ls:A.depth+3*k+5<recursionLimit
 un:A.units+16*k+200<cLine
def gU.mono{j k:Nat}(r:gU k A)(h:j<=k:=by decide):gU j A:=(#[r.hd,by have:=r.Ls;lia,by have:=r.un;lia])
theorem gU.deeper{k:Nat}{A:et}(r:gU (k+1) A)(a:Env):gU k (A.deeper a):=
 #[r.hd,by have:=r.Ls;show A.depth+1+3*k+5<_;lia,by have:=r.un;show A.units+3+16*k+200<_;lia]
def ag9{A:et}{C:Addr}{b:en}{a:List (Str×a5)}:(A.under (.builtin "type.__call__" #[.ref C::b,a])).depth=A.depth+1:=by
 first|rfl|simp[Zr,Code.weight,Code.isCreation,Code.isGuard,Code.isCaller,Code.frames,ZN,guardIds]
def aha{A:et}{C:Addr}{b:en}{a:List (Str×a5)}:(A.under (.builtin "type.__call__" #[.ref C::b,a])).units=A.units+1:=by
 first|rfl|simp[Zr,Code.cUnits,Code.frames,ZN]
theorem gU.make{k:Nat}{A:et}(r:gU (k+1) A)(C:Addr)(b:en)(a:List (Str×a5)):gU k (A.under (.builtin "type.__call__" #[.ref C::b,a])):=
 #[r.hd,by have:=r.Ls;rw[ag9];lia,by have:=r.un;rw[aha];lia]
def gU.depth{k:Nat}{A:et}(r:gU k A):A.depth<recursionLimit:=by have:=r.Ls;lia
def gU.units{k:Nat}{A:et}(r:gU k A):A.units+64<cLine:=by have:=r.un;lia
def vV:fR:=λ_ H Q=>Q [] H
def js(d:TE)(a:fR):fR:=λU H Q=>d U H λx b=>a U b λf c=>Q (x::f) c
section
variable{X:bA}{e:Expr}{es:hO}{bR:TE}{t:fR}{pos:Pos}
def ay:fI X [] vV:=(λ_ _ _ _ H Q I h=>O' #[[],H,I,.nil,h])
def aj(d:a' X e bR)(k:fI X es t)(r:dh (e::es) X.env=(jA,eval e X.env)::dh es X.env:=by rfl):fI X (e::es) (js bR t):=by intro pos a s U H Q I h;rw[r];show aQ _ _ (spliced ((jA,eval e X.env)::hE pos (dh es X.env))) _ _ s;show-Eu (bT (d a s U H _ I h) λu w b=>?_);let#[x,c,f,n,m]:=b;show-bT (k pos a w U c _ f m) λK A b=>?_;let#[y,g,l,p,o]:=b;show#[x::y,g,l,.cons n p,o]
inductive Rw(n:Nat)(H:af)(o:hX)(Q:aO):Prop where
 |mk(_:n<=sizeLine)(_:∀p,H p=jp->Q (.ref p) (upd H p o))
def asE(t:fR):TE:=λU H Q=>t U H λa b=>Rw a.length b (.tup a) Q
def Bu(t:fR):TE:=λU H Q=>t U H λa b=>Rw a.length b (.lst a) Q
def qW{hh}(h:fI X es t):a' X (.Tuple es hh pos) (asE t):=by intro a s U H Q I k;show-wpAny_Tuple_spliced (bT (h pos a s U H _ I k) λm c l=>?_);let#[n,d,f,r,z,q]:=l;show#[by rwa[<-r.Z],4];let g:d c.L=jp:=f.bC.fresh (cy _);show#[.ref c.L,upd d c.heap.objs.size (.tup n),f.laid (t':=c.toks) (λb u e=>d8 _ e) (cy _) ?_,2,q _ g];show#[z,m,r,#[_,g4 _ rfl,7]]
def gc(h:fI X es t):a' X (.List es pos) (Bu t):=by intro a s U H Q I k;show-wpAny_List_spliced (bT (h pos a s U H _ I k) λm c l=>?_);let#[n,d,f,r,z,q]:=l;show#[by rwa[<-r.Z],4];let g:d c.L=jp:=f.bC.fresh (cy _);show#[.ref c.L,upd d c.heap.objs.size (.lst n),f.laid (t':=c.toks) (λb u e=>d8 _ e) (cy _) ?_,2,q _ g];show#[z,m,0,r,g4 _ rfl]
abbrev fu:=List V->af->aO->bF->Prop
abbrev oJ:=List Env->af->aS->bF->a5->aS->Prop
structure yq(P:cx)(w:b0)(K:aI)(mg:b6)(base:Heap)(A:et)(outer:List Env)(s:aS)(H:af):Prop where
 frames:A.frames=ja outer
 mod:Mod K mg base
 bs:∀b o,base.get? b=ja o->s.heap.get? b=ja o/\H b=jp
 tf:base.Y<=s.L
 l0:s.heap.FunFrames base outer
 uW:∀b∈fa outer,H b=jp
 bC:gK P w H s.Q
 bare:tY s.gens
inductive O8(outer:List Env)(P:cx)(w:b0)(H:af)(s:aS)(Q:aO)(u:a5)(s':aS):Prop where
 |mk(v:V)(H':af)(_:s'.os=s.os)(_:tY s'.gens)(_:iO (fa outer) [] H H' s.heap s'.Q)(_:gK P w H' s'.Q)(_:RelV v u)(_:Q v H')
end
def agc(c:oJ)(a:List Env)(P:cx)(w:b0)(H:af)(s:aS)(Q:aO)(E:bF)(r:wA)(b:aS):Prop:=
 match r with
 |.ok (.ret u)=>O8 a P w H s Q u b
 |.ok _=>False
 |.error e=>c a H s E e b
structure aA(P:cx)(w:b0)(K:aI)(mg:b6)(base:Heap)(CX:oJ)(k:Nat)(f:Addr)(fd:nM)(ps:bY)(sp:fu):Prop where
 len:∀vs H Q E,sp vs H Q E->vs.Z=ps.Z
 run:∀(A:et)(outer:List Env)(s:aS)(H:af)(args:Args)(us:en)(vs:aL)(Q:aO)(E:bF),gU k A->yq P w K mg base A outer s H->Eo s fd args (ps.zip us)->dM vs us->sp vs H Q E->
  oV (bj P w) A (.call (.ref f) args) (agc CX outer P w H s Q E) s
theorem aA.mono{K:aI}{c:b6}{a:Heap}{j k:Nat}{f:Addr}(F:aA P w K c a e j f fd i sp)(h:j<=k):
  aA P w K c a e k f fd i sp:=#[F.len,λA b s H args g vs Q E d=>F.run A b s H args g vs Q E (d.mono h)]
theorem yq.make{K:aI}{b:b6}{a:Heap}{A:et}(e:yq P w K b a A outer s H)(C:Addr)(d:en)(c:List (Str×a5)):
  yq P w K b a (A.under (.builtin "type.__call__" #[.ref C::d,c])) outer s H:=#[by first|exact e.frames|(simpa[Zr,Code.envs,ZN,pushEnvs]using e.frames),e.mod,e.bs,e.tf,e.l0,e.uW,e.bC,e.bare]
section
variable{X:bA}{pins:dU}{U:St}{H:af}{s s':aS}
theorem Inv.F2(I:Inv X pins U H s):yq X.prog X.w X.K X.mg X.base X.A X.stack s H:=
 #[I.ok.frames,I.ok.mod,I.bs,eh I.ok.tf I.oB,I.stack,I.NS,I.bC,I.bare]
def Inv.after(I:Inv X pins U H s)(h:O8 X.stack X.prog X.w H s Q u s'):jh X pins U Q u s':=by let#[v,H',os,a,l,f,r,q]:=h;let#[k,g,d,t,c]:=s';obtain rfl:c=s.os:=os;show#[v,H',I.call (h':=k) (g':=g) (d':=d) (t':=t) (ch:=[]) l f a (λb z=>bk z qv),r,q]
end
def QG(sp:fu)(b:aL)(E:bF)(t:fR):TE:=λU H Q=>t U H λvs a=>sp (vs++b) a Q E
inductive apX(C:Addr)(m:Str)(x:V)(H1:af)(R:Prop):Prop where
 |mk(a:_)(ah:_)(fs:_)(_:x=.ref a)(_:H1 a=ja (.ins C ah fs))(_:fs.lookup m=jp)(_:R)
def QH(C:Addr)(m:Str)(sp:fu)(d:aL)(E:bF)(c:TE)(t:fR):TE:=λU H Q=>c U H λx a=>apX C m x a (t U a λvs b=>sp (x::(vs++d)) b Q E)
def aaj(C:Addr)(sp:fu)(d:aL)(E:bF)(t:fR):TE:=λU H Q=>t U H λvs b=>∀x a,b x=jp->b a=jp->a≠x->
 sp (.ref x::(vs++d)) (upd (upd b a (.own x)) x (.ins C a [])) (λv c=>v=.cw/\Q (.ref x) c) E
def Binds(K:aI)(c:nM)(b:bY)(ds:en):Prop:=
 ∀(s:aS)(a:en),K.In s.Q->(a++ds).Z=b.Z->Eo s c #[a,[]] (b.zip (a++ds))
def Binds.all{K:aI}{b:bY}(h:∀a:List a5,a.Z=b.Z->Ll fd #[a,[]]=pure (b.zip a)):Binds K fd b []:=(λs a _ c=>by rw[kK]at c⊢;show-.of_eq (h a c))
def om(c:oJ)(X:bA)(E:bF):Prop:=∀(a:dU)(U:St)(H:af)(s:aS)(e:a5)(b:aS),Inv X a U H s->c X.stack H s E e b->X.dN e b
section
variable{X:bA}{CX:oJ}{k:Nat}{f C:Addr}{fd:nM}{ps:bY}{sp:fu}{jX:aL}{ds:en}{E:bF}{x m:Str}{p pos fS:Pos}{e o:Expr}{es:hO}{cu:TE}{t:fR}
def Jl{vs:aL}(F:aA X.prog X.w X.K X.mg X.base CX k f fd ps sp)(d:gU k X.A)(c:Binds X.K fd ps ds)(n:dM jX ds)(g:om CX X E)(I:Inv X pins U H s)(r:dM vs us)(h:sp (vs++jX) H Q E):aQ (bj X.prog X.w) X.A (call (.ref f) us) (jh X pins U Q) X.dN s:=by
 let b:dM (vs++jX) (us++ds):=r.append n;let l:(us++ds).Z=ps.Z:=by rw[<-b.Z];show-F.len _ _ _ _ h
 show-sE (qy (F.run X.A X.stack s H #[us,[]] (us++ds) (vs++jX) Q E d I.F2 (c s us I.e1 l) b h) λr w a=>?_);cases r with
 |error e=>show-g pins U H s e w I a
 |ok ez=>
  cases ez with
  |ret u=>show-I.after a
  |next=>show-i6 a
  |brk=>show-i6 a
  |cont=>show-i6 a
def alJ(F:aA X.prog X.w X.K X.mg X.base CX k f fd ps sp)(l:gU k X.A)(A:jR X x)(hm:X.mg x=ja (.ref f))(d:m4 X.K (.ref f)=jx)(g:Binds X.K fd ps ds)(w:dM jX ds)(n:om CX X E)(c:fI X (e::es) t)(L:(x==("__debug__":Str))=jA:=by decide)(y:dh (e::es) X.env=(jA,eval e X.env)::dh es X.env:=by rfl)(fV:(hE pos (dh es X.env)).any (·.1)=jA:=by rfl):
  a' X (.Call (.Name x p) (e::es) [] pos) (QG sp jX E t):=by intro a s U H Q I h;show-DU (vq I A hm ?_ L);show-BC (h₀:=X.base) I.ok.mod.tF d (bT (c pos a s U H _ I h) λi V K=>?_) y fV;let#[vs,N,b,r,q]:=K;show#[b.e1,4];show-Jl F l g w n b r q
def fg{pl:Sem Bool}(G:a' X o cu)(c:ef X.K C)(hm:Meth X.K C m f)(F:aA X.prog X.w X.K X.mg X.base CX k f fd ps sp)(N:gU k X.A)(L:Binds X.K fd ps ds)(D:dM jX ds)(V:om CX X E)(A:fI X (e::es) t)(J:dh (e::es) X.env=(jA,eval e X.env)::dh es X.env:=by rfl)(fV:(hE pos (dh es X.env)).any (·.1)=jA:=by rfl)(j:eval (.Call (.Attribute o m fS) (e::es) [] pos) X.env=(do
   let w <-eval o X.env
   vC fS.atName
   let(f,first) <-tr [w] (zj w m pl)
   y1 pos f first (hE pos (dh (e::es) X.env)) (n3 pos (ot [] X.env))):=by rfl):
  a' X (.Call (.Attribute o m fS) (e::es) [] pos) (QH C m sp jX E cu t):=by intro b s U H Q I h;show-Fd (pl:=pl) (bT (G b s U H _ I h) λu M d=>?_) j;let#[x,y,g,i,a,P,R,B,K,l,q]:=d;subst B;obtain rfl:u=c1 a:=i;show-Hj g K c hm l ?_;show-BC (first:=[.ref a]) (h₀:=X.base) I.ok.mod.tF hm.fL (bT (A pos b M U y _ g q) λus T d=>?_) J fV;let#[vs,O,n,r,z]:=d;show#[n.e1,4];show-Jl (us:=.ref a::us) (vs:=.ref a::vs) F N L D V n (.cons rfl r) z
def oa{pl:Sem Bool}(V:a' X o cu)(c:ef X.K C)(hm:Meth X.K C m f)(F:aA X.prog X.w X.K X.mg X.base CX k f fd ps sp)(w:gU k X.A)(r:Binds X.K fd ps ds)(N:dM jX ds)(y:om CX X E)(K:eval (.Call (.Attribute o m fS) [] [] pos) X.env=(do
   let g <-eval o X.env
   vC fS.atName
   let(f,first) <-tr [g] (zj g m pl)
   y1 pos f first (hE pos (dh [] X.env)) (n3 pos (ot [] X.env))):=by rfl):
  a' X (.Call (.Attribute o m fS) [] [] pos) (QH C m sp jX E cu vV):=by intro b s U H Q I h;show-Fd (pl:=pl) (bT (V b s U H _ I h) λu D i=>?_) K;let#[x,j,d,A,a,z,B,L,n,l,q]:=i;subst L;obtain rfl:u=c1 a:=A;show-Hj d n c hm l ?_;show-ajB (first:=[.ref a]) d.e1 hm.fL (Jl (us:=[.ref a]) (vs:=[.ref a]) F w r N y d (.cons rfl .nil) q)
structure nQ(K:aI)(C f:Addr):Prop where
 makes:Qz K C=jx
 init:cK K (.ref C) "__init__"=ja (ja (.ref f))
 fn:rI K (.ref f)=jx
 fL:m4 K (.ref C)=jx
def Z_{H:af}{Q:aO}{vs:aL}(M:nQ X.K C f)(F:aA X.prog X.w X.K X.mg X.base CX k f fd ps sp)(w:gU (k+1) X.A)(l:Binds X.K fd ps ds)(i:dM jX ds)(y:om CX X E)(I:Inv X pins U H s)(r:dM vs us)(h:∀x b,H x=jp->H b=jp->b≠x->sp (.ref x::(vs++jX)) (upd (upd H b (.own x)) x (.ins C b [])) (λv n=>v=.cw/\Q (.ref x) n) E):
  aQ (bj X.prog X.w) X.A (call (.ref C) us) (jh X pins U Q) X.dN s:=by
 let d:=h (s.L+1) s.heap.objs.size (I.bC.fresh (E6 _)) (I.bC.fresh (cy _)) (fH (yK _));let c:=Inv.made (C:=C) I;let g:dM (V.ref (s.L+1)::(vs++jX)) (c1 (s.L+1)::(us++ds)):=.cons rfl (r.append i);let A:(c1 (s.L+1)::us++ds).Z=ps.Z:=by let e:=g.Z;rw[F.len _ _ _ _ d]at e;show-e.J
 show-sE (akC (f:=f) I.e1 M.makes M.init (rM.mp M.fn) (qy (F.run _ X.stack _ _ #[c1 (s.L+1)::us,[]] (c1 (s.L+1)::(us++ds)) _ _ E (w.make C us [])
  (c.F2.make C us []) (l _ (c1 (s.L+1)::us) c.e1 A) g d) λr q a=>?_))
 cases r with
 |error e=>show-y pins U _ _ e q c a
 |ok ez=>
  cases ez with
  |ret u=>
   let#[v,H',K,L,N,j]:=c.after a;subst N;show#[L,#[V.ref (s.L+1),H',K,2,j]]
  |next=>show-i6 a
  |brk=>show-i6 a
  |cont=>show-i6 a
def tI(M:nQ X.K C f)(F:aA X.prog X.w X.K X.mg X.base CX k f fd ps sp)(g:gU (k+1) X.A)(y:jR X x)(hm:X.mg x=ja (.ref C))(d:Binds X.K fd ps ds)(n:dM jX ds)(l:om CX X E)(c:fI X (e::es) t)(K:(x==("__debug__":Str))=jA:=by decide)(w:dh (e::es) X.env=(jA,eval e X.env)::dh es X.env:=by rfl)(fV:(hE pos (dh es X.env)).any (·.1)=jA:=by rfl):
  a' X (.Call (.Name x p) (e::es) [] pos) (aaj C sp jX E t):=by intro a s U H Q I h;show-DU (vq I y hm ?_ K);show-BC (h₀:=X.base) I.ok.mod.tF M.fL (bT (c pos a s U H _ I h) λV N A=>?_) w fV;let#[vs,L,b,r,q]:=A;show#[b.e1,4];show-Z_ M F g d n l b r q
def akD(M:nQ X.K C f)(F:aA X.prog X.w X.K X.mg X.base CX k f fd ps sp)(c:gU (k+1) X.A)(l:jR X x)(hm:X.mg x=ja (.ref C))(b:Binds X.K fd ps ds)(g:dM jX ds)(d:om CX X E)(n:(x==("__debug__":Str))=jA:=by decide):a' X (.Call (.Name x p) [] [] pos) (aaj C sp jX E vV):=by intro a s U H Q I h;show-DU (vq I l hm ?_ n);show-ajB I.e1 M.fL (Z_ (us:=[]) M F c b g d I .nil h)
end
def Qu(X:bA)(c:List yw)(t:fR):Prop:=
 ∀(b:Pos)(a:dU)(s:aS)(U:St)(H:af)(Q:List V->af->Prop),Inv X a U H s->t U H Q->aQ (bj X.prog X.w) X.A (evalAll ((n3 b (ot c X.env)).map (·.2))) (Zm X a U Q) X.dN s
section
variable{X:bA}{CX:oJ}{k:Nat}{f C:Addr}{fd:nM}{ps ks:bY}{sp:fu}{E:bF}{x m:Str}{p pos fS axp:Pos}{e o:Expr}{es:hO}{GQ:List yw}{bR cu:TE}{t bc:fR}{nm:Option Str}
def aor:Qu X [] vV:=(λ_ _ _ _ H Q I h=>wpAny_evalAll_nil #[[],H,I,.nil,h])
def alK(d:a' X e bR)(n:Qu X GQ t):Qu X (#[nm,e,axp]::GQ) (js bR t):=by intro pos a s U H Q I h;show aQ _ _ (evalAll ((do let v <-eval e X.env;vC pos;pure v)::(n3 pos (ot GQ X.env)).map (·.2))) _ _ s;show-wpAny_evalAll_cons (az (bT (d a s U H _ I h) λu L b=>?_));let#[x,c,g,y,w]:=b;show-az (DY (bu ?_));show-bT (n pos a L U c _ g w) λi V b=>?_;let#[N,l,r,K,A]:=b;show#[x::N,l,r,.cons y K,A]
end
structure cp(N P:bY)(sc:Scope):Prop where
 kind:sc.kind=.function:=by rfl
 co:sc.isCoroutine=jA:=by rfl
 gen:sc.isGenerator=jA:=by rfl
 aC:N.Nodup:=by decide +kernel
 pre:N.take P.Z=P:=by rfl
 par:∀x∈P,sc.names.lookup x=ja .local\/sc.names.lookup x=ja .cell:=by decide +kernel
 ayg:∀y∈sc.names,y.2≠.free:=by decide +kernel
theorem ZG{kindOf:Str->Option yI}:∀{a:List (Str×a5)}{m:b6},(∀v,(x,v)∉a)->yZ kindOf a m x=m x
 |[],_,_=>rfl
 | (n,v)::r,m,h=>by
  unfold yZ;rw[ZG λw b=>h w (nO _ b)];split
  .have:x≠n:=by rintro rfl;show-h v we
   simp[this]
  rfl
theorem ZH{kindOf:Str->Option yI}:∀{a:List (Str×a5)}{m:b6},(∀v,(x,v)∉a)->yY kindOf a m x=m x
 |[],_,_=>rfl
 | (n,v)::r,m,h=>by
  unfold yY;rw[ZH λw b=>h w (nO _ b)];split
  .rfl
  have:x≠n:=by rintro rfl;show-h v we
  simp[this]
theorem ZI{kindOf:Str->Option yI}:∀{P:bY}{vs:en}{i:Nat}{m:b6},P.Nodup->P[i]?=ja x->vs[i]?=ja v->kindOf x=ja .local->
  yZ kindOf (P.zip vs) m x=ja v
 |[],_,_,_,_,h,_,_=>by simp at h
 |_::_,[],_,_,_,_,h,_=>by simp at h
 |p::P,w::vs,0,m,aC,ai,ak,e=>by simp at ai ak;subst ai;subst ak;show yZ kindOf ((p,w)::P.zip vs) m p=_;unfold yZ;rw[ZG λv a=>(jj.mp aC).1 (Ù a).1,b2 e];simp
 |p::P,w::vs,i+1,m,aC,ai,ak,e=>by show yZ kindOf ((p,w)::P.zip vs) m x=_;unfold yZ;show-ZI (i:=i) (jj.mp aC).2 (by simpa using ai) (by simpa using ak) e
theorem ZJ{kindOf:Str->Option yI}:∀{P:bY}{vs:en}{i:Nat}{m:b6},P.Nodup->P[i]?=ja x->vs[i]?=ja v->kindOf x≠ja .local->
  yY kindOf (P.zip vs) m x=ja v
 |[],_,_,_,_,h,_,_=>by simp at h
 |_::_,[],_,_,_,_,h,_=>by simp at h
 |p::P,w::vs,0,m,aC,ai,ak,e=>by simp at ai ak;subst ai;subst ak;show yY kindOf ((p,w)::P.zip vs) m p=_;unfold yY;rw[ZH λv a=>(jj.mp aC).1 (Ù a).1,bL e];simp
 |p::P,w::vs,i+1,m,aC,ai,ak,e=>by show yY kindOf ((p,w)::P.zip vs) m x=_;unfold yY;show-ZJ (i:=i) (jj.mp aC).2 (by simpa using ai) (by simpa using ak) e
def start(N:bY)(vs:aL):St:=vs.map ja++List.replicate (N.Z-vs.Z) jp
def j3(g:oJ)(P:cx)(w:b0)(K:aI)(mg:b6)(base:Heap)(N:bY)(b:Str)(a:Scope)(f:Addr)(c:a5)(A:et)(outer:List Env)(s:aS)(H:af)(E:bF):bA where
 prog:=P
 w:=w
 K:=K
 mg:=mg
 base:=base
 A:=A.deeper (qD b a s.heap.objs.size f c)
 N:=N
 fD:=s
 ho:=H
 env:=qD b a s.heap.objs.size f c
 outer:=outer
 stack:=qD b a s.heap.objs.size f c::outer
 ex:=[]
 calm:=jx
 fn:=λ_=>jx
 de:=[]
 dN:=λe l=>aQ (bj P w) (A.deeper (qD b a s.heap.objs.size f c)) (leaving (qD b a s.heap.objs.size f c) e) (λ_ d=>g outer H s E e d) (λk d=>g outer H s E k d) l
def γ{a:Scope}{n:Nat}(h:a.names.lookup x=ja .cell):∃c,(abQ n a.names []).lookup x=ja c:=by let q:=ajC a.names n [] (.inl h);show-wu.mp q
def aiS{K:aI}{D:b6}{l:Heap}{t:bY}{d:Scope}{f:Addr}{A:et}{s:aS}{vs:aL}(S:cp N t d)(O:A.handled=jp)(m:yq P w K D l A outer s H)(R:vs.Z=t.Z)(r:dM vs us)(x:InCallC s s.heap.objs.size (yZ (qD qual d s.heap.objs.size f C).kindOf (t.zip us) λ_=>jp) (abQ (s.L+1) d.names []) (yY (qD qual d s.heap.objs.size f C).kindOf (t.zip us) λ_=>jp) s1):
  Inv (j3 I P w K D l N qual d f C A outer s H E) [] (start N vs) H s1:=by
 let fV:t.Z<=N.Z:=by have:=gF wc S.pre;rw[yA]at this;lia
 let#[V,T,2,F]:=x.done;let B:∀b:Addr,b∉(j3 I P w K D l N qual d f C A outer s H E).ex:=λb z=>bk (show b∈([]:b5)from z) qv;show#[#[m.mod,S.kind,2,2,cy _,λy z c V g=>?_,λy o=>?_,λy c _ h=>?_,λ_=>O,Around.frames_deeper m.frames,.inr #[2,2],λb z=>bk z (B b),m.bs,m.tf,λb _ _=>B b,λb z=>bk z (B b),m.l0,m.uW],
  rfl,m.bare,iO.kept F,#[_,x.toInCall.ns,λi y v V g Q=>?_],λy c h=>#[_,x.cell y c h],m.bC.fresh (cy _),λy c h=>?_,λp L=>bk (show p∈([]:dU)from L) qv,m.bC.kept F,4]
 .exact name_of_addr x.apart (Fe V) (Fe g)
 .let o:d.names.lookup y=ja .cell\/d.names.lookup y=ja .free:=o;rcases o with o|o
  .exact γ o
  exact bk rfl (S.ayg _ (Fe o))
 .exact mZ (x.above y c (Fe h))
 .let j:i<vs.Z:=by
   unfold start at g;by_cases j:i<vs.Z
   .exact j
   rw[Qc (by simpa using j)]at g;rw[List.getElem?_replicate]at g;split at g<;>cases g
  let J:vs[i]?=ja v:=by
   unfold start at g;rw[Bc (by simpa using j),ea]at g;cases e:vs[i]? with
   |none=>rw[e]at g;cases g
   |some a=>rw[e]at g;cases g;rfl
  let#[u,G,M]:=r.get J;let L:t[i]?=ja y:=by rw[<-S.pre,List.getElem?_take_of_lt jQ];show-V
  let vm:t.Nodup:=by rw[<-S.pre];show-S.aC.sublist (List.take_sublist _ _)
  show#[u,M,4];rcases S.par y (eX L)with k|k
  .exact .inl #[k,ZI vm L G k]
  let#[c,e]:=γ (n:=s.L+1) k;show-.inr #[.inl k,c,e,4];let q:=x.cell y c e;rw[ZJ vm L G (by show d.names.lookup y≠_;rw[k];decide)]at q;show-q
 .exact m.bC.fresh (mZ (x.above y c (Fe h)))
 unfold start;show _=N.Z;rw[dT,bQ,List.length_replicate]
 lia
def QI{K:aI}{i:b6}{c:Heap}{k:Nat}{f:Addr}{name:Str}{d:Arguments}{g:List Stmt}{ec lF:a5}{ek:Option Addr}{nx:ml}{j:bY}{sp:fu}(lk:K.lookup f=ja #[lF,ek,.func (nR name qual d g scope R ec doc pm an h gd),nx])(od:Fb K h qual=jx)(S:cp N j scope)(len:∀vs H Q E,sp vs H Q E->vs.Z=j.Z)(zm:∀(A:et)(a:List Env)(s:aS)(H:af)(vs:aL)(Q:aO)(E:bF),gU k (A.deeper (qD qual scope s.heap.objs.size f h))->sp vs H Q E->
   ∃t,ie (j3 z P w K i c N qual scope f h A a s H E) g t/\t {dq:=λ_ H'=>Q .cw H',gz:=Q} (start N vs) H):
  aA P w K i c z (k+1) f (nR name qual d g scope R ec doc pm an h gd) j sp:=by
 show#[len,λA a s H args us vs Q E B m T r G=>?_];let U:=len _ _ _ _ G;let M:K.In s.Q:=m.mod.tF.keeps λb o e=>(m.bs b o e).1;let D:s.heap.NoLimit:=m.mod.nolimit.keeps λb o e=>(m.bs b o e).1;let oe:∀y∈j.zip us,scope.names.lookup y.1=ja .local\/(scope.names.lookup y.1=ja .cell/\((abQ (s.L+1) scope.names []).lookup y.1).isSome=jx):=λ⟨n,v⟩Y=>by
  rcases S.par n (Ù Y).1 with q|q
  .exact .inl q
  show-.inr #[q,ajC _ _ _ (.inl q)]
 refine codeAny_call_function B.depth (M _ _ lk) rfl S.co S.gen rfl (PySem.W.codeRec_of M od) (T _ _ _ _ ?_);show-wpAny_newFunctionEnv_cells S.kind oe λenv he O x=>?_;subst he;show#[D.keeps x.toInCall.keep,codeAny_func ?_];let#[t,Z,X]:=zm A a s H vs Q E (B.deeper _) G;let I:Inv (j3 z P w K i c N qual scope f h A a s H E) [] (start N vs) H O:=aiS S B.hd m U r x;show-gB (Z [] O (start N vs) H _ I X) (λez F l=>?_) λe F l=>l;let p:∀{L:St}{H':af}{v:V}{u:a5},Inv (j3 z P w K i c N qual scope f h A a s H E) [] L H' F->RelV v u->Q v H'->O8 a P w H s Q u F:=
  λ{L H' v u}J C q=>#[v,H',J.os,J.bare,J.base,J.bC,C,q]
 cases ez with
 |ret u=>
  let#[v,L,H',J,C,q]:=l;show-p J C q
 |next=>
  let#[L,H',J,q]:=l;exact p (v:=V.cw) (u:=iA) J rfl q
 |brk=>
  let#[6,_,q]:=l;show-i6 q
 |cont=>
  let#[6,_,q]:=l;show-i6 q
section
variable{X:bA}{x:Str}{p pos:Pos}{e:Expr}{es:hO}{t:fR}{id T:String}{r:List V->af->aO->Prop}
def pq(r:List V->af->aO->Prop)(t:fR):TE:=λU H Q=>t U H λvs a=>r vs a Q
def d4(g:kB X (.builtin id) r)(hm:X.mg x=jp)(f:i9 x=ja (.builtin id))(c:fI X (e::es) t)(n:jR X x:=by rfl)(o:x≠"__name__":=by decide)(y:(x==("__debug__":Str))=jA:=by decide)(m:dh (e::es) X.env=(jA,eval e X.env)::dh es X.env:=by rfl)(fV:(hE pos (dh es X.env)).any (·.1)=jA:=by rfl):a' X (.Call (.Name x p) (e::es) [] pos) (pq r t):=by intro a s U H Q I h;show-DU (As I n hm f ?_ o y);show-ajp (bT (c pos a s U H _ I h) λK A w=>?_) m fV;let#[vs,b,d,l,k]:=w;show-g a A U b vs K Q d l k
def iP(g:kB X (.type T) r)(hm:X.mg x=jp)(f:i9 x=ja (.type T))(c:fI X (e::es) t)(hg:jR X x:=by rfl)(n:x≠"__name__":=by decide)(w:(x==("__debug__":Str))=jA:=by decide)(m:dh (e::es) X.env=(jA,eval e X.env)::dh es X.env:=by rfl)(fV:(hE pos (dh es X.env)).any (·.1)=jA:=by rfl):a' X (.Call (.Name x p) (e::es) [] pos) (pq r t):=by intro a s U H Q I h;show-DU (As I hg hm f ?_ n w);show-Qw (bT (c pos a s U H _ I h) λA y o=>?_) m fV;let#[vs,b,d,l,k]:=o;show-g a y U b vs A Q d l k
end
end al
namespace fe
open PySem PyProof.Rows
section
variable{prog:cx}{w:b0}{A:et}{E:cL}{s:aS}
def dS(n d:Nat):Option Int->Nat
 |none=>d
 |some v=>if v<0 then(v+(n:Int)).toNat else min v.toNat n
def aeG(n d:Nat):dS n d jp=d:=(rfl)
def NC(n d k:Nat):dS n d (ja (k:Int))=min k n:=by show(if(k:Int)<0 then((k:Int)+(n:Int)).toNat else min (k:Int).toNat n)=min k n;rw[bL jQ,ug]
def Xx(n d:Nat)(b:d<=n)(o:Option Int):dS n d o<=n:=by
 cases o with
 |none=>show-b
 |some v=>
  show(if v<0 then(v+(n:Int)).toNat else min v.toNat n)<=n;by_cases a:v<0
  .rw[b2 a];lia
  rw[bL a];show-E7 _ _
def abJ(a n:Nat):((min a n:Nat):Int)=min (a:Int) (n:Int):=by
 rcases Nat.le_total a n with h|h
 .rw[aiJ h,agR (agV.mpr h)]
 rw[aiK h,Int.min_eq_right (agV.mpr h)]
def Ê(v:Int)(n d:Nat):(if v<0 then max (v+(n:Int)) 0 else min v (n:Int))=((dS n d (ja v):Nat):Int):=by
 show _=(((if v<0 then(v+(n:Int)).toNat else min v.toNat n):Nat):Int);by_cases h:v<0
 .rw[b2 h,b2 h,agX]
 rw[bL h,bL h,abJ,rB (agT.mp h)]
def ahc(lo a:Option Int)(n:Nat):ZE lo a 1 (n:Int)=(((dS n 0 lo:Nat):Int),((dS n n a:Nat):Int)):=by
 let b:¬((1:Int)<0):=by lia
 unfold ZE;simp only[b,if_false];show-BA ?_ ?_
 .cases lo with
  |none=>rfl
  |some v=>show-Ê v n 0
 cases a with
 |none=>rfl
 |some v=>show-Ê v n n
def ahd(i j:Nat):O4 (i:Int) (j:Int) 1=j-i:=by
 unfold O4;rw[b2 qc];by_cases h:i<j
 .rw[b2 (agW.mpr h),Int.ediv_one,Int.sub_add_cancel,<-Int.ofNat_sub (mZ h)];rfl
 rw[bL (λz=>h (agW.mp z)),Nat.sub_eq_zero_of_le (Nat.not_lt.mp h)];rfl
def afK{o:Option Int}{Q:Option Int->aS->Prop}(p:yj v o)(h:Q o s):aQ (bj prog w) A (aAS v) Q E s:=by
 cases p with
 |none=>show-azp h
 |int i t=>show-slicePart_int h
def aAk{lo a:Option Int}{n:Nat}{Q:Int×Int×Nat->aS->Prop}(d:s.heap.IsSliceOf bz e i .none)(pl:yj e lo)(f:yj i a)(h:Q (((dS n 0 lo:Nat):Int),1,dS n n a-dS n 0 lo) s):aQ (bj prog w) A (af9 (.ref bz) (pure (n:Int))) Q E s:=by let#[os,c,g,b]:=id d;unfold af9 aAR;show-az (az (kt c b (x:=e) rfl (az (kt c b (x:=i) rfl (az (kt c b (x:=.none) rfl (bu ?_)))))));show-az (azp ?_);show aQ _ _ (if((1:Int)==0)=jx then _ else _) _ _ s;rw[bL qc];show-az (afK pl (az (afK f (az (bu ?_)))));show aQ _ _ (match ZE lo a 1 (n:Int)with|(lo,a)=>pure (lo,(1:Int),O4 lo a 1)) _ _ s;rw[ahc lo a n];show aQ _ _ (pure (((dS n 0 lo:Nat):Int),(1:Int),O4 ((dS n 0 lo:Nat):Int) ((dS n n a:Nat):Int) 1)) _ _ s;rw[ahd];show-bu h
def akE(a:mm)(i k:Nat):((fk k).filterMap λ(m:Nat)=>a[((i:Int)+(m:Int)*1).toNat]?).toArray=((a.toList.drop i).take k).toArray:=by
 let e:(λ(m:Nat)=>a[((i:Int)+(m:Int)*1).toNat]?)=λm=>a[i+m]?:=by
  funext m;have:((i:Int)+(m:Int)*1).toNat=i+m:=by lia
  rw[this]
 rw[e];have:=pick_run a i k;rw[List.filterMap_map]at this;let b:((λx=>a[x]?)∘λx=>i+x)=λm=>a[i+m]?:=rfl;rw[b]at this;rw[this]
def avG{t:Addr}{a:mm}{lo b:Option Int}{Q:cL}(d:rC s.heap t a)(g:s.heap.IsSliceOf bz e i .none)(pl:yj e lo)(o:yj i b)(l:¬(dS a.size 0 lo=0/\dS a.size a.size b=a.size))(h:Q (.ref s.L) {s with heap:=s.heap.push {cls:=.type "tuple",data:=.seq ((a.toList.drop (dS a.size 0 lo)).take (dS a.size a.size b-dS a.size 0 lo)).toArray}})(hsz:a.size<=sizeLine):aQ (bj prog w) A (zi (.ref t) (.ref bz)) Q E s:=by
 let c:sizeOk (.seq ((a.toList.drop (dS a.size 0 lo)).take (dS a.size a.size b-dS a.size 0 lo)).toArray):=by show((a.toList.drop (dS a.size 0 lo)).take (dS a.size a.size b-dS a.size 0 lo)).toArray.size<=sizeLine;rw[hY,yA,yz,OS];show-eh (E7 _ _) (eh (aiM _ _) hsz)
 let y:dS a.size a.size b<=a.size:=Xx _ _ (cy _) b;let#[os,p,k,r]:=id g;let f:s.TypeIs (.ref bz) "slice":=#[os,p,k]
 unfold zi
 try with_reducible show-mR ?_
 first|refine az (bu ?_)|skip
 show-az (wpAny_sequenceKey d.typeIs qc ?_);show-az (xY (name:=dH "__getitem__") d.typeIs ğ
  (nI ğ d.typeIs entry_tuple_getitem ?_ (args_tuple_getitem _ _)))
 show aQ _ _ (aAT (.ref t) >>=_) _ _ s;show-az (tupleItemsOf_ d ?_);show-az (wpAny_typeOf f ?_);rw[b2 qc];show-az (aAk g pl o ?_);let n:¬((((dS a.size 0 lo:Nat):Int)==0&&(1:Int)==1&&(dS a.size a.size b-dS a.size 0 lo)==a.size)=jx):=by intro q;rw[cJ,cJ]at q;let K:((dS a.size 0 lo:Nat):Int)=0:=eq_of_beq q.1.1;let L:dS a.size a.size b-dS a.size 0 lo=a.size:=eq_of_beq q.2;show-l #[9,9]
 show aQ _ _ (if(((dS a.size 0 lo:Nat):Int)==0&&(1:Int)==1&&(dS a.size a.size b-dS a.size 0 lo)==a.size)=jx then _ else _) _ _ s;rw[bL n,akE]
 first
  |show-az (m:=O6 _) (pC (bu ⟨_,rfl,bu h⟩) c)
  |show-az (m:=O6 _) (pC (az (bu (bu ⟨_,rfl,bu h⟩))) c)
  |show-az (az (m:=O6 _) (pC (bu (bu ⟨_,rfl,bu h⟩)) c))
  |show-az (az (m:=O6 _) (pC (bu ⟨_,rfl,bu h⟩) c))
end
end fe
namespace al
open PySem PySem.Spec PyProof.Rows
abbrev gi:=St->af->(Option Int->af->Prop)->Prop
def Kr(X:bA)(e:Option Expr)(t:gi):Prop:=
 ∀(a:dU)(s:aS)(U:St)(H:af)(Q:Option Int->af->Prop),Inv X a U H s->t U H Q->
  aQ (bj X.prog X.w) X.A (evalPart e X.env) (λu b=>∃o H',Inv X a U H' b/\yj u o/\Q o H') X.dN s
def amd:gi:=λ_ H Q=>Q jp H
def apY(t:TE):gi:=λU H Q=>t U H λx a=>∃i,x=.int i/\Q (ja i) a
section
variable{X:bA}{e:Expr}{bR:TE}{lo hi:Option Expr}{eC kr:gi}{pos fz:Pos}
def Ab:Kr X jp amd:=by intro a s U H Q I h;rw[evalPart_none];show-bu #[jp,H,I,.none,h]
def Ac(h:a' X e bR):Kr X (ja e) (apY bR):=by intro a s U H Q I g;rw[evalPart_some];show-bT (h a s U H _ I g) λu l k=>?_;let#[x,b,c,f,d]:=k;let#[i,2,q]:=d;let#[t,2]:=f;show#[ja i,b,c,.int i t,q]
def Kw(X:bA)(r:V->Option Int->Option Int->af->aO->Prop):Prop:=
 ∀(a:dU)(s:aS)(U:St)(H:af)(x:V)(v c d:a5)(lo hi:Option Int)(b:Addr)(Q:aO),Inv X a U H s->RelV x v->s.heap.IsSliceOf b c d .none->yj c lo->yj d hi->r x lo hi H Q->
  ∃T id,typeLookup (.type T) "__getitem__"=pure (ja (.builtin id))/\s.TypeIs v T/\aQ (bj X.prog X.w) X.A (zi v (.ref b)) (jh X a U Q) X.dN s
def azH(r:V->Option Int->Option Int->af->aO->Prop)(bR:TE)(eC kr:gi):TE:=λU H Q=>bR U H λx a=>eC U a λl c=>kr U c λu b=>r x l u b Q
def z2{r:V->Option Int->Option Int->af->aO->Prop}(p:Kw X r)(j:a' X e bR)(t:Kr X lo eC)(N:Kr X hi kr):a' X (.Subscript e (.Slice lo hi jp fz) pos) (azH r bR eC kr):=by intro a s U H Q I h;show-Œ (bT (j a s U H _ I h) λv F d=>?_);let#[x,m,n,A,y]:=d;show-wpAny_Slice (bT (t a F U m _ n y) λf G d=>?_);let#[l,o,w,pl,i]:=d;show-bT (N a G U o _ w i) λg c d=>?_;let#[u,k,K,E,B]:=d;rw[evalPart_none];show-bu ?_;let D:Inv X a U k {c with heap:=c.heap.push {cls:=.type "slice",data:=.fields (List.toArray [f,g,.none])}}:=K.kept (t':=c.toks) λb J q=>d8 _ q;let#[T,id,C,L,z]:=p a {c with heap:=c.heap.push {cls:=.type "slice",data:=.fields (List.toArray [f,g,.none])}} U k x v f g l u c.heap.objs.size Q D A (Heap.IsSliceOf.new ..) pl E B;show aQ (bj X.prog X.w) X.A (aeZ e (.Slice lo hi jp fz) v (.ref c.L)) (jh X a U Q) X.dN {c with heap:=c.heap.push {cls:=.type "slice",data:=.fields (List.toArray [f,g,.none])}};show-tail_any (ops:=[.ref c.L,v]) L C z (by with_unfolding_all rfl)
def rh(a:aL)(lo hi:Option Int):List V:=(a.drop (fe.dS a.length 0 lo)).take (fe.dS a.length a.length hi-fe.dS a.length 0 lo)
def afC(a:aL)(lo hi:Option Int):(rh a lo hi).Z<=a.Z:=by unfold rh;rw[yA,yz];show-eh (E7 _ _) (aiM _ _)
inductive asF(K:aI)(x:V)(lo:(Option Int))(hi:(Option Int))(H:af)(Q:aO):Prop where
 |mk(a:_)(xs:_)(_:x=.ref a)(_:cH K H a xs)(_:¬(fe.dS xs.length 0 lo=0/\fe.dS xs.length xs.length hi=xs.Z))(_:∀p,H p=jp->Q (.ref p) (upd H p (.tup (rh xs lo hi))))
def Ň:Kw X (asF X.K):=by
 intro l s U H x v A K lo hi y Q I n p pl w h;let#[a,d,2,m,t,q]:=h;cases n;let#[f,r,g,k]:=I.tuple m;let c:f.toArray.size=d.Z:=by rw[hY];show-r.length.J
 show#["tuple",_,ğ.lookup,g.typeIs,4];show-fe.avG g p pl w (by rwa[c]) ?_ (by rwa[c]);rw[c];show#[.ref s.L,_,I.laid (t':=s.toks) (o:=.tup (rh d lo hi)) (λb L q=>d8 _ q) (cy _) ?_,2,q _ (I.bC.fresh (cy _))];show#[eh (afC d lo hi) k,_,(r.drop (fe.dS d.length 0 lo)).take (fe.dS d.length d.length hi-fe.dS d.length 0 lo),IsTup.new _ _]
def tB(n:Nat)(i:Int):Option Nat:=if 0<=i then(if i<n then ja i.X else jp)else if -(n:Int)<=i then ja (i+n).toNat else jp
def hZ{b:Type}(a:List b)(i:Int):Option b:=(tB a.length i).bind λj=>a[j]?
end
def ame{n:Nat}{i:Int}{j:Nat}(h:tB n i=ja j):seqIndex? i n=ja j/\j<n/\-(n:Int)<=i/\i<n:=by
 unfold tB at h;by_cases b:0<=i
 .rw[b2 b]at h;by_cases a:i<n
  .rw[b2 a]at h;let e:i.X=j:=gN h;show#[by rw[seqIndex_of b a,e],9,9,a]
  rw[bL a]at h;cases h
 rw[bL b]at h;by_cases a:-(n:Int)<=i
 .rw[b2 a]at h;let e:(i+n).toNat=j:=gN h;show#[by rw[seqIndex_neg jQ a,e],9,a,9]
 rw[bL a]at h;cases h
def Pe{b:Type}{a:List b}{i:Int}{v:b}(h:hZ a i=ja v):∃j,seqIndex? i a.Z=ja j/\a[j]?=ja v/\j<a.Z/\-(a.Z:Int)<=i/\i<a.Z:=by
 unfold hZ at h;cases e:tB a.length i with
 |none=>rw[e]at h;cases h
 |some j=>
  rw[e]at h;let#[d,f,c,g]:=ame e;show#[j,d,h,f,c,g]
def jV{b:Type}{a:List b}{j:Nat}{v:b}(h:a[j]?=ja v):hZ a (j:Int)=ja v:=by
 let c:j<a.Z:=(gM.mp h).1;let e:tB a.length (j:Int)=ja j:=by unfold tB;rw[b2 jQ,b2 jQ];simp
 unfold hZ;rwa[e]
def δ{b:Type}(a:List b)(v:b):hZ (a++[v]) (-1)=ja v:=by
 let c:(a++[v]).Z=a.Z+1:=by simp
 let e:tB (a++[v]).length (-1)=ja a.Z:=by
  unfold tB;rw[c,bL qc,b2 jQ];congr 1
  lia
 unfold hZ;rw[e];show(a++[v])[a.Z]?=ja v;simp
def amf(b:Expr):Prop:=∀o i,XX b jA o i=operate [o,i] (zi o i)
def Ba(X:bA)(r:m5):Prop:=
 ∀(c a:Expr)(b:dU)(s:aS)(U:St)(H:af)(x y:V)(v u:a5)(Q:aO),Inv X b U H s->RelV x v->RelV y u->r x y H Q->
  XX a jA v u=operate [v,u] (zi v u)->aQ (bj X.prog X.w) X.A (aeZ c a v u) (jh X b U Q) X.dN s
def Bt(X:bA)(id:String)(r:V->List V->af->aO->Prop):Prop:=
 ∀(a:dU)(s:aS)(U:St)(H:af)(x:V)(c:aL)(v:a5)(b:en)(Q:aO),Inv X a U H s->RelV x v->dM c b->r x c H Q->
  aQ (bj X.prog X.w) X.A (call (.builtin id) (v::b)) (jh X a U Q) X.dN s
section
variable{X:bA}{a b:Expr}{cu bH:TE}{pos:Pos}
def ck{r:m5}(k:Ba X r)(d:a' X a cu)(f:a' X b bH)(o:amf b:=by intro _ _;rfl):a' X (.Subscript a b pos) (pv r cu bH):=by intro c s U H Q I h;show-Œ (Rt d f I h λv u p x y g m l n q=>k a b c p U g x y v u Q m l n q (o _ _))
inductive aaO(K:aI)(x:al.V)(y:al.V)(H:af)(Q:aO):Prop where
 |mk(p:_)(xs:_)(i:_)(v:_)(_:x=.ref p)(_:y=.int i)(_:aM K H p xs)(_:hZ xs i=ja v)(_:Q v H)
inductive aaP(K:aI)(x:al.V)(y:al.V)(H:af)(Q:aO):Prop where
 |mk(p:_)(xs:_)(i:_)(v:_)(_:x=.ref p)(_:y=.int i)(_:cH K H p xs)(_:hZ xs i=ja v)(_:Q v H)
inductive asG(x:al.V)(y:al.V)(H:af)(Q:aO):Prop where
 |mk(z:_)(i:_)(c:_)(_:x=.str z)(_:y=.int i)(_:z.Z<=sizeLine)(_:hZ z.cps.toList i=ja c)(_:Q (.str ⟨#[c]⟩) H)
def e4:Ba X (aaO X.K):=by
 intro m l c s U H x y v u Q I N e h o;let#[p,O,i,z,2,2,V,D,q]:=h;cases N;let#[t,2]:=e;let#[k,r,pl,M]:=I.list V;let#[j,f,K,G,B,C]:=Pe D;let#[w,A,E]:=r.get K;let L:=r.Z;let J:=D3;let d:jh X c U Q w s:=#[z,H,I,E,q]
 by_cases n:0<=i
 .let g:i.X=j:=by rw[seqIndex_of n C]at f;show-gN f
  show-item_listR pl.isList n jQ (by rw[g];simpa using A) d o
 let g:(i+(k.toArray.size:Int)).toNat=j:=by rw[seqIndex_neg jQ B]at f;rw[hY,<-L];show-gN f
 exact azx (x:=w) pl.isList.typeIs azr.lookup
  (wpAny_getItem_list_neg (Q:=λr F=>r=w/\jh X c U Q r F) pl.isList jQ (by rw[hY]<;>lia) jQ (by rw[g];simpa using A) #[2,d]) o
def eN:Ba X (aaP X.K):=by
 intro g f c s U H x y v u Q I n A h L;let#[p,J,i,z,2,2,o,K,q]:=h;cases n;let#[t,2]:=A;let#[N,r,pl,G]:=I.tuple o;let#[j,k,l,C,D,E]:=Pe K;let#[w,B,V]:=r.get l;let m:=r.Z;let F:=D3;let d:jh X c U Q w s:=#[z,H,I,V,q]
 exact azx (x:=w) pl.typeIs slot_tuple_getitem.lookup
  (getItem_tuple (j:=j) (Q:=λr e=>r=w/\jh X c U Q r e) pl jQ jQ (by rwa[hY,<-m]) (by simpa using B) #[2,d]) L
def ň:Ba X asG:=by
 intro f d k s U H x y v u Q I p r h L;let#[z,i,c,2,2,e,K,q]:=h;let#[t,2]:=p;let#[B,2]:=r;let#[j,g,n,N,w,A]:=Pe K;let o:z.cps.toList.Z=z.Z:=by simp[ő]
 rw[o]at g w A;let V:=D3;show-tail_any (Ie s z t) slot_str_getitem.lookup (getItem_str (c:=c) (by
  let l:decide (i < -(2 ^ 63:Int))=jA:=dJ jQ;let m:decide (i≥2 ^ 63)=jA:=dJ jQ;rw[l,m,Bool.or_false]) (by rw[g];simpa using n) #[.str ⟨#[c]⟩,H,I.tok _,#[1],q]) L
def Sp(i:Int)(n d:Nat):max 0 (min (if i<0 then i+(n:Int)else i) (n:Int))=((fe.dS n d (ja i):Nat):Int):=by
 show _=(((if i<0 then(i+(n:Int)).toNat else min i.toNat n):Nat):Int);by_cases h:i<0
 .rw[b2 h,b2 h,agR (Ξ (Int.add_le_add_right (Ν h) _) (Int.le_of_eq (yh _))),agX,Int.max_comm]
 let c:0<=i:=agT.mp h;rw[bL h,bL h,fe.abJ,rB c,Int.max_eq_right (Int.le_min.mpr #[c,Int.natCast_nonneg _])]
def ago(lo c:Option Int)(n:Nat):(aeP lo c jp n).1=((fe.dS n 0 lo:Nat):Int)/\(aeP lo c jp n).2.1=((fe.dS n n c:Nat):Int)/\(aeP lo c jp n).2.2=1:=by
 show#[4,4,2]
 .cases lo with
  |none=>rfl
  |some i=>show-Sp i n 0
 cases c with
 |none=>rfl
 |some i=>show-Sp i n n
def afS(c:en)(lo d:Option Int):slicePick c.toArray lo d jp=((c.drop (fe.dS c.length 0 lo)).take (fe.dS c.length c.length d-fe.dS c.length 0 lo)).toArray:=by let#[g,k,f]:=ago lo d c.toArray.size;unfold slicePick;rw[g,k,f];simp only[azq,pick_run,hY]<;>rfl
inductive asH(K:aI)(x:V)(lo:(Option Int))(hi:(Option Int))(H:af)(Q:aO):Prop where
 |mk(a:_)(xs:_)(_:x=.ref a)(_:aM K H a xs)(_:∀p,H p=jp->Q (.ref p) (upd H p (.lst (rh xs lo hi))))
def Pf:Kw X (asH X.K):=by intro k s U H x v A K lo f y Q I m n pl w h;let#[a,c,2,l,q]:=h;cases m;let#[t,r,g,p]:=I.list l;let d:=r.Z;show#["list",_,azr.lookup,g.isList.typeIs,4];show-wpAny_getItem_list_slice g.isList n pl w .none qv ?_ (by rw[hY]<;>lia);rw[afS,<-d];show#[.ref s.L,_,I.laid (t':=s.toks) (o:=.lst (rh c lo f)) (λb L q=>d8 _ q) (cy _) ?_,2,q _ (I.bC.fresh (cy _))];show#[eh (afC c lo f) p,_,0,(r.drop (fe.dS c.length 0 lo)).take (fe.dS c.length c.length f-fe.dS c.length 0 lo),g4 _ rfl]
def ul:V->Bool
 |.cw=>jx
 |.aX _=>jx
 |.int _=>jx
 |.str _=>jx
 |_=>jA
def wR:V->V->Bool
 |.cw,.cw=>jx
 |.aX a,.aX b=>a==b
 |.aX a,.int b=>(if a then 1 else 0)==b
 |.int a,.aX b=>a==(if b then 1 else 0)
 |.int a,.int b=>a==b
 |.str a,.str b=>a==b
 |_,_=>jA
def aos(f:RelV y u)(c:RelV x v)(k:ul y=jx)(g:ul x=jx):akP A s u v (wR y x):=by
 cases y with
 |cw=>
  cases f;cases x with
  |cw=>cases c;show-SeqAt.EqAt.same _
  |aX b=>cases c;show-SeqAt.EqAt.none_bool b
  |int b=>let#[t,2]:=c;show-SeqAt.EqAt.none_int b t
  |str b=>let#[t,2]:=c;show-SeqAt.EqAt.none_str b t
  |_=>show-bk (show jA=jx from g) hB
 |aX a=>
  cases f;cases x with
  |cw=>cases c;show-SeqAt.EqAt.bool_none a
  |aX b=>cases c;show-SeqAt.EqAt.bool_bool a b
  |int b=>let#[t,2]:=c;show-SeqAt.EqAt.bool_int a b t
  |str b=>let#[t,2]:=c;show-SeqAt.EqAt.bool_str a b t
  |_=>show-bk (show jA=jx from g) hB
 |int a=>
  let#[d,2]:=f;cases x with
  |cw=>cases c;show-SeqAt.EqAt.int_none a d
  |aX b=>cases c;show-SeqAt.EqAt.int_bool a d b
  |int b=>let#[t,2]:=c;show-SeqAt.EqAt.int_int a d b t
  |str b=>let#[t,2]:=c;show-akQ a d b t
  |_=>show-bk (show jA=jx from g) hB
 |str a=>
  let#[d,2]:=f;cases x with
  |cw=>cases c;show-SeqAt.EqAt.str_none a d
  |aX b=>cases c;show-SeqAt.EqAt.str_bool a d b
  |int b=>let#[t,2]:=c;show-akR a d b t
  |str b=>let#[t,2]:=c;show-SeqAt.EqAt.str_str a d b t
  |_=>show-bk (show jA=jx from g) hB
 |_=>show-bk (show jA=jx from k) hB
def n'(x:V)(u:a5):Bool:=match u with
 |.none=>wR .cw x
 |.bool b=>wR (.aX b) x
 |.int i _=>wR (.int i) x
 |.str z _=>wR (.str z) x
 |_=>jA
def Ŋ(r:RelV y u)(f:ul y=jx):n' x u=wR y x:=by
 cases y with
 |cw=>cases r;rfl
 |aX b=>cases r;rfl
 |int i=>let#[t,2]:=r;rfl
 |str z=>let#[t,2]:=r;rfl
 |_=>show-bk (show jA=jx from f) hB
def Oz{c:aL}{d:en}(h:dM c d)(f:c.all ul=jx):d.any (n' x)=c.any λy=>wR y x:=by
 induction h with
 |nil=>rfl
 |cons r _ e=>
  rw[JN,cJ]at f;rw[JO,JO,Ŋ r f.1,e f.2]
theorem Im(k:RelV x v)(l:ul x=jx):∀{g:aL}{d:en},dM g d->g.all ul=jx->∀u∈d,akP A s u v (n' x u)
 |_,_,.nil,_=>λu c=>by cases c
 |y::g,u::d,.cons r t,f=>λm c=>by
  rw[JN,cJ]at f;rcases dQ.mp c with rfl|c
  .rw[Ŋ r f.1];show-aos r k f.1 l
  show-Im k l t f.2 m c
def pY(x:V)(c:aL):Bool:=c.any λy=>wR y x
inductive aev(K:aI)(neg:Bool)(x:al.V)(y:al.V)(H:af)(Q:aO):Prop where
 |mk(p:_)(xs:_)(_:y=.ref p)(_:(aM K H p xs\/cH K H p xs))(_:ul x=jx)(_:xs.all ul=jx)(_:Q (.aX (if neg then !pY x xs else pY x xs)) H)
def ZK:hD X (jU .In) (aev X.K jA):=by
 intro m s U H x y v u Q I k n h;let#[p,t,2,d,l,f,q]:=h;cases n;rcases d with d|d
 .let#[c,r,pl,o]:=I.list d;show-SeqAt.in_listAt (n' x) pl.isList (λw g=>Im k l r f w (by simpa using g)) #[.aX _,H,I,2,4];rwa[show c.toArray.any (n' x)=c.any (n' x) by simp,Oz r f]
 let#[c,r,pl,o]:=I.tuple d;show-SeqAt.in_tupleAt (n' x) pl (λw g=>Im k l r f w (by simpa using g)) #[.aX _,H,I,2,4];rwa[show c.toArray.any (n' x)=c.any (n' x) by simp,Oz r f]
def aff:hD X (jU .NotIn) (aev X.K jx):=by
 intro m s U H x y v u Q I k n h;let#[p,t,2,d,l,f,q]:=h;cases n;rcases d with d|d
 .let#[c,r,pl,o]:=I.list d;show-SeqAt.notIn_listAt (n' x) pl.isList (λw g=>Im k l r f w (by simpa using g)) #[.aX _,H,I,2,4];rwa[show c.toArray.any (n' x)=c.any (n' x) by simp,Oz r f]
 let#[c,r,pl,o]:=I.tuple d;show-SeqAt.notIn_tupleAt (n' x) pl (λw g=>Im k l r f w (by simpa using g)) #[.aX _,H,I,2,4];rwa[show c.toArray.any (n' x)=c.any (n' x) by simp,Oz r f]
inductive asI(K:aI)(xs:aL)(H:af)(Q:aO):Prop where
 |mk(p:_)(ys:_)(_:xs=[.ref p])(_:(aM K H p ys\/cH K H p ys))(_:Q (.int ys.Z) H)
def jC:kB X (.builtin "len") (asI X.K):=by
 intro k s U H w t Q I r h;let#[p,l,2,d,q]:=h;let#[u,2,m]:=vals1 r;cases m;let o:=D3;rcases d with d|d
 .let#[g,f,pl,n]:=I.list d;let c:=f.Z;show-Calls.call_len_list pl.isList (by simp only[hY]<;>lia) #[.int l.Z,H,I.tok _,#[s.toks+1,by rw[hY,c]],q]
 let#[g,f,pl,n]:=I.tuple d;let c:=f.Z;show-len_tuple pl (by simp only[hY]<;>lia) #[.int l.Z,H,I.tok _,#[s.toks+1,by rw[hY,c]],q]
def Xy:kB X (.builtin "len") (λd H Q=>∃z,d=[.str z]/\z.Z<=sizeLine/\Q (.int z.Z) H):=by intro c s U H d k Q I r h;let#[z,2,g,q]:=h;let#[u,2,t,2]:=vals1 r;let f:=D3;show-len_str jQ #[.int z.Z,H,I.tok _,#[1],q]
def zv:kB X (.type "list") (λi H Q=>∃p k,i=[.ref p]/\(aM X.K H p k\/cH X.K H p k)/\∀l,H l=jp->Q (.ref l) (upd H l (.lst k))):=by
 intro K s U H i x Q I r h;let#[p,k,2,m,q]:=h;let#[u,2,j]:=vals1 r;cases j;let w:∀(c:en),dM k c->k.Z<=sizeLine->∀(d:Heap)(g:Nat),(∀b V,s.heap.get? b=ja V->d.get? b=ja V)->
   d.get? s.L=ja {cls:=.type "list",dict:=jp,data:=.seq c.toArray g,slots:=#[]}->jh X K U Q (.ref s.L) {s with heap:=d}:=λc f A d g t e=>
  #[.ref s.L,_,I.laid (t':=s.toks) t (cy _) (show fh X.prog X.w _ d _ (.lst k)from#[A,c,g,f,e]),2,q _ (I.bC.fresh (cy _))]
 rcases m with m|m
 .let#[c,f,pl,A]:=I.list m;let y:=f.Z;let#[o,aY,L,n,N]:=pl.isList;show-call_list_seq p (.inl rfl) aY L N (λd g t e=>w c f A d g t e) (by simp only[hY]<;>lia)
 let#[c,f,pl,A]:=I.tuple m;let y:=f.Z;let#[o,aY,L,n,N]:=pl;show-call_list_seq p (.inr rfl) aY L N (λd g t e=>w c f A d g t e) (by simp only[hY]<;>lia)
def W9:kB X (.type "tuple") (λy H Q=>∃p f,y=[.ref p]/\((aM X.K H p f/\∀l,H l=jp->Q (.ref l) (upd H l (.tup f)))\/(cH X.K H p f/\Q (.ref p) H))):=by
 intro c s U H y N Q I r h;let#[p,f,2,h]:=h;let#[u,2,A]:=vals1 r;cases A;rcases h with⟨k,q⟩|⟨k,q⟩
 .let#[d,m,pl,w]:=I.list k;let t:=m.Z;show-call_tuple_list pl.isList (λg L=>?_) (by simp only[hY]<;>lia);let n:Inv X c U H {s with heap:=g}:=I.kept (t':=s.toks) L;let K:Inv X c U (upd H g.objs.size (.tup f)) {s with heap:=g.push {cls:=.type "tuple",data:=.seq d.toArray}}:=
   n.laid (t':=s.toks) (λb o e=>d8 _ e) (cy _) (show fh X.prog X.w _ _ _ (.tup f)from#[w,d,m,IsTup.new _ _])
  show#[.ref g.Y,_,K,2,q _ (n.bC.fresh (cy _))]
 let#[d,m,pl,w]:=I.tuple k;show-call_tuple_same pl #[.ref p,H,I,2,q]
def ae9(K:aI)(T:String)(x:V)(H:af):Prop:=match x with
 |.str _=>T="str"
 |.int _=>T="int"
 |.ref p=>(T="list"/\∃d,aM K H p d)\/(T="tuple"/\∃o,K.lookup p=ja o/\o.cls=.type "tuple"/\o.dict=jp)\/
   (T="dict"/\((∃c,H p=ja (.cO c))\/∃c,H p=ja (.dA c)))\/(T="set"/\∃S n,H p=ja (.set S n))
 |_=>False
def anT{s:aS}(I:Inv X pins U H s)(r:RelV x v)(ty:ae9 X.K T x H):
  s.TypeIs v T/\∀a,v=.ref a->∃m,s.heap.get? a=ja m/\m.dict=jp:=by
 cases x with
 |str z=>
  let#[t,2]:=r;cases(show T="str" from ty);show#[Ie s z t,λ_ e=>nomatch e]
 |int i=>
  let#[t,2]:=r;cases(show T="int" from ty);show#[typeIs_int s i t,λ_ e=>nomatch e]
 |ref p=>
  cases r;rcases ty with⟨rfl,A,w⟩|⟨rfl,o,d,h,k⟩|⟨rfl,d⟩|⟨rfl,S,n,d⟩
  .let#[y,_,pl,_]:=I.list w;show#[pl.isList.typeIs,λa e=>?_];cases e;let#[o,n,e,c,k,_]:=pl;show#[o,e,k]
  .show#[#[o,I.e1 p o d,h],λa e=>?_];cases e;show#[o,I.e1 _ o d,k]
  .let z:∃o,s.heap.get? p=ja o/\o.ExactDict:=by
    rcases d with⟨l,d⟩|⟨l,d⟩
    .let#[6,6,o,6,e,f,_]:=I.bC p _ d;show#[o,e,f]
    let#[6,6,o,6,e,f,_]:=I.bC p _ d;show#[o,e,f]
   let#[o,e,f]:=z;show#[#[o,e,f.1],λa g=>?_];cases g;show#[o,e,f.2.1]
  let#[o,6,_,e,f,_]:=I.bC p _ d;show#[#[o,e,f.1],λa g=>?_];cases g;show#[o,e,f.2.1]
 |_=>show-i6 ty
def azB(K:aI)(T:String)(r:V->List V->af->aO->Prop)(f:TE)(t:fR):TE:=λU H Q=>f U H λx c=>ae9 K T x c/\t U c λg d=>r x g d Q
variable{o e:Expr}{es:hO}{to:TE}{t:fR}{name:Str}{fS gu:Pos}{T id:String}{r:V->List V->af->aO->Prop}
def kV(fp:PlainAttrs T)(d:Slot T name id)(E:typeOf (.builtin id)=pure (.type "method_descriptor"))(hm:Bt X id r)(aY:a' X o to)(A:fI X (e::es) t)(w:BW o name X.env (eval o X.env)=eval o X.env:=by rfl)(g:((hE gu (dh (e::es) X.env)).all (λx=>!x.1)&&(n3 gu (ot [] X.env)).all (λx=>x.1.isSome)
   && decide ((e::es).Z+([]:List yw).Z+(if([]:List yw).isEmpty then 0 else 1)<30))=jx:=by rfl)(y:(fS.endLine==gu.line)=jx:=by rfl)(z:dh (e::es) X.env=(jA,eval e X.env)::dh es X.env:=by rfl)(f:(hE gu (dh es X.env)).any (·.1)=jA:=by rfl):
  a' X (.Call (.Attribute o name fS) (e::es) [] gu) (azB X.K T r to t):=by intro c s U H Q I h;refine wpAny_Call_method_late w g y rfl (bT (aY c s U H _ I h) λv B k=>?_);let#[x,p,l,m,ty,j]:=k;let#[L,N]:=anT l m ty;show#[T,id,fp,d,E,L,N,4];let n:=A gu c B U p _ l j;rw[z]at n⊢;show-Jh (by show(jA||(hE gu (dh es X.env)).any (·.1))=jA;rw[f]<;>rfl) (Ji ?_);show-bT n λD C k=>?_;let#[vs,K,i,u,q]:=k;show-hm c C U K x vs v D Q i m u q
end
def ð(X:bA)(id:String)(r:V->List V->af->aO->Prop):Prop:=
 ∀(a:dU)(s:aS)(U:St)(H:af)(x:V)(c:aL)(v:a5)(b:en)(Q:aO),Inv X a U H s->RelV x v->dM c b->r x c H Q->
  aQ (bj X.prog X.w) X.A (call (.builtin id) (v::b)) (jh X a U Q) X.dN s
def dM.one(h:dM [x] us):∃u,us=[u]/\RelV x u:=by
 cases h with
 |cons r t=>
  cases t;show#[1,r]
section
variable{X:bA}{pins:dU}{U:St}{H:af}{s:aS}{l b:Addr}{xs ys zs:aL}
def Inv.adI{a its':en}{n:Nat}{f:Array a5->Array a5}{p:Nat}(I:Inv X pins U H s)(o:H l=ja (.lst xs))(e:s.heap.get? l=ja {cls:=.type "list",data:=.seq a.toArray n})(g:f a.toArray=its'.toArray)(c:dM ys its')(m:ys.Z<=sizeLine):
  Inv X pins U (upd H l (.lst ys)) {s with heap:=s.heap.update l (E9 f),toks:=p}:=by let q:=PySem.IsL.update e f;rw[g]at q;show-I.write (x:=l) (e:=l) (by rw[o];exact trivial) (.inl rfl) (λr u d k=>(s5 s.heap (E9 f) (dG d)).trans k) #[_,q] ?_;show#[m,its',_,c,q]
theorem Inv.VH{its:en}{t':Nat}(I:Inv X pins U H s)(a:dM ys its)(c:ys.Z<=sizeLine):
  Inv X pins U (upd H s.heap.objs.size (.lst ys)) {s with heap:=s.heap.push {cls:=.type "list",data:=.seq its.toArray},toks:=t'}:=
 I.laid (λ_ _ q=>d8 _ q) (cy _) #[c,its,0,a,g4 _ rfl]
def Inv.fresh(I:Inv X pins U H s):H s.L=jp:=(I.bC.fresh (cy _))
def Inv.G6(I:Inv X pins U H s)(c:H l=ja (.lst xs)):xs.Z<=sizeLine/\∃(a:en)(n:Nat),dM xs a/\xs.Z=a.Z/\s.heap.get? l=ja {cls:=.type "list",data:=.seq a.toArray n}:=by let#[z,a,n,r,e]:=I.bC l _ c;show#[z,a,n,r,r.Z,e]
def akF{n:Nat}(h:n<=sizeLine):ZD n=jA:=by unfold ZD;show-dJ jQ
end
section
variable{X:bA}
inductive amg(x:V)(vs:aL)(H:af)(Q:aO):Prop where
 |mk(l:_)(xs:_)(y:_)(_:x=.ref l)(_:vs=[y])(_:H l=ja (.lst xs))(_:xs.Z<sizeLine)(_:Q .cw (upd H l (.lst (xs++[y]))))
def r6:ð X "list.append" amg:=by
 intro c s U H x vs v m Q I d f h;let#[l,o,y,2,2,b,k,q]:=h;cases d;let#[u,2,e3]:=f.one;let#[z,a,n,r,g,e]:=I.G6 b;show-FO F.slot_list_append #[_,e,2] F.entry_list_append (F.args_list_append_2 _ _) (PySem.list_append l a.toArray n u (by rw[hY];lia)) #[e,4];show#[.cw,_,I.adI (its':=a++[u]) b e qv (r.append (.cons e3 .nil)) ?_,2,q];rw[dT,ah9]
 lia
inductive amh(x:V)(vs:aL)(H:af)(Q:aO):Prop where
 |mk(l:_)(b:_)(xs:_)(zs:_)(_:x=.ref l)(_:vs=[.ref b])(_:H l=ja (.lst xs))(_:H b=ja (.lst zs))(_:xs.Z+zs.Z<=sizeLine)(_:Q .cw (upd H l (.lst (xs++zs))))
def aiT:ð X "list.extend" amh:=by
 intro g s U H x vs v N Q I o p h;let#[l,b,V,i,2,2,f,k,K,q]:=h;cases o;let#[u,2,e3]:=p.one;cases e3;let#[z,a,n,r,A,e]:=I.G6 f;let#[y,c,w,t,L,m]:=I.G6 k;let hsz:a.toArray.size+c.toArray.size<=sizeLine:=by rw[hY,hY];lia
 let d:¬(!a.toArray.isEmpty&&ZD (a.toArray.size+c.toArray.size))=jx:=by rw[akF hsz,afY];show-hB
 refine FO F.slot_list_extend #[_,e,2] F.entry_list_extend (F.args_list_extend_2 _ _)
  (AutoSeq1.list_extend_list_list_0 l a.toArray n b c.toArray w d (by rw[hY];lia) jQ) #[e,m,4]
 show#[.cw,_,I.adI (its':=a++c) f e qv (r.append t) ?_,2,q];rw[dT]
 lia
inductive aaQ(x:al.V)(y:al.V)(H:af)(Q:aO):Prop where
 |mk(l:_)(b:_)(xs:_)(zs:_)(_:x=.ref l)(_:y=.ref b)(_:H l=ja (.lst xs))(_:H b=ja (.lst zs))(_:xs.Z+zs.Z<=sizeLine)(_:∀p,H p=jp->Q (.ref p) (upd H p (.lst (xs++zs))))
def oo:hD X (uF .Add) aaQ:=by
 intro c s U H x y v u Q I m o h;let#[l,b,V,i,2,2,t,f,L,q]:=h;cases m;cases o;let#[z,a,n,r,A,e]:=I.G6 t;let#[w,d,K,p,N,k]:=I.G6 f;show-PySem.P.add_list e k ?_ (by rw[hY,hY];lia);let g:a.toArray++d.toArray=(a++d).toArray:=by simp
 rw[g];show#[.ref _,_,I.VH (t':=s.toks) (r.append p) (by rw[dT];lia),2,q _ I.fresh]
end
end al
namespace Zu
open PySem PySem.W PySem.Calls PyProof.Rows
def aAq:∀(c:kd)(vs:en),WellAll P h vs (c.map WData.int)->JK vs c:=by
 intro c
 induction c with
 |nil=>
  intro vs w;rw[JW]at w;cases w;show-.nil
 |cons n c e=>
  intro vs w;rw[hL]at w;cases w with
  |cons a b=>
   cases a;show-.cons _ _ (e _ b)
def aiU{l:OpenLaw}{n:Nat}(A:l.most=ja n){h:Heap}{args:List WData}(k:l.row.toRowW.claim.pre args=jx)(p:WellAll P h vals args):
  ∃a vs b,vals=[c1 a]/\args=[WData.list (b.map WData.int)]/\h.get? a=ja {cls:=.type "list",data:=.seq vs.toArray}/\JK vs b/\b.Z<=n:=by
 let o:WShape.hasAll [] args [.list .int]=jx:=(pre_splitW k).1;let m:l.pre.holds [] {args:=args}=jx:=(pre_splitW k).2;let#[d,r,2,w,y]:=hasAllW_cons o;obtain rfl:=hasAllW_nil y;let#[L,2,t]:=hasW_list w;let#[b,2]:=items_int t;let c:b.Z<=n:=by
  unfold OpenLaw.pre at m;let f:(WTm.not (.lt (.lit (.int (n:Int))) (.len (.arg 0)))).holds [] {args:=[.list (b.map .int)]}=jx:=by let f:=(holds_andW m).1;rwa[A]at f
  let g:=condW_of f (w_not (w_lt w_lit (w_len_list (w_arg rfl))));rw[bQ]at g;show-Nat.le_of_not_lt λq=>?_;let K:(n:Int)<((b.Z:Nat):Int):=by lia
  first
   | (rw[cQ K]at g;show-bk g qc)
   | (simp at g;lia)
 cases p with
 |cons gA h_=>
  cases h_;cases gA with
  |list aY e=>show#[6,b,2,2,aY,aAq b _ e,c]
theorem aiV(l:OpenLaw)(args:List WData):l.row.toRowW.claim.post args (.bool jx) args=jx:=
 postW_of (r:=l.row.toRowW) (X:=(jx==jx))
  (show WShape.has [] (.bool jx) .bool=jx by first|rfl|decide|simp[WShape.has,WShape.arms,WShape.armsAll])
  (show(WTm.eq .res (.lit (.bool jx))).value [] {args:=args,res:=ja (.bool jx),after:=args}=ja (.bool (jx==jx))from w_eq_bool (w_res rfl) w_lit) rfl
def atZ{l:OpenLaw}{n:Nat}{N:b6->Heap->Prop}{e:b0->Heap->Prop}{d:DefRec}(J:l.most=ja n)(h:d.params.defaults=[])(call:∀(w:b0)(A b:aS)(p K:b6)(i_:Addr)(o:Obj)(L m c:a5)(a:Addr)(vs:en)(t:kd),
   Ground q loose [] N w A p K b.Q->e w b.Q->
   b.heap.get? i_=ja o->o.data=.func (docDef d.name d.params d.body d.scope L m c)->b.heap.CodeRec m d.name->p d.name=ja (.ref i_)->
   b.heap.get? a=ja {cls:=.type "list",data:=.seq vs.toArray}->JK vs t->t.Z<=n->b.gens=#[]->
   oV (bj l.prog w) B0 (.call (.ref i_) #[[.ref a],[]]) (λr y=>r=.ok (.ret (.bool jx))/\OldK b.heap y.Q/\y.os=b.os/\tY y.gens) b):
  WalkO q loose N e l.row.toRowW d [] (λf vs=>Ķ f vs):=by intro w A b p K G Y i_ o L m c s ec aY H M a8 i I args V P j z O u B;obtain rfl:s=.none:=Dflts.none a8 h;obtain rfl:ec=.none:=Dflts.noKw a8;let#[a,vs,t,2,2,x,g,k]:=aiU J j u;show-enter_call (qy (call w A b p K i_ o L m c a vs t G Y aY (fd_plain H) M i x g k I) λr y E=>?_);let#[2,D,C,F]:=E;show#[.inl #[.bool jx,.bool jx,[],2,λ_=>rfl,.bool jx,aiV l _,λ_=>#[List.Pairwise.nil,λ_ hm=>(nomatch hm)]],D,C,F]
end Zu
namespace al
open PySem PySem.Spec PyProof.Rows
def aiW{a:kd}(h:JK vs a):dM (a.map V.int) vs:=by
 induction h with
 |nil=>show-.nil
 |cons n t _ e=>show-.cons #[t,2] e
def Qp(H:af):Prop:=∀b,H b=jp\/∃o a,H b=ja (.fi o (.lst a))
def akG{K:aI}{j R:b6}{k:Nat}{c:aS}{vs:en}{B:kd}(qj:K.In c.Q)(zr:c.heap.Ns sa j)(f:c.heap.Ns abF R)(G:∀x:Str,x≠"__name__"->R x=i9 x)(M:c.heap.NoLimit)(hg:c.gens=#[])(D:c.heap.get? a=ja {cls:=.type "list",data:=.seq vs.toArray})(hi:JK vs B)(X:B.Z<=sizeLine)(ao:gU k B0)(F:∀g:Heap,K.In g->g.Ns sa j->aA P w K j g CX k i_ fd [x] sp)(I:∀(s:aS)(u:a5),Eo s fd #[[u],[]] [(x,u)])(qM:∀H:af,Qp H->aM K H a (B.map V.int)->sp [.ref a] H (λv _=>v=.aX jx) λ_ _ _=>False)(TI:∀H e l,CX [] H c (λ_ _ _=>False) e l->False):
  oV (bj P w) B0 (.call (.ref i_) #[[.ref a],[]]) (λr l=>r=.ok (.ret (.bool jx))/\OldK c.heap l.Q/\l.os=c.os/\tY l.gens) c:=by
 let Z:=aiW hi;let O:=hi.Z;let p:∀H:af,Qp H->aM K H a (B.map V.int)->gK P w H c.Q->(∀b,H b≠jp->b=a)->(H a≠jp->K.lookup a=jp)->
   oV (bj P w) B0 (.call (.ref i_) #[[.ref a],[]]) (λr l=>r=.ok (.ret (.bool jx))/\OldK c.heap l.Q/\l.os=c.os/\tY l.gens) c:=by
  intro H T fx Y o4 gw;let t:∀{b:Addr}{o:Obj},c.heap.get? b=ja o->H b=jp->(t2 c.heap H).get? b=ja o:=λe n=>ajR e n;let Hd:∀{b:Addr}{o:Obj}{i:Array pG}{N:Nat},c.heap.get? b=ja o->o.data=.dict i N->H b=jp:=λ{b o i N}e d=>by
   cases q:H b with
   |none=>rfl
   |some u=>
    let Q:b=a:=o4 b (by rw[q];simp);subst Q;rw[D]at e;cases e;let d':Data.seq vs.toArray _=Data.dict i N:=d;cases d'
  let C:∀{b:Addr}{m:b6},c.heap.Ns b m->(t2 c.heap H).Ns b m:=λ{b m}⟨o,i,N,e,d,r⟩=>#[o,i,N,t e (Hd e d),d,r]
  let y:K.In (t2 c.heap H):=λb o e=>t (qj b o e) (by
   cases q:H b with
   |none=>rfl
   |some u=>
    let Q:b=a:=o4 b (by rw[q];simp);subst Q;rw[gw (by rw[q];simp)]at e;cases e)
  let Gj:Mod K j (t2 c.heap H):=#[y,C zr,#[R,C f,G],let⟨MW,ai,ak⟩:=M;#[MW,C ai,ak]]
  let dB:yq P w K j (t2 c.heap H) B0 [] c H:=#[2,Gj,λb o e=>alN e,Qm (ai5 _ _),trivial,λb f=>bk (show b∈([]:b5)from f) qv,Y,.of_eq hg]
  show-qy ((F _ y (C zr)).run B0 [] c H #[[.ref a],[]] [.ref a] [.ref a] _ _ ao dB (I c (.ref a)) (.cons rfl .nil) (qM H T fx)) λr l h=>?_;cases r with
  |error e=>exact(TI H e l h).elim
  |ok ez=>
   cases ez with
   |next=>show-i6 h
   |brk=>show-i6 h
   |cont=>show-i6 h
   |ret u=>
    let#[v,H',os,A,un,J,d6,q]:=h;let k4:v=.aX jx:=q;subst k4;obtain rfl:u=Fz jx:=d6;show#[2,OldK.of_keep λb o e=>?_,os,A];cases q:H b with
    |none=>show-un.keep b o e q (by intro z;show-bk (show b∈([]:b5)from z) qv) qv
    |some u=>
     rcases T b with z|⟨ob,xs,z⟩
     .rw[q]at z;cases z
     let aE:=un.jq b ob _ z;let#[U,_]:=Y b _ z;let#[aP,_]:=J b _ aE;rw[e]at U;cases U;show-aP
 cases E:K.lookup a with
 |some o=>
  let e:=qj a o E;rw[D]at e;cases e;show-p (λ_=>jp) (λ_=>.inl rfl) (.inr #[_,vs.toArray,_,E,2,2,2,by rwa[hY,O],by simpa using Z]) (λb u z=>by let L:(jp:Option hX)=ja u:=z;cases L) (λb z=>bk rfl z) λz=>bk rfl z
 |none=>
  refine p (λb=>if b=a then ja (.fi {cls:=.type "list",data:=.seq vs.toArray} (.lst (B.map V.int)))else jp) (λb=>?_) (.inl (.inr #[{cls:=.type "list",data:=.seq vs.toArray},b2 rfl])) (λb u z=>?_) (λb z=>?_) λ_=>E
  .by_cases f:b=a
   .exact .inr #[6,b2 f]
   exact .inl (bL f)
  .by_cases f:b=a
   .let L:=(b2 f).symm.trans z;cases L;subst f;show#[D,by rwa[bQ],vs,_,Z,D]
   let L:=(bL f).symm.trans z;cases L
  by_cases f:b=a
  .exact f
  show-bk (bL f) z
abbrev aAY{K:aI}{h:Heap}(_:K.In h):aI:=K
def azX{l:Ħ}{n k:Nat}{L:b6->Heap->Prop}{A:b0->Heap->Prop}{d:DefRec}{K:Params->aI}{CX:b0->oJ}{sp:b0->fu}{x:Str}(R:l.most=ja n)(B:n<=sizeLine)(i:d.params.defaults=[])(J:gU k B0)(D:∀(w:b0)(h:Heap),A w h->(K w.params).In h)(F:∀(w:b0)(m:b6)(i_:Addr)(h:Heap),(K w.params).In h->h.Ns sa m->m d.name=ja (.ref i_)->
   ∃r:nM,(∀(s:aS)(u:a5),Eo s r #[[u],[]] [(x,u)])/\
    ∀b:Heap,(K w.params).In b->b.Ns sa m->aA l.prog w (K w.params) m b (CX w) k i_ r [x] (sp w))(T:∀(w:b0)(H:af)(a:Addr)(p:kd),p.Z<=n->Qp H->aM (K w.params) H a (p.map V.int)->sp w [.ref a] H (λv _=>v=.aX jx) λ_ _ _=>False)(C:∀(w:b0)(H:af)(s:aS)(e:a5)(t:aS),CX w [] H s (λ_ _ _=>False) e t->False):
  ajz q loose L A l.row.toRowW d [] (λf vs=>Ķ f vs):=by show-Zu.atZ R i λw X O m jK i_ o pm U M a vs p G Y aY Z od j E g c Q=>?_;let y:=D w _ Y;let#[r,I,N]:=F w m i_ _ y G.T.g j;show-akG y G.T.g G.T.b G.T.builtins G.T.nolimit Q E g (eh c B) J N I (λH z P=>T w H a p c z P) λH e t=>C w H O e t
def gT(s:Stmt)(j:Nat):Stmt:=match s with
 |.ClassDef _ _ _ body _ _ _ _ _ _ _=>body.getD j (.Pass #[0,0,0,0])
 |_=>.Pass #[0,0,0,0]
def o9(s:Stmt):Arguments:=match s with
 |.FunctionDef _ a _ _ _ _ _ _ _ _=>a
 |_=>{posonlyargs:=[],args:=[],vararg:=jp,kwonlyargs:=[],kw_defaults:=[],kwarg:=jp,defaults:=[]}
def mx(s:Stmt):List Stmt:=match s with
 |.FunctionDef _ _ b _ _ _ _ _ _ _=>b
 |_=>[]
def bW(s:Stmt):Scope:=match s with
 |.FunctionDef _ _ _ _ _ _ sc _ _ _=>sc
 |_=>{kind:=.function,names:=[],isGenerator:=jA,isCoroutine:=jA}
abbrev a6:oJ:=λ_ _ _ _ _ _=>False
abbrev dZ:bF:=λ_ _ _=>False
def cd:om a6 X dZ:=(λ_ _ _ _ _ _ _ h=>h.elim)
structure b1(K:aI)(x qual:Str)(st:Stmt)(f:Addr)(fd:nM):Prop where
 ex:∃(lF:a5)(ek:Option Addr)(ec doc pm:a5)(an:Option Addr)(cdv gd:a5)(nx:ml),
  fd=nR x qual (o9 st) (mx st) (bW st) .none ec doc pm an cdv gd/\K.lookup f=ja #[lF,ek,.func fd,nx]/\Fb K cdv qual=jx
 fL:m4 K (.ref f)=jx
section
variable{P:cx}{w:b0}{K:aI}{mg:b6}{base:Heap}
def b1.ok{st:Stmt}{f:Addr}{c:bY}{k:Nat}{sp:fu}(F:b1 K x qual st f fd)(S:cp N c (bW st))(n:∀(b:a5)(A:et)(a:List Env)(s:aS)(H:af)(vs:aL)(Q:aO)(E:bF),gU k (A.deeper (qD qual (bW st) s.heap.objs.size f b))->sp vs H Q E->
   ∃t,ie (j3 a6 P w K mg base N qual (bW st) f b A a s H E).vn (mx st) t/\t {dq:=λ_ H'=>Q .cw H',gz:=Q} (start N vs) H)(len:∀vs H Q E,sp vs H Q E->vs.Z=c.Z:=by intro _ _ _ _ h;first|(cases h<;>subst_vars<;>rfl)|((repeat let#[_,h]:=h);subst_vars;rfl)|(cases h.1;subst_vars;rfl)):-aA a6 (k+1) f fd c sp:=by let#[y,p,ec,g,V,o,b,r,L,2,lk,l]:=F.ex;show-QI lk l S len λA a s H vs Q E d m=>?_;let#[t,h,q]:=n b A a s H vs Q E d m;show#[t,h.vn,q]
def b1.binds{st:Stmt}{f:Addr}{ps:bY}(F:b1 K x qual st f fd)(h:∀(ec b g:a5)(c:Option Addr)(a d:a5)(k:en),k.Z=ps.Z->Ll (nR x qual (o9 st) (mx st) (bW st) .none ec b g c a d) #[k,[]]=pure (ps.zip k)):Binds K fd ps []:=by let#[m,l,ec,b,g,c,a,d,n,2,lk,o]:=F.ex;show-.all (h ec b g c a d)
def zf{st:Stmt}{f:Addr}{b:a5}{a:Option Addr}{d:ml}{ec:a5}(l:K.lookup f=ja #[b,a,.func (nR x qual (o9 st) (mx st) (bW st) .none ec doc pm an e gd),d])(c:Fb K e qual=jx)(k:m4 K (.ref f)=jx):b1 K x qual st f (nR x qual (o9 st) (mx st) (bW st) .none ec doc pm an e gd):=(#[#[b,a,ec,doc,pm,an,e,gd,d,2,l,c],k])
def kW{A:et}{k:Nat}(a:gU k A):A.units+1<cLine:=(qq (aiB (by decide:1<=64) _) a.units)
def e8{n:Nat}(h:n<=1000):n<sizeLine:=(qq h qc)
end
section
variable{X:bA}
def aa(i:Nat)(b:X.N[i]?=ja x:=by rfl)(a:Q8 X.env.scope x:=by first|exact hr rfl|exact Qs (hr rfl)|show-Qs (Qs rfl))(c:(x==("__debug__":Str))=jA:=by decide)(d:(x==("__classdict__":Str))=jA:=by decide):a' X (.Name x pos) (pz i):=(aok b a c d)
def gV{A B:Prop}(h:B):if jA=jx then A else B:=by rwa[bL hB]
def hb{A B:Prop}(h:A):if jx=jx then A else B:=by rwa[b2 rfl]
def asJ{c A B:Prop}[Decidable c](a:c->A)(b:¬c->B):if c then A else B:=by
 by_cases h:c
 .rw[b2 h];show-a h
 rw[bL h];show-b h
def A2{c A B:Prop}[Decidable c](a:c)(h:B):if(!decide c)=jx then A else B:=by rw[cQ a];show-gV h
def av(H H':af):Prop:=∀b o,H b=ja o->H' b=ja o
def av.refl(H:af):av H H:=(λ_ _ h=>h)
def av.trans(a:av H H1)(b:av H1 e):av H e:=(λc o h=>b c o (a c o h))
def av.free{H H':af}(e:av H H')(h:H' l=ai2):H l=ai2:=by
 cases q:H l with
 |none=>rfl
 |some o=>
  rw[e l o q]at h;cases h
def av.seq{K:aI}(e:av H H')(h:aM K H a xs):aM K H' a xs:=by
 rcases h with(h|⟨o,h⟩)|h
 .exact .inl (.inl (e _ _ h))
 .exact .inl (.inr #[o,e _ _ h])
 show-.inr h
end
end al
namespace bX
open PySem PySem.Spec PyProof.Rows al
abbrev St:=al.St
abbrev V:=al.V
abbrev wt:a5->aS->Prop:=λ_ _=>False
theorem ami{a:Type}{M:mY}{t:Sem a}{Q:a->aS->Prop}{E:cL}(h:aQ M A t Q wt s):aQ M A t Q E s:=
 gB h (λ_ _ q=>q) λ_ _ z=>i6 z
def aBj{R:wA->aS->Prop}{iter:Expr}{a:Env}(I:Nat->aS->Prop)(b:∀n s,I n s->aQ (bj prog w) A (kE it) (λr f=>match r with
   |none=>R (.ok .next) f
   |some v=>aQ (bj prog w) A (MS e it v) (λ_ p=>aQ (bj prog w) A (BV e a v) (λ_ t=>
     aQ (bj prog w) A (forIn ifs jx λc r=>if r=jx then do let ok <-Cv c a (eval c a);pure (Ex ok)else pure (Ex r)) (λok d=>
      if ok=jx then aQ (bj prog w) A (eval elt a) (λx k=>aQ (bj prog w) A (call (.builtin "list.append") [acc,x]) (λ_ o=>∃m,m<n/\I m o) wt k) wt d
      else∃m,m<n/\I m d) wt t) wt p) wt f) wt s)(n:Nat)(h:I n s):oV (bj prog w) A (.compLoop (.ListComp elt [#[e,iter,ifs,0]] scope pos) 0 it acc a) R s:=by
 refine codeAny_loop rfl I (λn s y=>?_) n h;show aQ _ A ((compTurn (.ListComp elt [#[e,iter,ifs,0]] scope pos) 0 it acc a).onRaise (λx=>do xu x a;azL x)) _ _ s;show-wpAny_noted (ami ?_);rw[compTurn_list];show-az (DY (az (gB (b n s y) (λr f g=>?_) λ_ _ z=>z)));cases r with
 |none=>show-bu g
 |some v=>
  show-az (gB g (λ_ p L=>az (gB L (λ_ t K=>az (gB K (λok d l=>?_) λ_ _ z=>z)) λ_ _ z=>z)) λ_ _ z=>z);cases ok with
  |false=>show-bu #[2,l]
  |true=>show-az (az (gB l (λx k N=>az (gB N (λ_ o V=>bu (bu #[2,V])) λ_ _ z=>z)) λ_ _ z=>z))
def hG(a:Fo)(U:St):St:=a.map λo=>o.bind λj=>(U[j]?).bind id
def mH(X:bA)(b:bY)(a:Scope)(f:List (Str×Addr))(C:Addr)(g:aS)(c:af)(d:b5)(de:dU):bA:=
 {X with N:=b,fD:=g,ho:=c,env:=Sr a f C X.env,outer:=X.stack,stack:=X.stack,ex:=d,fn:=λ_=>jA,de:=de,dN:=λ_ _=>False}
def EC(k:Option yI):Prop:=k=ja .cell\/k=ja .free
inductive oD(X:bA)(scope:Scope)(cl:List (Str×Addr)):List Str->List (Option Nat)->Prop
 |nil:oD X scope cl [] []
 |own{x N cs}:oD X scope cl N cs->oD X scope cl (x::N) (jp::cs)
 |mu{x j N cs}(_:X.N[j]?=ja x)(_:EC (X.env.kindOf x))(_:EC ((z' scope X.env).names.lookup x))(_:cl.lookup x=X.env.cells.lookup x):
   oD X scope cl N cs->oD X scope cl (x::N) (ja j::cs)
def oD.len{a:List (Str×Addr)}{N cs}(h:oD X scope a N cs):cs.Z=N.Z:=by
 induction h with
 |nil=>rfl
 |own _ e=>simp[e]
 |mu _ _ _ _ _ e=>simp[e]
def oD.get{X:bA}{c:List (Str×Addr)}{N cs}(h:oD X scope c N cs){U:St}:∀{i:Nat}{x:Str}{v:V},N[i]?=ja x->(hG cs U)[i]?=ja (ja v)->
  ∃j:Nat,X.N[j]?=ja x/\U[j]?=ja (ja v)/\EC (X.env.kindOf x)/\EC ((z' scope X.env).names.lookup x)/\c.lookup x=X.env.cells.lookup x:=by
 induction h with
 |nil=>intro i x v b a;simp at b
 |own _ e=>
  intro i x v b a;cases i with
  |zero=>simp[hG]at a
  |succ i=>show-e (i:=i) (by simpa using b) (by simpa[hG]using a)
 |@mu y j N cs a1 a2 s u _ e=>
  intro i x v b a;cases i with
  |zero=>
   simp at b;subst b;show#[j,a1,4,a2,s,u];simp[hG]at a;cases q:U[j]? with
   |none=>rw[q]at a;simp at a
   |some o=>
    rw[q]at a;simp at a;rw[a]
  |succ i=>show-e (i:=i) (by simpa using b) (by simpa[hG]using a)
def yr(b:List (Str×Addr))(a:List (Str×yI)):Bool:=a.all λy=>(y.2 !=.cell&&y.2 !=.free)||(b.lookup y.1).isSome
def akH{d:List (Str×Addr)}{a:List (Str×yI)}(h:yr d a=jx)(k:EC (a.lookup x)):∃c,d.lookup x=ja c:=by
 let b:∀q:yI,a.lookup x=ja q->(q=.cell\/q=.free)->∃c,d.lookup x=ja c:=λq e f=>by
  let m:=iw.mp h (x,q) (Fe e);rcases f with rfl|rfl
  .exact wu.mp (by simpa using m)
  show-wu.mp (by simpa using m)
 rcases k with k|k
 .exact b _ k (.inl rfl)
 show-b _ k (.inr rfl)
def vW(X:bA)(b:hO)(t:iz):Prop:=
 ∀(a:dU)(s:aS)(U:St)(H:af)(Q:Bool->af->Prop),Inv X a U H s->t U H Q->
  aQ (bj X.prog X.w) X.A (forIn b jx λc r=>if r=jx then do let ok <-Cv c X.env (eval c X.env);pure (Ex ok)else pure (Ex r)) (Kx X a U Q) X.dN s
def oE:iz:=λ_ H Q=>Q jx H
def iQ:vW X [] oE:=(λ_ _ _ H _ I h=>wpAny_tests_nil #[H,I,h])
def DL{t:iz}(h:m2 X c t):vW X [c] t:=(λa s U H Q I q=>wpAny_tests_one (h a s U H Q I q))
def jf(A:eG)(t:Fo)(g:kN)(w:iz)(r:TE):TE:=λU H Q=>A U H λJ f=>∀D,f D=jp->
 ∃W:Nat->Nat->List V->St->af->Prop,(∃m,W 0 m [] (hG t U) (upd f D (.lst [])))/\∀i m a n H',W i m a n H'->H' D=ja (.lst a)/\a.Z<sizeLine/\
  ((J.stop i H'/\Q (.ref D) H')\/(J.go i H'/\∀x k,J.AK i H' x k->g x n k λd p=>w d p λb o=>
   if b=jx then r d o λy l=>l D=ja (.lst a)/\∃c,c<m/\W (i+1) c (a++[y]) d (upd l D (.lst (a++[y])))
   else∃c,c<m/\W (i+1) c a d o))
section
variable{X:bA}{elt d0 iter:Expr}{ifs:hO}{scope:Scope}{pos:Pos}{N':bY}{cs:Fo}{cl:List (Str×Addr)}{wi:eG}{g:kN}{tt:iz}{bR:TE}
theorem amj{H:af}(ok:gK P w H h)(d:H C=jp)(f:j7 C h i):gK P w H i:=λb k e=>by
 refine(ok b k e).pn (λc u a q=>(f.2 c ?_).trans q) (λ_ q=>q) λ_ _ q=>q;rintro rfl;rcases a with rfl|a
 .rw[d]at e;cases e
 rw[d]at a;cases a
def Zf{s:aS}{k:Heap}{ch:b5}{x y:V}{p w:a5}{t:Nat}(I:Inv X pins U H s)(n:∀d∈ch,qg X pins H d)(f:∀d o,d∉ch->s.heap.get? d=ja o->k.get? d=ja o)(E:k.get? s.L=ja {cls:=.type "tuple",data:=.seq (List.toArray [p,w])})(N:dM [x,y] [p,w]):Inv X pins U (upd H s.heap.objs.size (.tup [x,y])) {s with heap:=k,gens:=s.gens,drawn:=s.drawn,toks:=t}:=by
 let b:H s.L=jp:=I.fresh;let K:∀d q,H d=ja q->d∉ch:=λd q l z=>by have:=(n d z).1;rw[this]at l;cases l
 refine I.step (g':=s.gens) (d':=s.drawn) (t':=t) (h':=k) (ch:=ch) (λd l=>?_) (λd o _ _ a q _=>f d o a q) (λd o _ _ a q _=>#[o.slots,f d o a q]) (λd o a q C=>?_)
  (λd o a q=>#[o,f d o a q]) (λd D q=>?_) (λd o v q=>?_) (λd J q=>#[#[],4]) (λm hm=>?_) (λd v q=>?_) I.bare
 .let#[F,i,G,L,j,u]:=n d l;show#[L,i,j,u]
 .rwa[aJ (fH (dO q))]
 .rwa[aJ (cI q b)]
 .rwa[aJ (cI q b)]
 .rw[aJ (cI q b),q];simp
 .let#[o,h,e,B,r]:=hm;show#[o,h,e,f _ o (λz=>(n _ z).2.1 rfl) B,r]
 by_cases A:d=s.L
 .subst A;rw[aN]at q;cases q;show#[sz_,[p,w],N,_,E,7]
 rw[aJ A]at q;refine(I.bC d v q).pn (λc y a z=>f c y ?_ z) (λc z=>by rwa[aJ (cI z b)]) λc D z=>by rwa[aJ (cI z b)]
 rcases a with rfl|a
 .exact K _ _ q
 show-K _ _ a
def amk{s:aS}{h':Heap}{ch:b5}{t:Nat}(I:Inv X pins U H s)(f:∀d∈ch,qg X pins H d)(b:∀d o,d∉ch->s.heap.get? d=ja o->h'.get? d=ja o):Inv X pins U H {s with heap:=h',gens:=s.gens,drawn:=s.drawn,toks:=t}:=by
 refine I.step (g':=s.gens) (d':=s.drawn) (t':=t) (h':=h') (ch:=ch) (λd L=>?_) (λd o _ _ a q _=>b d o a q) (λd o _ _ a q _=>#[o.slots,b d o a q]) (λd o a q V=>V)
  (λd o a q=>#[o,b d o a q]) (λd e q=>q) (λd o v q=>q) (λd j q=>#[#[],4]) (λm hm=>?_) (λd v q=>?_) I.bare
 .let#[h,p,i,k,A,K]:=f d L;show#[k,p,A,K]
 .rw[q];simp
 .let#[o,n,l,N,r]:=hm;show#[o,n,l,b _ o (λz=>(f _ z).2.1 rfl) N,r]
 refine(I.bC d v q).pn (λc y a z=>b c y (λw=>?_) z) (λc z=>z) λc e z=>z;have:=(f c w).1;rcases a with rfl|a
 .rw[this]at q;cases q
 rw[this]at a;cases a
def agL{R:wA->aS->Prop}{iter:Expr}{a:Env}{XE:cL}(j:∀e s,XE e s->aQ (bj prog w) A (xu e a) (λ_ b=>R (.error e) b) (λx b=>R (.error x) b) s)(I:Nat->aS->Prop)(d:∀n s,I n s->aQ (bj prog w) A (kE it) (λr b=>match r with
   |none=>R (.ok .next) b
   |some v=>aQ (bj prog w) A (MS d0 it v) (λ_ t=>aQ (bj prog w) A (BV d0 a v) (λ_ y=>
     aQ (bj prog w) A (forIn ifs jx λc r=>if r=jx then do let ok <-Cv c a (eval c a);pure (Ex ok)else pure (Ex r)) (λok f=>
      if ok=jx then aQ (bj prog w) A (eval elt a) (λx l=>aQ (bj prog w) A (call (.builtin "list.append") [acc,x]) (λ_ p=>∃m,m<n/\I m p) XE l) XE f
      else∃m,m<n/\I m f) XE y) XE t) XE b) XE s)(n:Nat)(h:I n s):oV (bj prog w) A (.compLoop (.ListComp elt [#[d0,iter,ifs,0]] scope pos) 0 it acc a) R s:=by
 refine codeAny_loop rfl I (λn s K=>?_) n h;show aQ _ A ((compTurn (.ListComp elt [#[d0,iter,ifs,0]] scope pos) 0 it acc a).onRaise (λx=>do xu x a;azL x)) _ _ s;show-wpAny_noted (gB ?_ (λ_ _ q=>q) j);rw[compTurn_list];show-az (DY (az (gB (d n s K) (λr b k=>?_) λ_ _ z=>z)));cases r with
 |none=>show-bu k
 |some v=>
  show-az (gB k (λ_ t N=>az (gB N (λ_ y L=>az (gB L (λok f o=>?_) λ_ _ z=>z)) λ_ _ z=>z)) λ_ _ z=>z);cases ok with
  |false=>show-bu #[2,o]
  |true=>show-az (az (gB o (λx l V=>az (gB V (λ_ p i=>bu (bu #[2,i])) λ_ _ z=>z)) λ_ _ z=>z))
def ŋ{Z:Addr->aS->af->List Addr->List (Addr×Obj)->a5->aS->Prop}{use:Option (a5->Sem Unit)}{QQ:cL}{a:dU}{Q:aO}(ar:X.calm=jx)(hi:m1 X d0 iter wi)(r0:FQ scope X.env=pure cl)(o7:∀y∈scope.names,y.2≠.cell)(oe:scope.kind=.function)(r2:∀y∈scope.names,y.2=.local->scope.names.lookup y.1=ja .local)(kA:∀x c,cl.lookup x=ja c->X.env.cells.lookup x=ja c)(bC:yr cl (z' scope X.env).names=jx)(qH:oD X scope cl N' cs)(ae:∀(C:Addr)(V:aS)(F:af)(t:b5)(de:dU),pJ {mH X N' scope cl C V F t de with dN:=Z C V F t de} d0 g/\vW {mH X N' scope cl C V F t de with dN:=Z C V F t de} ifs tt/\a' {mH X N' scope cl C V F t de with dN:=Z C V F t de} elt bR)(hs:∀x,Cd iter X.env x=pure x:=by intro _;rfl)(I:Inv X a U H s)(h:jf wi cs g tt bR U H Q)(leave:∀(D:Addr)(V:aS)(F:af)(t:b5)(e:a5)(c4:aS),Inv X a U F V->(∀b∈t,∃H',qg X a H' b)->Z V.heap.objs.size V F t (X.de++a) e c4->aQ (bj X.prog X.w) X.A (xu e (Sr scope cl V.heap.objs.size X.env)) (λ_ s1=>B2 (bj X.prog X.w) X.A X.dN use QQ (.ref D) V.heap.objs.size (.error e) s1) (λx s1=>B2 (bj X.prog X.w) X.A X.dN use QQ (.ref D) V.heap.objs.size (.error x) s1) c4)(post:∀(D C:Addr)(G:aS)(H':af)(m:b6),Inv X a U H' G->G.heap.Ns C m->qg X a H' C->Q (.ref D) H'->B2 (bj X.prog X.w) X.A X.dN use QQ (.ref D) C (.ok .next) G):
  aQ (bj X.prog X.w) X.A (Ss (.ListComp elt [#[d0,iter,ifs,0]] scope pos) scope X.env aca (Wd []) jA (eval iter X.env) use) QQ X.dN s:=by
 refine wpAny_comprehension_free (use:=use) rfl hs r0 oe r2 (bT (hi a s U H _ I h) λv s1 ai=>bT ai λVk A ak=>?_);let#[it,t,eD,J,M,2,bM,T,DE,P,dj]:=ak;show-pC (wpAny_newFunctionEnv o7 (by intro y cc;simp at cc) (λai UI UU=>?_) oe);dsimp only at UI UU⊢;let w:Inv X a U (upd M A.heap.objs.size (.lst [])) {A with heap:=A.heap.push {cls:=.type "list",data:=.seq ([]:en).toArray},toks:=A.toks}:=bM.VH (its:=[]) (ys:=[]) .nil (ei _);let avP:M A.L=jp:=bM.fresh;let#[W,#[m0,Iw],turn]:=dj _ avP;generalize acy:A.heap.push {cls:=.type "list",dict:=jp,data:=.seq ([]:en).toArray}=N at UI UU w⊢;let adj:N.Y=A.L+1:=by rw[<-acy,uc]
 generalize a8:A.L=D at *;let K:∀b o,N.get? b=ja o->ai.get? b=ja o:=λb o e=>UU.extBut b o (fH (dO e)) (d8 _ e);let old:∀b o,A.heap.get? b=ja o->N.get? b=ja o:=λb o e=>by rw[<-acy];show-d8 _ e
 let LS:∀b∈t,b<D:=λb f=>by let#[o,e,_]:=T.obj 0 _ DE b f;rw[<-a8];show-dO e
 let ab9:∀b∈t,b∉fa X.stack:=λb f z=>by
  let#[_,f1,cV,_]:=P b f;rcases dQ.mp (bM.DF b z)with e|e
  .exact f1 e
  show-cV e
 generalize B:({mH X N' scope cl N.objs.size {A with heap:=N,toks:=A.toks} (upd M D (.lst [])) t (X.de++a)with dN:=Z N.objs.size {A with heap:=N,toks:=A.toks} (upd M D (.lst [])) t (X.de++a)}:bA)=L;let#[hg,acZ,he]:=ae N.objs.size {A with heap:=N,toks:=A.toks} (upd M D (.lst [])) t (X.de++a);rw[B]at hg acZ he;let y5:L.prog=X.prog:=by rw[<-B];rfl
 let y8:L.w=X.w:=by rw[<-B];rfl
 let abV:L.K=X.K:=by rw[<-B];rfl
 let FW:L.calm=X.calm:=by rw[<-B];rfl
 let mh:Inv L [] (hG cs U) (upd M D (.lst [])) {A with heap:=ai,toks:=A.toks+0}:=by
  rw[<-B];show#[#[w.ok.mod,oe,w.ok.glob,w.ok.blt,cy _,λx y c aG aP=>w.ok.inj x y c (kA _ _ aG) (kA _ _ aP),λx aq=>akH bC aq,λx c z _=>bk (show jA=jx from z) hB,w.ok.hd,w.ok.frames,.inl rfl,
   λb f=>#[λe=>?_,λx c e=>(P b f).2.2.2.2.1 x c (kA _ _ e)],w.bs,eh w.ok.tf w.oB,λb o e f=>?_,ab9,w.stack,w.NS],2,w.bare,iO.kept K,#[_,UI,λi x v aG aP cz=>?_],λx c e=>?_,w.bC.fresh (cy _),λx c e=>w.oY x c (kA _ _ e),
   λp aw=>?_,w.bC.kept K,4]
  .let l:=LS b f;rw[show b=N.Y from e,adj]at l;show-qp _ (þ l)
  .let l:=LS b f;rcases(P b f).2.2.2.1 with z|z
   .exact bM.ok.zV b o e z
   show-bk (jk (dO (bM.ok.bs b o e).1) z) (qp _)
  .let#[j,a1,a2,kO,oT,Rl]:=qH.get aG aP;let#[m,hn,au]:=w.loc;let#[u,e3,l]:=au j x v a1 a2 (by rcases kO with z|z;show-.inr (.inl z);show-.inr (.inr z));show#[u,e3,.inr #[oT,4]];rcases l with⟨k,_⟩|⟨k,c,e,z⟩
   .rcases kO with q|q<;>(rw[k]at q;cases q)
   let#[o,aY,hd]:=z;show#[c,Rl.trans e,o,K c o aY,hd]
  .let#[v,o,aY,hd]:=w.cell x c (kA _ _ e);show#[v,o,K c o aY,hd]
  .let UP:p∈X.de++a:=by simpa[mH]using aw
   let#[e,n,ne,hy,d]:=w.pin p UP;show#[K _ _ e,n,fH (dO e),λz=>?_,d];rcases dQ.mp (w.DF p.1 z)with q|q
   .exact ne q
   show-hy q
  show(hG cs U).Z=N'.Z;rw[hG,bQ];show-qH.len
 let ae4:eD 0 ai:=T.keep 0 _ _ DE λb f o e=>K b o (old b o e);let Ai:∀{H':af},(∀b∈t,H' b=jp)->∀b∈t,qg L [] H' b:=λ{H'}hn b f=>by rw[<-B];show#[hn b f,λe=>?_,ab9 b f,.inl f,λx c e=>(P b f).2.2.2.2.1 x c (kA _ _ e),λp aw=>(P b f).2.2.2.2.2 p (by simpa[mH]using aw)];let l:=LS b f;rw[show b=N.Y from e,adj]at l;show-qp _ (þ l)
 let avs:∀b∈t,(upd M D (.lst [])) b=jp:=λb f=>by rw[aJ (fH (LS b f))];exact(P b f).1
 let D1:L.A=X.A:=by rw[<-B];rfl
 let Oo:L.env=Sr scope cl N.objs.size X.env:=by rw[<-B];rfl
 let lv:=λe c4(z:L.dN e c4)=>leave D {A with heap:=N,toks:=A.toks} (upd M D (.lst [])) t e c4 w (λb f=>#[_,P b f]) (by rwa[<-B]at z);let Y:oV (bj X.prog X.w) X.A (.compLoop (.ListComp elt [#[d0,iter,ifs,0]] scope pos) 0 (.ref it) (.ref D) (Sr scope cl N.objs.size X.env))
   (B2 (bj X.prog X.w) X.A X.dN use QQ (.ref D) N.Y) {A with heap:=ai,toks:=A.toks+0}:=by
  show-agL (XE:=L.dN) lv (λn s'=>∃i ys E H',Inv L [] E H' s'/\eD i s'.Q/\(∀b∈t,H' b=jp)/\W i n ys E H') ?_ m0 #[0,[],6,mh,ae4,avs,Iw];rintro n s' ⟨i,ys,E,H',pH,i3,LU,g9⟩;let#[eB,axd,og]:=turn i n ys E H' g9;rcases og with⟨stop,q⟩|⟨go,step⟩
  .let hd:=T.done L y5 y8 abV (FW.trans ar) i [] s' E H' L.dN pH (Ai LU) i3 stop;rw[D1]at hd;show-bT hd λr G ao=>?_;let#[2,R]:=ao;let#[m,hn,_]:=id R.loc;let Ly:L.env.locals=N.Y:=by rw[Oo];rfl
   let Mn:H' N.Y=jp:=by rw[<-Ly];show-R.free
   let wK:=R.base;rw[<-B]at wK;let u6:G.os=A.os:=by let z:=R.os;rwa[<-B]at z
   let ac1:=R.bC;rw[y5,y8]at ac1;let agY:Inv X a U H' G:=w.Lm (s':=G) (ch:=t) u6 #[wK.keep,wK.slot,wK.free,wK.there,wK.gZ,wK.jq,wK.jO] ac1 R.bare λb f=>by let#[_,g1,_,g3,qG,km]:=P b f;show#[g3,g1,qG,km]
   show-post D N.objs.size G H' m agY (by rwa[Ly]at hn) (w.tm (cy _) Mn) q
  let hit:=T.item L y5 y8 abV (FW.trans ar) i [] s' E H' L.dN pH (Ai LU) i3 go;rw[D1]at hit;show-bT hit λr G ao=>?_;let#[u,2,cT]:=ao;show-bT cT λ_ c2 eA=>?_;let#[x,bo,R,HC,x1,Ah,Tr]:=eA;let PI:=R.pinned (Ai Tr) (T.obj _ _ Ah);let aB:=hg _ c2 E bo x u _ PI HC (step x bo x1);rw[D1,Oo,y5,y8]at aB;show-bT aB λ_ fC ij=>?_;let#[Jb,g_,ue,W8]:=ij;let cm:=acZ _ fC Jb g_ _ ue W8;rw[D1,Oo,y5,y8]at cm;show-bT cm λok kH jG=>?_;let#[kJ,mW,p8]:=jG;let O:∀{k9:St}{g0:af}{h8:aS}{Ow:aL}{eO:Nat},Inv L ([]++I5 t c2.Q) k9 g0 h8->eO<n->W (i+1) eO Ow k9 g0->
    ∃m,m<n/\∃i ys E H',Inv L [] E H' h8/\eD i h8.Q/\(∀b∈t,H' b=jp)/\W i m ys E H':=λ{k9 g0 h8 Ow eO}jS hm YB=>by show#[eO,hm,i+1,Ow,k9,g0,jS.N2,T.keep _ _ _ Ah λb f o e=>(jS.pin (b,o) (oO _ (oO _ (NA f e)))).1,λb f=>?_,YB];let#[o,e,d]:=T.obj _ _ Ah b f;exact(jS.pin (b,o) (oO _ (oO _ (NA f e)))).2.1
  cases ok with
  |false=>
   rw[bL hB]at p8⊢;let#[eO,hm,N_]:=p8;show-O mW hm N_
  |true=>
   rw[b2 rfl]at p8⊢;let acT:=he _ kH Jb kJ _ mW p8;rw[D1,Oo,y5,y8]at acT;show-bT acT λaAB h8 my=>?_;let#[y,g0,jS,HD,avO,eO,hm,YB]:=my;let acF:=r6 (X:=L) _ h8 Jb g0 (.ref D) [y] (.ref D) [aAB] (λ_ rA=>rA=upd g0 D (.lst (ys++[y]))) jS rfl (.cons HD .nil) #[D,ys,y,2,2,avO,axd,2];rw[D1,y5,y8]at acF;show-bT acF λ_ nB ik=>?_;let#[_,rA,uf,1]:=ik;show-O uf hm YB
 show-codeAny_compStart_list Y (T.self _ 0 _ _ _ ae4 Y)
theorem ľ{use:Option (a5->Sem Unit)}{QQ:cL}{Q:aO}(n:X.calm=jx)(p:m1 X d0 iter wi)(L:FQ scope X.env=pure cl)(w:∀y∈scope.names,y.2≠.cell)(A:scope.kind=.function)(N:∀y∈scope.names,y.2=.local->scope.names.lookup y.1=ja .local)(t:∀x c,cl.lookup x=ja c->X.env.cells.lookup x=ja c)(o:yr cl (z' scope X.env).names=jx)(K:oD X scope cl N' cs)(l:∀(C:Addr)(k:aS)(a:af)(d:b5)(f:dU),pJ (mH X N' scope cl C k a d f) d0 g/\vW (mH X N' scope cl C k a d f) ifs tt/\a' (mH X N' scope cl C k a d f) elt bR)(r:∀x,Cd iter X.env x=pure x:=by intro _;rfl)(I:Inv X pins U H s)(h:jf wi cs g tt bR U H Q)(post:∀(D C:Addr)(b:aS)(H':af)(m:b6),Inv X pins U H' b->b.heap.Ns C m->qg X pins H' C->Q (.ref D) H'->B2 (bj X.prog X.w) X.A X.dN use QQ (.ref D) C (.ok .next) b):
  aQ (bj X.prog X.w) X.A (Ss (.ListComp elt [#[d0,iter,ifs,0]] scope pos) scope X.env e (Wd []) jA (eval iter X.env) use) QQ X.dN s:=
 ŋ (Z:=λ_ _ _ _ _=>wt) n p L w A N t o K l r I h (λ_ _ _ _ _ _ _ _ z=>z.elim) post
def j0(r:X.calm=jx)(i:m1 X d0 iter wi)(J:FQ scope X.env=pure cl)(E:∀y∈scope.names,y.2≠.cell)(F:scope.kind=.function)(M:∀y∈scope.names,y.2=.local->scope.names.lookup y.1=ja .local)(z:∀x c,cl.lookup x=ja c->X.env.cells.lookup x=ja c)(w:yr cl (z' scope X.env).names=jx)(G:oD X scope cl N' cs)(d:∀(C:Addr)(l:aS)(a:af)(f:b5)(k:dU),pJ (mH X N' scope cl C l a f k) d0 g/\vW (mH X N' scope cl C l a f k) ifs tt/\a' (mH X N' scope cl C l a f k) elt bR)(u:∀x,Cd iter X.env x=pure x:=by intro _;rfl):a' X (.ListComp elt [#[d0,iter,ifs,0]] scope pos) (jf wi cs g tt bR):=by
 intro n s U H Q I h;rw[eval_ListComp];show-ľ r i J E F M z w G d u I h λD C t H' m B j p q=>#[m,j,λR O=>#[.ref D,H',4,2,q]]
 let#[K,L,P,A,N,V]:=p;show-B.turned (t':=t.toks) (λb o d e=>(O.2 b d).trans e) K L A N V
def z3{i:Nat}{y:Str}{f:Pos}(P:X.N.Nodup)(A:X.N[i]?=ja y)(d:X.env.scope.names.lookup y=ja .local)(w:xH (.ListComp elt [#[d0,iter,ifs,0]] scope pos) (ja (.Name y py)) f.line X.env=pure jx)(B:X.calm=jx)(R:m1 X d0 iter wi)(r0:FQ scope X.env=pure cl)(o7:∀y∈scope.names,y.2≠.cell)(oe:scope.kind=.function)(r2:∀y∈scope.names,y.2=.local->scope.names.lookup y.1=ja .local)(kA:∀x c,cl.lookup x=ja c->X.env.cells.lookup x=ja c)(E:yr cl (z' scope X.env).names=jx)(qH:oD X scope cl N' cs)(p:∀(C:Addr)(N:aS)(n:af)(K:b5)(L:dU),pJ (mH X N' scope cl C N n K L) d0 g/\vW (mH X N' scope cl C N n K L) ifs tt/\a' (mH X N' scope cl C N n K L) elt bR)(Y:∀x,Cd iter X.env x=pure x:=by intro _;rfl):i7 X (.Assign [.Name y py] (.ListComp elt [#[d0,iter,ifs,0]] scope pos) f) (t5 (jf wi cs g tt bR) (hR i)):=by
 intro k s U H r I h;rw[exec_Assign_Name_used _ _ _ _ w];show-az (DY (az ?_));show aQ _ X.A (do let _ <-Ss (.ListComp elt [#[d0,iter,ifs,0]] scope pos) scope X.env _ (Wd []) jA (eval iter X.env) (ja (BV (.Name y py) X.env))) _ _ s;show-az (gB (ľ (use:=ja (BV (.Name y py) X.env)) (QQ:=λ_ u=>uy X k r .next u) B R r0 o7 oe r2 kA E qH p Y I h ?_) (λ_ u F=>bu (bu F)) λ_ _ e=>e);intro D C b4 H' m mh T z q;let#[M,V,f2,G,j,Q]:=z;show-az5 (ZO mh P A (.inl d) (v:=.ref D) rfl (λO ue Z=>?_) (.inr d));let#[a,J,l]:=Z;let t:C≠a:=by
  rcases l with rfl|l
  .exact V
  exactλe=>j _ _ l e.J
 show#[m,T.sameBut J t,λh' r5=>#[_,H',4,q]];show-ue.turned (t':=O.toks) (λb o p e=>(r5.2 b p).trans e) M V G j Q
def nZ(J:ff)(c:af)(a:aL):Prop:=∀H',av c H'->J.stop a.length H'/\(∀i,i<a.Z->J.go i H')/\∀i x b,i<a.Z->J.AK i H' x b->b=H'/\a[i]?=ja x
theorem oj{K:aI}(h:aM K H1 a xs):nZ (j9 K a) H1 xs:=λH' b=>
 #[#[xs,b.seq h,cy _],λi c=>#[xs,xs[i],b.seq h,by simp[c]],λi x d _ y=>#[y.1,y.2 xs (b.seq h)]]
theorem χ(lo:Int)(n:Nat):nZ (yl lo n) H1 ((fk n).map λi:Nat=>V.int (lo+i)):=λH' _=>
 #[by show n<=_;simp,λi a=>(by simpa using a:i<n),λi x f a y=>by
  let#[b,c]:=y;let d:i<n:=by simpa using a
  show#[b,4];rw[c];simp[d]]
end
def aBn{J:ff}{b:aL}{g:kN}{k:fJ}{D:Ends}(c:Nat->St->af->Prop)(n:nZ J H b)(o:c 0 U H)(hm:∀i a H',c i a H'->av H H')(N:∀i x a H',b[i]?=ja x->c i a H'->g x a H' λl d=>k {D with dq:=c (i+1),gd:=c (i+1),i8:=D.dq} l d)(L:∀a H',c b.length a H'->D.dq a H'):
  AN J g k D U H:=by
 show#[λi m a H'=>m=b.Z-i/\i<=b.Z/\c i a H',#[b.Z,by simp,ei _,o],4];rintro i m a H' ⟨rfl,V,p⟩;let#[t,K,A]:=n H' (hm i a H' p);by_cases f:i<b.Z
 .refine .inr #[K i f,c (i+1),λl d w=>#[b.Z-(i+1),9,2,f,w],λx d y=>?_];let#[2,r]:=A i x d f y;show-N i x a _ r p
 let e:i=b.Z:=by lia
 subst e;show-.inl #[t,L a H' p]
def QD{J:ff}{c:aL}{a:St}{z:iz}{B:TE}{Q:aO}{l:af}(I:hG cs U=jp::a)(H:nZ J l c)(G:c.Z<sizeLine)(p:V->Bool)(f:V->V)(A:∀(i:Nat)(x:V)(d:af)(R:Bool->af->Prop),c[i]?=ja x->av l d->(∀k,av d k->R (p x) k)->z (ja x::a) d R)(q:∀(i:Nat)(x:V)(d:af)(R:aO),c[i]?=ja x->p x=jx->av l d->(∀k,av d k->R (f x) k)->B (ja x::a) d R)(u:∀(D:Addr)(H':af),l D=jp->H' D=ja (.lst ((c.filter p).map f))->av l H'->Q (.ref D) H'):
  ∀D,l D=jp->∃W:Nat->Nat->List V->St->af->Prop,(∃m,W 0 m [] (hG cs U) (upd l D (.lst [])))/\∀i m g t H',W i m g t H'->H' D=ja (.lst g)/\g.Z<sizeLine/\
   ((J.stop i H'/\Q (.ref D) H')\/(J.go i H'/\∀x d,J.AK i H' x d->hR 0 x t d λh F=>z h F λb L=>
    if b=jx then B h L λy k=>k D=ja (.lst g)/\∃w,w<m/\W (i+1) w (g++[y]) h (upd k D (.lst (g++[y])))
    else∃w,w<m/\W (i+1) w g h L)):=by
 intro D a8;show#[λi m g t H'=>m=c.Z-i/\i<=c.Z/\g=((c.take i).filter p).map f/\(∃o,t=o::a)/\av l H'/\H' D=ja (.lst g),#[c.Z,by simp,ei _,by simp,#[jp,I],λb o e=>?_,aN],4]
 .rwa[aJ (cI e a8)]
 rintro i m g t H' ⟨rfl,T,rfl,⟨o,rfl⟩,n,N⟩;let#[M,P,O]:=H H' n;show#[N,qq ?_ G,4]
 .rw[bQ];show-eh (Qe _ _) ?_;rw[yA];exact E7 _ _
 by_cases K:i<c.Z
 .refine .inr #[P i K,λx d y=>?_];let#[2,s]:=O i x d K y;show z (ja x::a) d _;show-A i x d _ s n λL r=>?_;let C:c.take (i+1)=c.take i++[x]:=by rw[Bj,s];rfl
  cases j:p x with
  |true=>
   show-hb ?_;show-q i x L _ s j (n.trans r) λk E=>#[E _ _ (r _ _ N),c.Z-(i+1),9,2,K,4,#[1],λb X e=>?_,aN]
   .rw[C,yy,fP];simp[j]
   rw[aJ (cI e a8)];show-E _ _ (r _ _ (n _ _ e))
  |false=>
   show-gV #[c.Z-(i+1),9,2,K,4,#[1],n.trans r,r _ _ N];rw[C,yy,fP];simp[j]
 let e:i=c.Z:=by lia
 subst e;show-.inl #[M,u D H' a8 (by rw[N,ui]) n]
theorem anU{J:ff}{o:aL}{c:St}{t:TE}{Q:aO}{g:af}(z:hG cs U=jp::c)(s:nZ J g o)(j:o.Z<sizeLine)(f:V->V)(p:∀(i:Nat)(x:V)(a:af)(R:aO),o[i]?=ja x->av g a->(∀k,av a k->R (f x) k)->t (ja x::c) a R)(r:∀(D:Addr)(H':af),g D=jp->H' D=ja (.lst (o.map f))->av g H'->Q (.ref D) H'):
  ∀D,g D=jp->∃W:Nat->Nat->List V->St->af->Prop,(∃m,W 0 m [] (hG cs U) (upd g D (.lst [])))/\∀i m d w H',W i m d w H'->H' D=ja (.lst d)/\d.Z<sizeLine/\
   ((J.stop i H'/\Q (.ref D) H')\/(J.go i H'/\∀x a,J.AK i H' x a->hR 0 x w a λn K=>oE n K λb A=>
    if b=jx then t n A λy k=>k D=ja (.lst d)/\∃l,l<m/\W (i+1) l (d++[y]) n (upd k D (.lst (d++[y])))
    else∃l,l<m/\W (i+1) l d n A)):=
 QD z s j (λ_=>jx) f (λi x a R _ _ h=>h a (av.refl _)) (λi x a R u _ q h=>p i x a R u q h) λD H' N e L=>r D H' N (by rw[e,JR.mpr λ_ _=>rfl]) L
def signs(x:Str):List V:=x.cps.toList.map λc=>V.str ⟨#[c]⟩
def EH(x:Str):ff:=#[λi _=>i<x.cps.size,λi H v H'=>H'=H/\∃c,x.cps[i]?=ja c/\v=.str ⟨#[c]⟩,λi _=>i=x.cps.size]
theorem Ł(x:Str):nZ (EH x) H1 (signs x):=λH' _=>by
 let b:(signs x).Z=x.cps.size:=by simp[signs]
 show#[b,λi a=>by rwa[b]at a,λi v l a y=>?_];let#[d,c,f,g]:=y;show#[d,4];subst g;let k:x.cps.G[i]?=ja c:=by simpa using f
 simp[signs,k]
def akr{K:aI}(m:Addr)(x:Str)(t:Tok){ty:String}(J:ty="str_ascii_iterator"\/ty="str_iterator"):Turn P w K Q (EH x) [m] m (λi h=>h.IsStrIter m ty x t i)where
 mem:=by simp
 obj:=λi h st b a=>by
  let e:b=m:=by simpa using a
  subst e;let#[o,e,c,d]:=st;show#[o,e,λv z=>by rw[d]at z;cases z]
 keep:=λi h g st k=>by let#[o,e,r]:=st;show#[o,k m qv o e,r]
 item:=by
  intro X C G D q i f s U H E I n st F;subst C G D;let#[y,A,M,p,L,N]:=n m qv;let O:i<x.cps.size:=F;let l:x.cps[i]?=ja x.cps[i]:=by simp[O]
  rcases J with rfl|rfl
  .refine wpAny_pyNext_ascii_item st l λg V u=>?_;let j:Inv X f U H {s with heap:=g,toks:=s.toks+1}:=I.turned (λb o a e=>(u.2 b a).trans e) y A p L N;let#[o,e,c,d]:=id V;show#[1,AX (s:={s with heap:=g,toks:=s.toks+1}) e c d qc #[.str ⟨#[x.cps[i]]⟩,H,j,#[1],#[2,_,l,2],V,λb a=>(n b a).1]]
  show-wpAny_pyNext_wide_item st l λg V u=>?_;let j:Inv X f U H {s with heap:=g,toks:=s.toks+1}:=I.turned (λb o a e=>(u.2 b a).trans e) y A p L N;let#[o,e,c,d]:=id V;show#[1,AX (s:={s with heap:=g,toks:=s.toks+1}) e c d qc #[.str ⟨#[x.cps[i]]⟩,H,j,#[1],#[2,_,l,2],V,λb a=>(n b a).1]]
 done:=by
  intro X C G D q i f s U H E I n st F;subst C G D;let#[y,A,M,p,L,N]:=n m qv;let l:x.cps[i]?=jp:=by let e:i=x.cps.size:=F;simp[e]
  rcases J with rfl|rfl
  .exact wpAny_pyNext_ascii_end (I.ok.hd q) st l λg B=>#[2,I.turned (t':=s.toks) (λb o a e=>B b o a e) y A p L N]
  exact wpAny_pyNext_wide_end (I.ok.hd q) st l λg B=>#[2,I.turned (t':=s.toks) (λb o a e=>B b o a e) y A p L N]
 self:=λ_ _ _ _ _ st h=>by
  rcases J with rfl|rfl
  .exact wpAny_pyIter_striter_ascii st h
  show-wpAny_pyIter_striter_wide st h
section
variable{X:bA}{d0:Expr}
def asK(b:TE):eG:=λU H R=>b U H λx a=>∃z,x=.str z/\R (EH z) a
def ł(m:a' X l i):m1 X d0 l (asK i):=by
 intro a s U H R I h;show-bT (m a s U H _ I h) λv c r=>?_;let#[x,g,f,p,n]:=r;let#[z,e,q]:=n;subst e;let#[t,2]:=p;let d:∀(ty:String)(_:ty="str_ascii_iterator"\/ty="str_iterator"),Qt X a U d0 R (.ref c.L) {c with heap:=c.heap.push {cls:=.type ty,data:=.fields (List.toArray [.str z t,.int 0 0])}}:=λty w=>by
  show#[c.L,[c.L],6,g,2,f.kept (t':=c.toks) λb o e=>d8 _ e,akr _ z t w,#[_,g4 _ rfl,2,2],λb k=>?_,q];let e:b=c.L:=by simpa using k
  subst e;show-f.tm (cy _) (f.bC.fresh (cy _))
 cases aB:z.cps.all (·<128)with
 |true=>show-wpAny_pyIter_ascii aB (d _ (.inl rfl))
 |false=>show-wpAny_pyIter_wide aB (d _ (.inr rfl))
end
section
variable{X:bA}{e:Expr}{bR:TE}{lo hi:Option Expr}{eC kr:gi}{pos fz:Pos}
def N0:hD X (jU .LtE) (λx y H Q=>∃i j,x=.str i/\y=.str j/\Q (.aX (!decide (j.cps.G<i.cps.G))) H):=by intro a s U H x y v u Q I b c h;let#[i,j,2,2,q]:=h;let#[t,2]:=b;let#[d,2]:=c;show-PySem.P.le_str (xT I q rfl)
def Jm(c a:Nat):(!decide ((⟨#[c]⟩:Str).cps.G<(⟨#[a]⟩:Str).cps.G))=decide (a<=c):=by
 let h:((⟨#[c]⟩:Str).cps.G<(⟨#[a]⟩:Str).cps.G)↔c<a:=by show([c]:bg) < [a]↔c<a;simp[List.cons_lt_cons_iff]
 by_cases q:c<a
 .rw[cQ (h.mpr q),dJ jQ];rfl
 rw[dJ λz=>q (h.mp z),cQ jQ];rfl
def sM(x:Str)(lo hi:Option Int):Str:=⟨((x.cps.toList.drop (fe.dS x.cps.size 0 lo)).take (fe.dS x.cps.size x.cps.size hi-fe.dS x.cps.size 0 lo)).toArray⟩
def aak(i:Int)(n d:Nat):max 0 (min (if i<0 then i+(n:Int)else i) (n:Int))=((fe.dS n d (ja i):Nat):Int):=(al.Sp i n d)
def aqf(lo hi:Option Int)(n:Nat):agb lo hi 1 n=(fk (fe.dS n n hi-fe.dS n 0 lo)).map (fe.dS n 0 lo+·):=by
 rw[<-azq];unfold agb;let a:(1:Int)>0:=by decide
 simp only[a,if_true];congr 1
 .cases lo with
  |none=>rfl
  |some i=>show-aak i n 0
 cases hi with
 |none=>rfl
 |some i=>show-aak i n n
def ZU(x:Str)(lo hi:Option Int):QP x lo hi=sM x lo hi:=by
 unfold QP sM;let g:x.Z=x.cps.size:=rfl;rw[g,aqf,pick_run];by_cases h:((1:Int)==1&&((fk (fe.dS x.cps.size x.cps.size hi-fe.dS x.cps.size 0 lo)).map (fe.dS x.cps.size 0 lo+·)).Z==x.cps.size)=jx
 .rw[b2 h];simp at h;let a:=fe.Xx x.cps.size x.cps.size (cy _) hi;let b:=fe.Xx x.cps.size 0 (ei _) lo;let d:x.cps.size=0\/fe.dS x.cps.size 0 lo=0:=by lia
  rcases d with d|d
  .have:x.cps=#[]:=Array.eq_empty_of_size_eq_zero d;let#[c]:=x;simp only at this;subst this;simp
  let f:fe.dS x.cps.size x.cps.size hi=x.cps.size:=by lia
  rw[d,f];let#[c]:=x;let#[l]:=c;simp
 rw[bL h]
inductive asL(x:al.V)(lo:(Option Int))(hi:(Option Int))(H:af)(Q:aO):Prop where
 |mk(z:_)(_:x=.str z)(_:z.Z<=sizeLine)(_:Q (.str (sM z lo hi)) H)
def Ń:Kw X asL:=by
 intro b s U H x v r w lo hi L Q I f m pl A h;let#[z,2,n,q]:=h;let#[t,2]:=f;obtain⟨l,o,p⟩:∃l:Option (Int×Tok),r=partValue l/\l.map (·.1)=lo:=by
  cases pl with
  |none=>show#[jp,2,2]
  |int i t=>show#[ja (i,t),2,2]
 obtain⟨u,c,d⟩:∃u:Option (Int×Tok),w=partValue u/\u.map (·.1)=hi:=by
  cases A with
  |none=>show#[jp,2,2]
  |int i t=>show#[ja (i,t),2,2]
 subst o c;show#["str",_,PySem.F.slot_str_getitem.lookup,Ie s z t,4];refine wpAny_getItem_str_slice (l:=l) (u:=u) (st:=jp) m rfl (post_val_or_str ?_);let e:∀(y:Str),y=QP z lo hi->y=sM z lo hi:=λy g=>g.trans (ZU z lo hi);let a:(if(((jp:Option (Int×Tok)).map (·.1)).getD 1==1&&(aeQ z l u jp).Z==z.Z)=jx then z else(⟨((aeQ z l u jp).filterMap (z.cps[·]?)).toArray⟩:Str))=sM z lo hi:=by show-e _ ?_;unfold QP aeQ;rw[p,d];rfl
 rw[a];show#[4,λK k=>#[.str (sM z lo hi),H,I.tok k,#[K,2],q]];rw[<-ZU];show-eh (Txt.slice_le z _ _) n
def Dl(L:X.calm=jx):kB X (.builtin "all") (λy H Q=>∃(p:Addr)(d:List Bool),y=[.ref p]/\aM X.K H p (d.map V.aX)/\Q (.aX (d.all id)) H):=by
 intro w s U H y R Q I r h;let#[p,d,2,N,q]:=h;let#[u,2,e3]:=vals1 r;cases e3;let#[c,t,pl,M]:=I.list N;let f:d.Z=c.Z:=by have:=t.Z;rwa [bQ]at this
 let#[o,n,A,_]:=id pl;let D:p≠s.L:=fH (dO A);let x:X.A.in1.handled=jp:=I.ok.hd L;show-call_all_walk (DW pl.isList ?_);show#[s.L,[s.L,p],[s.L],c.toArray.size,6,λi=>d.getD i jA,2,KG x _ p D c.toArray,#[#[_,g4 _ rfl,2,2],pl.isList.push _],4,λJ G k=>?_]
 .intro i v O F K C B;let l:c[i]?=ja v:=by simpa using C
  let hi:i<c.Z:=(gM.mp l).1;let g:(d.map V.aX)[i]?=ja (V.aX (d.getD i jA)):=by rw[ea,ew (by lia:i<d.Z)];simp[gL,f▸hi]
  let#[P,m,j]:=t.get g;rw[l]at m;cases m;cases j;show-sF B
 let e:(fk c.toArray.size).all (λi=>d.getD i jA)=d.all id:=by
  rw[hY,<-f,ZA];simp only[iw,Bf];constructor
  .intro a b g;let#[i,hi,2]:=Qg.mp g;have:=a i hi;simpa[gL,hi]using this
  intro a i hi;have:=a d[i] (uh hi);simpa[gL,hi]using this
 rw[e];show#[.aX (d.all id),H,I.kept λb E z=>k b E (by simpa using fH (dO z)) (d8 _ z),2,q]
inductive asM(K:aI)(xs:aL)(H:af)(Q:aO):Prop where
 |mk(x c:V)(Sv:String)(t:a5)(b:Bool)(_:xs=[x,c])(_:c=.ty Sv/\pA K H x t/\lU K t (.type Sv)=ja b)(_:Q (.aX b) H)
def vf:kB X (.builtin "isinstance") (asM X.K):=by intro a s U H m l Q I r h;let#[x,c,g,t,b,2,#[2,ty,e],q]:=h;let#[u,k,2,e3,f]:=vals2 r;cases f;show-aiR I e3 ty e λd=>#[.aX b,H,I.tok d,2,q]
mutual
inductive k'(K:aI)(H:af):V->PyData->Prop
 |cw:k' K H .cw .none
 |aX(b:Bool):k' K H (.aX b) (.bool b)
 |int(i:Int):k' K H (.int i) (.int i)
 |str(x:Str):k' K H (.str x) (.str x)
 |lst{a:Addr}{xs:aL}{ds:f_}:aM K H a xs->sZ K H xs ds->k' K H (.ref a) (.list ds)
 |tup{a:Addr}{xs:aL}{ds:f_}:cH K H a xs->sZ K H xs ds->k' K H (.ref a) (.tuple ds)
inductive sZ(K:aI)(H:af):List V->List PyData->Prop
 |nil:sZ K H [] []
 |cons{v:V}{d:PyData}{vs:aL}{ds:f_}:k' K H v d->sZ K H vs ds->sZ K H (v::vs) (d::ds)
end
end
section
variable{X:bA}{pins:dU}{U:St}{H:af}{s:aS}
theorem Oa(I:Inv X pins U H s){d:PyData}(h:k' X.K H v d)(r:RelV v u):∃f,Reads s.heap u d f:=
 k'.rec (motive_1:=λv d _=>∀u,RelV v u->∃f,Reads s.heap u d f) (motive_2:=λvs ds _=>∀m,dM vs m->∃f,ReadsAll s.heap m ds f)
  (λ_ r=>by cases r;show#[_,.none]) (λb _ r=>by cases r;show#[_,.bool b]) (λi _ r=>by let#[t,2]:=r;show#[_,.int i t]) (λx _ r=>by let#[t,2]:=r;show#[_,.str x t])
  (λh _ g u r=>by
   cases r;let#[l,k,#[o,n,e,c,_,d],_]:=I.list h;let#[f,q]:=g _ k;show#[_,.list e c d (by simpa using q)])
  (λh _ g u r=>by
   cases r;let#[l,k,#[o,e,c,n,d],_]:=I.tuple h;let#[f,q]:=g _ k;show#[_,.tuple e c d (by simpa using q)])
  (λ_ r=>by cases r;show#[_,.nil])
  (λ_ _ a b _ r=>by
   cases r with
   |cons r t=>
    let#[f,q]:=a _ r;let#[w,p]:=b _ t;show#[_,.cons q p]) h u r
end
def av.tup{K:aI}(e:av H H')(h:cH K H a xs):cH K H' a xs:=by
 rcases h with(h|⟨o,h⟩)|h
 .exact .inl (.inl (e _ _ h))
 .exact .inl (.inr #[o,e _ _ h])
 show-.inr h
mutual
theorem æ{K:aI}(ax:av H H'):∀{v:V}{d:PyData},k' K H v d->k' K H' v d
 |_,_,.cw=>.cw
 |_,_,.aX b=>.aX b
 |_,_,.int i=>.int i
 |_,_,.str x=>.str x
 |_,_,.lst h ds=>.lst (ax.seq h) (Zg ax ds)
 |_,_,.tup h ds=>.tup (av.tup ax h) (Zg ax ds)
theorem Zg{K:aI}(ax:av H H'):∀{vs:aL}{ds:f_},sZ K H vs ds->sZ K H' vs ds
 |_,_,.nil=>.nil
 |_,_,.cons a b=>.cons (æ ax a) (Zg ax b)
end
section
variable{X:bA}
inductive asN(K:aI)(neg:Bool)(x:al.V)(y:al.V)(H:af)(Q:aO):Prop where
 |mk(d:_)(e:_)(_:k' K H x d)(_:k' K H y e)(_:wB d=jx)(_:wB e=jx)(_:Q (.aX (if neg then !kx d e else kx d e)) H)
def PV(g:X.A.units+64<cLine):hD X (jU .NotEq) (asN X.K jx):=by intro a s U H x y v u Q I b f h;let#[d,e,l,m,k,c,q]:=h;let#[p,o]:=Oa I l b;let#[r,n]:=Oa I m f;show-ne_dataH o n k c g #[.aX _,H,I,2,q]
mutual
theorem ψ:∀d:PyData,d.canLay0=jx->kx d d=jx
 |.none,_=>rfl
 |.bool b,_=>by simp[kx]
 |.int i,_=>by simp[kx]
 |.str x,_=>by simp[kx]
 |.list xs,h=>by simp only[kx];show-Yg xs h
 |.tuple xs,h=>by simp only[kx];show-Yg xs h
 |.dict _,h=>by cases h
theorem Yg:∀ds:List PyData,ta ds=jx->PyData.eqvAll ds ds=jx
 |[],_=>rfl
 |d::r,h=>by simp only[ta,cJ]at h;simp only[PyData.eqvAll,ψ d h.1,Yg r h.2,Bool.and_self]
end
def sI(val:Nat->Str):Nat->Str->Bool
 |0=>λ_=>jA
 |i+1=>λk=>sI val i k||decide (k=val i)
def mb(val:Nat->Str):Nat->Nat
 |0=>0
 |i+1=>if sI val i (val i)then mb val i else mb val i+1
theorem Pg(val:Nat->Str):∀i,mb val i<=i
 |0=>cy _
 |i+1=>by have:=Pg val i;unfold mb;split<;>lia
theorem Zh(val:Nat->Str)(k:Str):∀i,sI val i k=jx↔∃j,j<i/\val j=k
 |0=>by simp[sI]
 |i+1=>by
  simp only[sI,lO,Zh val k i,decide_eq_true_eq];constructor
  .rintro(⟨j,a,e⟩|e)
   .show#[j,9,e]
   show#[i,9,e.J]
  rintro⟨j,a,e⟩;by_cases h:j=i
  .subst h;show-.inr e.J
  show-.inl #[j,9,e]
theorem ω(val:Nat->Str):∀n,(∀i j,i<j->j<n->val i≠val j)->mb val n=n
 |0,_=>rfl
 |n+1,h=>by
  let c:=ω val n λi j a b=>h i j a jQ;let hm:¬sI val n (val n)=jx:=λz=>by let#[j,d,e]:=(Zh val (val n) n).mp z;show-h j n d jQ e
  unfold mb;rw[bL hm,c]
theorem ZV(val:Nat->Str):∀n i j,i<j->j<n->val i=val j->mb val n<n
 |0,_,_,_,h,_=>bk h (J_ _)
 |n+1,i,j,q,s,e=>by
  let c:=Pg val n;by_cases a:j=n
  .subst a;let hm:sI val j (val j)=jx:=(Zh val (val j) j).mpr #[i,q,e];unfold mb;rw[b2 hm]
   lia
  let b:=ZV val n i j q jQ e;unfold mb;split<;>lia
def adv(x:Str)(t:Tok):Q5 x (.str x t)=jx:=by simp[Q5]
end
def ajc{A:et}{R:wA->aS->Prop}{C q:b5}{n:Nat}{x:Nat->a5->Prop}{H:Nat->Heap->Prop}(W:Walks prog w A.in1 I C q n x H)(S:Addr)(f:S∉C)(val:Nat->Str)(J:∀i v,x i v->∃t,v=.str (val i) t)(B:n+1<scanBound):∀(k i:Nat)(s:aS),n-i=k->i<=n->H i s.Q->s.heap.SetOf (strKind prog w) S (sI val i) (mb val i)->
   (∀c l,(∀b o,b≠S->b∉q->s.heap.get? b=ja o->c.get? b=ja o)->c.SetOf (strKind prog w) S (sI val n) (mb val n)->R (.ok (.ret .none)) {s with heap:=c,toks:=l})->
   oV (bj prog w) A (.builtin "set.update.loop" #[[.ref S,.ref I],[]]) R s:=by
 let g:S∉q:=λz=>f (W.sub _ z);let a:∀{h c:Heap}{u:Str->Bool}{m:Nat},(∀o,h.get? S=ja o->c.get? S=ja o)->h.SetOf (strKind prog w) S u m->c.SetOf (strKind prog w) S u m:=λd⟨o,Y,X,t,aY,r⟩=>#[o,Y,X,t,d o aY,r]
 intro k
 induction k with
 |zero=>
  intro i s P hi st j V;obtain rfl:i=n:=by lia
  show-B1 ajo ?_;rw[Jc Ğ _];show aQ _ A.in1 (kE (.ref I) >>=_) _ _ s;show-az (W.done s _ _ st λc l d=>?_);show aQ _ A.in1 (ret iA) _ _ _;show-bu (V c l (λb o _ B e=>d b o B e) (a (λo e=>d S o g e) j))
 |succ k T=>
  intro i s P hi st j V;let D:i<n:=by lia
  show-B1 ajo ?_;rw[Jc Ğ _];show aQ _ A.in1 (kE (.ref I) >>=_) _ _ s;show-az (W.item i s _ _ D st λv ai l Z N d=>?_);let#[t,2]:=J i v Z;let M:=a (λo e=>d S o g e) j;show aQ _ A.in1 (tr [wD (val i) t] (setAdd S (.str (val i) t)) >>=_) _ _ _;show-az (mR ?_);unfold setAdd;show-mR (az ((strKind prog w).pyHash (k:=val i) (adv (val i) t) ?_));let y:mb val i+1<scanBound:=by have:=Pg val i;lia
  refine wpAny_setAddHashed_of (knd:=strKind prog w) (adv (val i) t) rfl M y λak E O=>?_;show-bu #[Nk Ğ _,T (i+1) _ jQ D (W.frame _ _ _ N λb U o e=>(E.2 b λz=>f (z▸U)).trans e) O λQ L K p=>?_];show-V Q L (λb o G F e=>K b o G F ((E.2 b G).trans (d b o F e))) p
set_option maxHeartbeats 8000000 in
def agp{A:et}{E:cL}{s:aS}{a:mm}{val:Nat->Str}{Q:cL}(U:A.handled=jp)(q:s.heap.IsList l a)(J:∀(i:Nat)(v:a5),a[i]?=ja v->∃t,v=.str (val i) t)(P:a.size+1<scanBound)(h:∀(f:Heap)(g:Nat),f.SetOf (strKind prog w) s.heap.objs.size (sI val a.size) (mb val a.size)->(∀b o,s.heap.get? b=ja o->f.get? b=ja o)->Q (.ref s.L) {s with heap:=f,toks:=g}):
  aQ (bj prog w) A (call (.type "set") [.ref l]) Q E s:=by
 let#[c,eC,M]:=F.called_set.mro;let e2:=F.called_set.made;let hc:=F.called_set.sub;let xj:=F.called_set.notType;let Z:=F.called_set.canCreate;let CO:=F.typeCall_set_1 (.ref l);show-sE (auc ?_);show aQ _ _ (callAny (.type "set") _) _ _ _;show-bu #[Pa _ qL,B1 F.entry_type_call ?_];rw[Around.under_plain (weight_type_call_type "set" [.ref l] []) rfl]
 repeat (any_goals (first|assumption|wp_step))
 generalize m:s.L=S at *;show-qy (code_set_new_1 (.ref l) (E:=E) (Q₁:=λx C=>∃d:Bool,x=.ref S/\C={s with heap:=s.heap.push {cls:=.type "set",dict:=jp,data:=.set #[] 0 (.fresh 0 0 d)}}) λd=>#[d,by rw[m],2]) λr C y=>?_;cases r with
 |error e=>show-y
 |ok ez=>
  cases ez with
  |ret x=>
   let#[d,2,2]:=y;let I:(s.heap.push {cls:=.type "set",dict:=jp,data:=.set #[] 0 (.fresh 0 0 d)}).get? S=ja {cls:=.type "set",dict:=jp,data:=.set #[] 0 (.fresh 0 0 d)}:=by rw[<-m];exact g4 _ rfl
   let Y:ŏ {s with heap:=s.heap.push {cls:=.type "set",dict:=jp,data:=.set #[] 0 (.fresh 0 0 d)}} (.ref S) "set":=#[_,I,2]
   let ej:=F.called_set.init.lookup;let er:=F.called_set.init.bind (.ref S)
   repeat (any_goals (first|assumption|wp_step))
   show-qy (FR (R:=wants (λr D=>r=.none/\∃f g,D={s with heap:=f,toks:=g}/\f.SetOf (strKind prog w) S (sI val a.size) (mb val a.size)/\(∀b o,s.heap.get? b=ja o->f.get? b=ja o)) E)
    F.called_set.init.plain F.entry_set_init (check_set_init_1 Y ?_)) λX D n=>?_
   .let#[#[lF,ek,T,nx],B,V,nl,H]:=id q;simp only at V H;subst V H;let O:=d8 (h:=s.Q) {cls:=.type "set",dict:=jp,data:=.set #[] 0 (.fresh 0 0 d)} B;let fM:=F.sub_list_set;let fz:=F.sub_list_frozenset;let lG:(FA "list"==FA "dict")=jA:=by decide
    let u:=q.push (o:={cls:=.type "set",dict:=jp,data:=.set #[] 0 (.fresh 0 0 d)});unfold Builtin.«set.__init__» noKeywords aAL;generalize K:Hu=m1
    wp_walk
    subst K;show-DW u (az (wpAny_runValue ?_));let k:l<S:=by rw[<-m];show-dO B
    let hsz:(s.heap.push {cls:=.type "set",dict:=jp,data:=.set #[] 0 (.fresh 0 0 d)}).objs.size=S+1:=by rw[uc,m]
    show-ajc (KG (A:=A.in1.in1.in1) (by simp[U]) _ l (by rw[hsz];show-fH (wo k)) a) S ?_ val J P (a.size-0) 0 _ jQ (ei _) #[#[_,g4 _ rfl,2,2],u.push _] ?_ ?_
    .rw[hsz];simp only[dQ,ee,or_false,not_or];show#[fH (yK _),wq k]
    .let L:=d8 (h:=s.heap.push {cls:=.type "set",dict:=jp,data:=.set #[] 0 (.fresh 0 0 d)}) {cls:=.type "list_iterator",data:=.fields (List.toArray [.ref l,.int 0 0])} I;exact(aA1 (knd:=strKind prog w) d).setOf L (by unfold scanBound;lia)
    intro f g N p;show aQ _ _ _ _ _ _;show-bu ?_;show aQ _ _ (ret iA) _ _ _;show-bu #[2,f,g,2,p,λb o e=>?_];let G:b<S:=by rw[<-m];show-dO e
    show-N b o (fH G) (λz=>fH (wo G) (by rw[hsz]at z;simpa using z)) (d8 _ (d8 _ e))
   cases X with
   |error e=>show-n
   |ok j=>
    cases j with
    |ret r=>
     let#[2,f,g,2,p,N]:=n
     repeat (any_goals (first|assumption|wp_step))
     show-h _ _ p N
    |_=>show-n.elim
  |_=>show-y.elim
def KI(P:cx)(w:b0)(a:Addr)(n:Nat):hX:=.ext λh=>∃S,h.SetOf (strKind P w) a S n
section
variable{X:bA}
def aks(L:X.calm=jx):kB X (.type "set") (λy H Q=>∃(p:Addr)(a:bY),y=[.ref p]/\aM X.K H p (a.map V.str)/\a.Z<1000/\∀q,H q=jp->Q (.ref q) (upd H q (KI X.prog X.w q (mb (λi=>a.getD i pN) a.Z)))):=by
 intro w s U H y Z Q I r h;let#[p,a,2,N,J,q]:=h;let#[u,2,e3]:=vals1 r;cases e3;let#[c,l,pl,T]:=I.list N;let b:a.Z=c.Z:=by have:=l.Z;rwa [bQ]at this
 let hsz:c.toArray.size=a.Z:=by rw[b];rfl
 show-agp (val:=λi=>a.getD i pN) (I.ok.hd L) pl.isList (λi v e=>?_) (by rw[hsz];unfold scanBound;lia) λR M f x=>?_
 .let k:c[i]?=ja v:=by simpa using e
  let n:i<a.Z:=by rw[b];exact(gM.mp k).1
  let K:(a.map V.str)[i]?=ja (V.str (a.getD i pN)):=by rw[ea,ew n];simp[gL,n]
  let#[Y,g,m]:=l.get K;rw[k]at g;cases g;show-m
 rw[hsz]at f;show#[.ref s.L,_,I.laid x (cy _) ?_,2,q _ (I.bC.fresh (cy _))];let#[o,P,O,t,aY,m]:=id f;show#[#[_,f],#[o,aY],λF G⟨A,j,E,C,D,B,z⟩d=>#[A,j,E,C,D,d _ B,z]]
def afT:kB X (.builtin "len") (λf H Q=>∃q n,f=[.ref q]/\H q=ja (KI X.prog X.w q n)/\Q (.int n) H):=by
 intro d s U H f y Q I r h;let#[a,n,2,l,q]:=h;let#[u,2,e3]:=vals1 r;cases e3;let#[#[S,o,c,w,t,aY,hex,m,6,g,k,p],6]:=(show fh X.prog X.w H s.heap a (KI X.prog X.w a n)from I.bC a _ l)
 subst p;let b:(c.size:Int)<2 ^ 63:=by unfold scanBound at g;lia
 show-call_len_set aY hex m k b #[.int c.size,H,I.tok _,#[1],q]
def anV{h:Heap}(x:fh P w H h a o):∃b,h.get? a=ja b:=by
 cases o with
 |lst xs=>let#[6,6,e]:=x;show#[_,e]
 |tup xs=>let#[6,_,b,e,_]:=x;show#[b,e]
 |cO kvs=>let#[6,6,b,6,e,_]:=x;show#[b,e]
 |dA kvs=>let#[6,6,b,6,e,_]:=x;show#[b,e]
 |set S n=>let#[b,6,_,e,_]:=x;show#[b,e]
 |ins C ah fs=>let#[6,_,e,_]:=x;show#[_,e]
 |own y=>let#[b,e]:=x;show#[b,e]
 |Oq fs=>let#[_,#[b,6,e,_],_]:=x;show#[b,e]
 |Nw lo i=>let#[6,_,e]:=x;show#[_,e]
 |fi b u=>let#[e,_]:=x;show#[_,e]
 |su j=>show#[_,(show h.get? a=ja _ from x)]
 |met f y=>show#[_,(show h.get? a=ja _ from x)]
 |ext c=>let#[_,#[b,e],_]:=x;show#[b,e]
def akt{H:af}{h:Heap}(ok:gK P w H h)(e:h.get? a=jp):H a=jp:=by
 cases q:H a with
 |none=>rfl
 |some o=>
  let#[b,z]:=anV (ok a o q);rw[e]at z;cases z
structure lA(P:cx)(w:b0)(fr:List Env)(H:af)(s:aS)(aH:Addr)(cls a0:a5)(H':af)(B:Heap)(s':aS):Prop where
 ez:ub B fr aH cls a0 s'.Q
 os:s'.os=s.os
 bare:tY s'.gens
 ok:gK P w H' B
 un:iO (fa fr) [] H H' s.heap s'.Q
 h3:∀b o,s.heap.get? b=ja o->b∉fa fr->∃cN,B.get? b=ja cN/\(H b=jp->cN=o)
def dn(P:cx)(w:b0):oJ:=λd H s E e f=>∃(b:Addr)(a c:a5)(H':af)(B:Heap),e=.ref b/\lA P w d H s b a c H' B f/\E a jp H'
end
section
variable{P:cx}{w:b0}{fr:List Env}{H H':af}{s s':aS}{aH:Addr}{cls a0:a5}{B:Heap}
def lA.move(T:lA P w fr H s aH cls a0 H' B s'){d:Heap}(l:ub B fr aH cls a0 d)(r:s'.heap.UpToSlots d):lA P w fr H s aH cls a0 H' B {s' with heap:=d}:=by
 show#[l,T.os,T.bare,T.ok,#[λb o e n a f=>?_,λb o e n a f=>?_,T.un.free,λb o e f=>?_,T.un.gZ,T.un.jq,T.un.jO],T.h3]
 .let#[g,z,q]:=T.h3 b o e a;rw[q n]at z;show-l.1 b o z
 .let#[y,z]:=T.un.slot b o e n a f;let#[_,t,c,m]:=T.ez.2.2.1.mem a;rw[z]at c;cases c;let#[p,k]:=r b _ z m;show#[p,k]
 by_cases a:b∈fa fr
 .let#[_,t,c,m]:=T.ez.2.2.1.mem a;let#[p,k]:=r b _ c m;show#[_,k]
 let#[g,z,_]:=T.h3 b o e a;show#[g,l.1 b g z]
def lA.bC(T:lA P w fr H s aH cls a0 H' B s'):gK P w H' s'.Q:=(T.ok.kept λb u e=>T.ez.1 b u e)
def lA.new(T:lA P w fr H s aH cls a0 H' B s'):H' aH=jp:=(akt T.ok T.ez.2.1)
def lA.ayh(T:lA P w fr H s aH cls a0 H' B s')(e:s.heap.get? b=ja o):b≠aH:=by
 rintro rfl;by_cases a:b∈fa fr
 .let#[_,l,c,g]:=T.ez.2.2.1.mem a;let#[m,vs,f,_,d,_]:=T.ez.first;rw[f]at c;cases c;show-g vs d
 let#[k,z,_]:=T.h3 b o e a;rw[T.ez.2.1]at z;cases z
end
section
variable{P:cx}{w:b0}{K:aI}{mg:b6}{base:Heap}{N:bY}{qual:Str}{scope:Scope}{f:Addr}{cdv:a5}{A:et}{outer:List Env}{s:aS}{H:af}{E:bF}
abbrev eI(P:cx)(w:b0)(K:aI)(mg:b6)(base:Heap)(N:bY)(qual:Str)(scope:Scope)(f:Addr)(cdv:a5)(A:et)(outer:List Env)(s:aS)(H:af)(E:bF):bA:=
 j3 (dn P w) P w K mg base N qual scope f cdv A outer s H E
theorem Ad(I:Inv (!eI) pins U H1 s1){b:Addr}(e:s.heap.get? b=ja o)(a:b∉fa outer):
  b∉fa (!eI).stack:=λz=>by
 rcases dQ.mp (I.DF b z)with q|q
 .let l:=dO e;let c:s.L<=b:=by have:=I.ok.above;rwa[<-q]at this
  show-qp _ (jk l c)
 show-a q
def agM{k:aS}{B:Heap}(I:Inv (!eI) pins U H1 k)(p:τ k.heap B x cls vs)(F:E cls jp H1):(!eI).dN (.ref x) {k with heap:=B}:=by
 let M:=I.ok.frames;let J:∀d∈(!eI).stack,∀b,d.frame=ja b->b∈fa (!eI).stack:=λd G b a=>JX.mpr #[d,G,a];let i:∀b o,H1 b=ja o->b∉fa (!eI).stack:=λb o e z=>by rw[I.NS b z]at e;cases e
 refine wpAny_leaves_madeW (base:=nS k.heap (fa (!eI).stack)) M rfl (λb o q=>QA _ q) (ajE I.stack J) p λO t L R T D=>?_;let h3:∀b o,k.heap.get? b=ja o->b∉fa (!eI).stack->(nS k.heap (fa (!eI).stack)).get? b=ja o:=λb o e n=>Ku _ e n;show#[x,cls,.ref t,H1,1,#[L,I.os,I.bare,λb h e=>(I.bC b h e).pn (λc u r q=>h3 c u q ?_) (λ_ q=>q) λ_ _ q=>q,#[λb o e n a l=>?_,λb o e n a l=>?_,I.base.free,λb o e l=>?_,I.base.gZ,I.base.jq,I.base.jO],λb o e a=>?_],F]
 .rcases r with rfl|r
  .exact i c _ e
  show-i c _ r
 .exact L.1 b o (h3 b o (I.base.keep b o e n a l) (Ad I e a))
 .let#[Q,z]:=I.base.slot b o e n a l;let#[_,h,m,V]:=I.l0.mem a;rw[z]at m;cases m;let#[C,y]:=D b _ (p.keeps _ _ z) V;show#[C,y]
 .let#[g,z]:=I.base.there b o e l;by_cases a:b∈fa outer
  .let#[_,h,m,V]:=I.l0.mem a;let#[C,y]:=D b _ (p.keeps _ _ m) V;show#[_,y]
  show#[g,L.1 b g (h3 b g z (Ad I e a))]
 let#[g,z]:=I.base.there b o e (by simp[eI,j3]);show#[g,h3 b g z (Ad I e a),λn=>?_];let j:=I.base.keep b o e n a (by simp[eI,j3]);rw[z]at j;show-gN j
def jn:om (dn P w) (!eI) E:=by
 rintro V U F Y e X I ⟨C,m,j,H',B,rfl,T,J⟩;refine az9 I.ok.frames rfl T.ez λak l O=>?_;let h:iO (fa (!eI).stack) [] F H' Y.heap X.Q:=T.un;let r:∀b o,s.heap.get? b=ja o->b∉fa outer->∃c,B.get? b=ja c/\(H b=jp->c=o):=λb o e a=>by let#[o1,z]:=I.base.there b o e (by simp[eI,j3]);let#[c,p,q]:=T.h3 b o1 z (Ad I e a);show#[c,p,λn=>?_];let g:=I.base.keep b o e n a (by simp[eI,j3]);rw[z]at g;cases g;show-q (I.base.free b _ e n (by simp[eI,j3]))
 show#[C,m,j,H',B,2,#[l,T.os.trans I.os,T.bare,T.ok,#[λb o e n a d=>?_,λb o e n a d=>?_,λb o e n d=>?_,λb o e d=>?_,λb i q=>T.un.gZ b i (I.base.gZ b i q),λb o u q=>T.un.jq b o u (I.base.jq b o u q),λb Q q=>?_],r],J]
 .let#[c,z,q]:=r b o e a;rw[q n]at z;show-l.1 b o z
 .let#[bz,z]:=I.base.slot b o e n a d;let t:b∈fa (!eI).stack:=by show b∈fa (_::outer);unfold fa;rw[ER];show-nO _ a
  let#[Z,g]:=h.slot b _ z (I.base.free b o e n d) t qv;let#[_,L,k,y]:=T.ez.2.2.1.mem t;rw[g]at k;cases k;let#[R,p]:=O b _ g y;show#[R,p]
 .let#[o1,z]:=I.base.there b o e d;exact h.free b o1 z (I.base.free b o e n d) qv
 .by_cases a:b∈fa outer
  .let#[_,L,k,y]:=l.2.2.1.mem a;show#[L,k]
  let#[c,z,_]:=r b o e a;show#[c,l.1 b c z]
 let#[G,x]:=I.base.jO b Q q;let#[M,D]:=T.un.jO b _ x;show#[G++M,by rw[D,Ej]]
structure Exc(K:aI)(mg:b6)(x:Str)(C:Addr)(bm:en)(fy:String):Prop where
 bound:mg x=ja (.ref C)
 obj:uw K C bm fy=jx
def Exc.own(e:Exc K mg x C bm i)(X:K.In h):OwnCls x C bm i mg h:=by
 show#[e.bound,4];let q:=e.obj;unfold uw at q;split at q
 .rename_i t y p aY;split at q
  .rename_i M k V j u z n B hm g;simp only[cJ,rM,mf]at q;obtain⟨⟨⟨⟨⟨rfl,rfl⟩,d⟩,r⟩,a⟩,c⟩:=q;let#[F,o,D,G,J,L,I,sub,l,b,del]:=y;dsimp only at hm d a c;subst hm d;let#[m]:=p;simp only at g;subst g;show#[k,G,F,J,o,L,I,sub,l,b,t,V,j,u,z,B,_,X _ _ aY,.of_isNs (PySem.W.isNs_of_in X a),PySem.W.nsMap_none_of_in X a c,PySem.W.tail_of_in X r]
  cases q
 cases q
def anW(C:Addr)(E:bF)(b:fR):fJ:=λ_ U H=>b U H λvs a=>vs.Z<=sizeLine/\E (.ref C) jp a
def oZ{g:Pos}{d:Expr}{a:hO}{k:fR}(F:oK B e X bm)(O:Exc K mg x C bm e)(i:jR (!eI) x)(p:fI (!eI) (d::a) k)(j:(x==("__debug__":Str))=jA:=by decide)(l:dh (d::a) (!eI).env=(jA,eval d (!eI).env)::dh a (!eI).env:=by rfl)(fV:(hE g (dh a (!eI).env)).any (·.1)=jA:=by rfl):
  i7 (!eI) (.Raise (ja (.Call (.Name x np) (d::a) [] g)) jp pos) (anW C E k):=by
 intro b u U o D I h;let#[r,G,nm,q,bs,hdct,sn,sub,ab,col,dd,k0,k1,k2,k3,k5,mN,L,y,n,T]:=(O.own I.mod.tF).obj;let J:uw K C bm e=jx:=O.obj;refine wpAny_Raise_call_subT (C:=C) (nm:=nm) (q:=q) (N:=G) (bs:=bs) (bm:=r) (hdct:=hdct) (sn:=sn) (sub:=sub) (ab:=ab) (col:=col) (dd:=dd) (k0:=k0) (k1:=k1) (k2:=k2) (k3:=k3) (k5:=k5)
  F (mN:=mN) (T.hasType F.hasBase) (I.ok.hd rfl) ?_ n (vq I i O.bound #[2,4] j)
 .rw[l];show(jA||(hE g (dh a (!eI).env)).any (·.1))=jA;rw[fV];rfl
 let m:=p g b u U o _ I h;rw[l]at m⊢;show-Ji (bT m λZ Y⟨vs,Q,c,t,z,V⟩=>#[2,by rwa[<-t.Z],c.i8 _ _ L,y.keeps c.i8,T.keeps c.i8,λR M hm=>agM c hm V])
def iH{st:Stmt}{a:bY}{k:Nat}{sp:fu}(F:b1 K x qual st f fd)(S:cp N a (bW st))(l:∀(cdv:a5)(A:et)(outer:List Env)(s:aS)(H:af)(vs:aL)(Q:aO)(E:bF),gU k (A.deeper (qD qual (bW st) s.heap.objs.size f cdv))->sp vs H Q E->
   ∃t,ie (-eI N qual (bW st) f cdv A outer s H E) (mx st) t/\t {dq:=λ_ H'=>Q .cw H',gz:=Q} (start N vs) H)(len:∀vs H Q E,sp vs H Q E->vs.Z=a.Z:=by intro _ _ _ _ h;first|(cases h<;>subst_vars<;>rfl)|((repeat let#[_,h]:=h);subst_vars;rfl)|(cases h.1;subst_vars;rfl)):-aA (dn P w) (k+1) f fd a sp:=by let#[p,n,ec,c,y,m,cdv,o,r,2,lk,d]:=F.ex;show-QI lk d S len λA outer s H vs Q E b g=>l cdv A outer s H vs Q E b g
end
def KH(X:bA)(b:dU)(U:St)(E:bF)(e:a5)(k:aS):Prop:=
 ∃(d:af)(f:aS)(c:Addr)(a g:a5)(H':af)(B:Heap),e=.ref c/\Inv X b U d f/\lA X.prog X.w X.stack d f c a g H' B k/\E a jp H'
abbrev yQ:=bF->TE
abbrev tc:=Ends->(St->bF)->St->af->Prop
def Ě(X:bA)(e:Expr)(t:yQ):Prop:=
 ∀(a:dU)(s:aS)(U:St)(H:af)(Q:aO)(E:bF),Inv X a U H s->t E U H Q->aQ (bj X.prog X.w) X.A (eval e X.env) (jh X a U Q) (KH X a U E) s
def Ĝ(X:bA)(st:Stmt)(t:tc):Prop:=
 ∀(a:dU)(s:aS)(U:St)(H:af)(D:Ends)(E:St->bF),Inv X a U H s->t D E U H->aQ (bj X.prog X.w) X.A (exec st X.env) (uy X a D) (λe c=>∃b,KH X a b (E b) e c) s
def aaX(X:bA)(c:List Stmt)(t:tc):Prop:=
 ∀(a:dU)(s:aS)(U:St)(H:af)(D:Ends)(E:St->bF),Inv X a U H s->t D E U H->aQ (bj X.prog X.w) X.A (execs c X.env) (uy X a D) (λe d=>∃b,KH X a b (E b) e d) s
section
variable{X:bA}{e o:Expr}{es:hO}{pos fS p:Pos}{k:Nat}{f C:Addr}{fd:nM}{ps:bY}{sp:fu}{cu:TE}{t:fR}{m x:Str}
def aml(F:aA X.prog X.w X.K X.mg X.base (dn X.prog X.w) k f fd ps sp)(n:gU k X.A)(l:Binds X.K fd ps [])(I:Inv X pins U H s)(r:dM vs us)(h:sp vs H Q E):aQ (bj X.prog X.w) X.A (call (.ref f) us) (jh X pins U Q) (KH X pins U E) s:=by
 let w:(us++[]).Z=ps.Z:=by rw[kK,<-r.Z];show-F.len _ _ _ _ h
 let c:=l s us I.e1 w;rw[kK]at c;show-sE (qy (F.run X.A X.stack s H #[us,[]] us vs Q E n I.F2 c r h) λr A a=>?_);cases r with
 |error e=>
  let#[g,b,d,H',B,2,T,y]:=a;show#[H,s,g,b,d,H',B,2,I,T,y]
 |ok ez=>
  cases ez with
  |ret u=>show-I.after a
  |next=>show-i6 a
  |brk=>show-i6 a
  |cont=>show-i6 a
theorem xt{a:Type}{X:bA}{pins:dU}{M:mY}{c:Sem a}{Q:a->aS->Prop}{E:cL}(h:aQ M A c Q (λ_ _=>False) s):aQ M A c Q E s:=
 gB h (λ_ _ q=>q) λ_ _ z=>i6 z
def ń(C:Addr)(m:Str)(sp:fu)(cu:TE)(t:fR):yQ:=λE=>QH C m sp [] E cu t
def amm{pl:Sem Bool}(G:a' X.vn o cu)(c:ef X.K C)(hm:Meth X.K C m f)(F:aA X.prog X.w X.K X.mg X.base (dn X.prog X.w) k f fd ps sp)(i:gU k X.A)(L:Binds X.K fd ps [])(A:fI X.vn (e::es) t)(J:dh (e::es) X.env=(jA,eval e X.env)::dh es X.env:=by rfl)(fV:(hE pos (dh es X.env)).any (·.1)=jA:=by rfl)(z:eval (.Call (.Attribute o m fS) (e::es) [] pos) X.env=(do
   let w <-eval o X.env
   vC fS.atName
   let(f,first) <-tr [w] (zj w m pl)
   y1 pos f first (hE pos (dh (e::es) X.env)) (n3 pos (ot [] X.env))):=by rfl):
  Ě X (.Call (.Attribute o m fS) (e::es) [] pos) (ń C m sp cu t):=by intro pins s U H Q E I h;show-Fd (pl:=pl) (xt (X:=X) (pins:=pins) (bT (G pins s U H _ (I.mQ _) h) λu M d=>?_)) z;let#[x,y,b,j,a,O,P,D,K,l,q]:=d;subst D;obtain rfl:u=c1 a:=j;let b:=b.pw;show-Hj b K c hm l ?_;show-BC (first:=[.ref a]) (h₀:=X.base) I.ok.mod.tF hm.fL (xt (X:=X) (pins:=pins) (bT (A pos pins M U y _ (b.mQ _) q) λus R d=>?_)) J fV;let#[vs,N,n,r,B]:=d;show#[n.pw.e1,4];show-aml (us:=.ref a::us) (vs:=.ref a::vs) F i L n.pw (.cons rfl r) ?_;let g:sp (V.ref a::(vs++[])) N Q E:=B;rwa[kK]at g
def anY(b:yQ):tc:=λD E U H=>b (E U) U H λ_ a=>D.dq U a
def aku{st:Stmt}{t:tc}(b:Ĝ X st t):aaX X [st] t:=by
 intro a s U H D E I h;show-YC (bT (b a s U H D E I h) λf c q=>?_);cases f with
 |next=>show-AD q
 |ret v=>show-q
 |brk=>show-q
 |cont=>show-q
end
def yt(a C:Addr):hX:=.ext λh=>∃o,h.get? a=ja o/\o.cls=.ref C
def o'(K:aI)(C R:Addr):Bool:=match K.lookup C with
 |some ⟨.type "type",_,.cls e,bz⟩=>(match e.mro,bz.G with
  |.ref h::bm,[_,_,_,_,ja (.builtin _),_]=>h==C&&!e.hasDel&&bm.contains (.type "BaseException")&&(c1 C::bm).contains (.ref R)
  |_,_=>jA)
 |_=>jA
def afL{K:aI}{h:Heap}{C:Addr}(X:K.In h)(q:o' K C R=jx):∃t y N g b c w sub d a k l m o p r u,
  h.get? C=ja (B8 t y C N g b c w sub d a k l m o p r u)/\b.contains (.type "BaseException")=jx/\(c1 C::b).contains (.ref R)=jx:=by
 unfold o' at q;split at q
 .rename_i k s j aY;split at q
  .rename_i D b l m o p n r hm L;simp only[cJ,mf]at q;obtain⟨⟨⟨f,A⟩,V⟩,i⟩:=q;let f:=rM.mp f;subst f;let#[t,g,z,B,y,x,w,sub,d,a,del]:=s;dsimp only at hm A;subst hm A;let#[e]:=j;simp only at L;subst L;show#[t,y,B,g,b,x,w,sub,d,a,k,l,m,o,p,r,n,X _ _ aY,V,i]
  cases q
 cases q
def ç{M:mY}{E:cL}{K:aI}{s:aS}{k:Obj}{Q:Bool->aS->Prop}(X:K.In s.Q)(q:o' K C R=jx)(j:o' K R R=jx)(O:s.heap.get? h=ja k)(n:k.cls=.ref C)(G:Q jx s):aQ M A (excMatches (.ref h) (.ref R)) Q E s:=by
 let#[nm,xC,N,bs,Z,c,sn,sub,T,H,dd,k0,k1,k2,k3,k5,fy,J,U,a]:=afL X q;let#[B,z,P,u,l,V,D,F,i,x,oW,o,p,r,w,y,e,b,I,L]:=afL X j;let m:(c1 R::l).contains (.type "BaseException")=jx:=by rw[ahP,I,af1]
 let f:=tc_notTuple;let#[Y,g,d,t,os]:=s;unfold excMatches
 repeat (first|(with_reducible show-me O ?_;rw[n])|with_reducible refine me b ?_|(with_reducible show-YF b ?_;rw[m])|(with_reducible show-YF J ?_;rw[a])|wp_step)
 show-G
abbrev xy(X:bA)(a:Addr):bA:={X with A:=X.A.mark (ja (.ref a)),calm:=jA,dN:=λ_ _=>False}
section
variable{X:bA}{pins:dU}{U:St}{H:af}{s:aS}
theorem Inv.tO(I:Inv X pins U H s)(a:Addr):Inv (xy X a) pins U H s:=
 #[#[I.ok.mod,I.ok.kind,I.ok.glob,I.ok.blt,I.ok.above,I.ok.inj,I.ok.has,I.ok.y0,λz=>bk (show jA=jx from z) hB,I.ok.frames,I.ok.tN,I.ok.LD,I.ok.bs,I.ok.tf,I.ok.zV,I.ok.B9,I.ok.l0,I.ok.uW],I.os,I.bare,I.base,I.loc,I.cell,I.free,I.oY,I.pin,I.bC,I.len]
theorem Inv.Io(a:X.calm=jx->X.A.handled=jp)(I:Inv (xy X e) pins U H s):Inv X pins U H s:=
 #[#[I.ok.mod,I.ok.kind,I.ok.glob,I.ok.blt,I.ok.above,I.ok.inj,I.ok.has,I.ok.y0,a,I.ok.frames,I.ok.tN,I.ok.LD,I.ok.bs,I.ok.tf,I.ok.zV,I.ok.B9,I.ok.l0,I.ok.uW],I.os,I.bare,I.base,I.loc,I.cell,I.free,I.oY,I.pin,I.bC,I.len]
def Inv.forget{w:Heap}{Q:Nat}{i:Nat}{x:Str}(I:Inv X pins U H s)(G:X.N.Nodup)(K:X.N[i]?=ja x)(a:j7 X.env.locals s.heap w)(T:∀m,s.heap.Ns X.env.locals m->∃v,w.Ns X.env.locals (λy=>if y=x then v else m y)):Inv X pins (U.set i jp) H {s with heap:=w,toks:=Q}:=by
 let#[m,M,h]:=id I.loc;let#[v,P]:=T m M;let N:=I.rU;let l:∀b o,X.fD.heap.get? b=ja o->b≠X.env.locals:=λb o e=>fH (jk (dO e) I.ok.above);let V:i<U.Z:=by rw[I.len];exact(gM.mp K).1
 show#[I.ok,I.os,I.bare,#[λb o e n r f=>(a.2 b (l b o e)).trans (I.base.keep b o e n r f),λb o e n r f=>?_,I.base.free,λb o e f=>?_,I.base.gZ,I.base.jq,I.base.jO],#[_,P,λj y u A g E=>?_],λy c e=>?_,I.free,I.oY,λp B=>?_,amj I.bC I.free a,by simpa using I.len]
 .let#[C,z]:=I.base.slot b o e n r f;show#[C,(a.2 b (l b o e)).trans z]
 .let#[D,z]:=I.base.there b o e f;show#[D,(a.2 b (l b o e)).trans z]
 .by_cases t:j=i
  .subst t;rw[Ò V]at g;cases g
  rw[JT (dG t)]at g;let#[R,F,q]:=h j y u A g E;show#[R,F,4];rcases q with⟨k,e⟩|⟨k,c,e,z⟩
  .refine .inl #[k,4];have:y≠x:=λe=>t (Zk G A (e▸K));simp[this,e]
  show-.inr #[k,c,e,z.sameBut a (N y c e)]
 .let#[J,z]:=I.cell y c e;show#[J,z.sameBut a (N y c e)]
 let#[e,n,L,O,d]:=I.pin p B;show#[(a.2 p.1 L).trans e,n,L,O,d]
end
def lA.inv{X:bA}{f:aS}(w:Inv X pins U i sc)(a:lA X.prog X.w X.stack i sc h cls j H' B f)(p:fh X.prog X.w (upd H' h u) f.heap h u):Inv X pins U (upd H' h u) f:=by
 let g:∀b o,sc.heap.get? b=ja o->b≠h:=λb o e=>a.ayh e;let d:=a.new;show-w.Lm (s':=f) (ch:=[]) a.os #[a.un.keep,a.un.slot,λb o e r n=>by rw[aJ (g b o e)];show-a.un.free b o e r n,a.un.there,λb l e=>?_,λb o u e=>?_,λb t e=>?_] ?_ a.bare (λb z=>bk z qv)
 .have:=a.un.gZ b l e;rwa[aJ (cI this d)]
 .have:=a.un.jq b o u e;rwa[aJ (cI this d)]
 .let#[m,this]:=a.un.jO b t e;show#[m,by rwa[aJ (cI this d)]]
 intro b v e;by_cases k:b=h
 .subst k;rw[aN]at e;cases e;show-p
 rw[aJ k]at e;exact(a.bC b v e).pn (λc v _ q=>q) (λc q=>by rwa[aJ (cI q d)]) λc l q=>by rwa[aJ (cI q d)]
def NL{X:bA}{k:St}{i:Nat}{l:aS->Prop}(I:Inv X pins U H s)(u:X.N.Nodup)(x:X.N[i]?=ja n)(K:X.env.scope.names.lookup n=ja .local)(z:Inv (xy X B) pins k e h)(N:∀b,Inv X pins (k.set i jp) e b->l b):
  aQ (bj X.prog X.w) X.A (do bindName X.env n .none;unbindBehindTheSuite X.env n j) (λ_ b=>l b) X.dN h:=by
 let L:(X.env.scope.kind==.class||(X.env.scope.kind==.module&&X.env.locals !=X.env.globals))=jA:=by rw[I.ok.kind];rfl
 let t:Inv X pins k e h:=Inv.Io I.ok.hd z;let#[m,p,_]:=id t.loc;show-wpAny_nameGoes_keeps K p L λF v f g=>N _ (Inv.forget t u x g λq c=>?_);let em:q=m:=by let#[o,E,D,w,A,_,V]:=p;let#[C,J,G,r,a,_,d]:=c;rw[w]at r;cases r;rw[A]at a;cases a;funext y;rw[<-V y,<-d y]
 subst em;show#[v,f]
def asO(K:aI)(g:tc)(i:Nat)(R:Addr)(f:fJ):fJ:=λD U H=>g D (λk d _ H'=>∃C,d=.ref C/\o' K C R=jx/\∀c,H' c=jp->
 f {dq:=λb a=>D.dq (b.set i jp) a,gz:=D.gz,i8:=λb a=>D.i8 (b.set i jp) a,gd:=λb a=>D.gd (b.set i jp) a} (k.set i (ja (.ref c))) (upd H' c (yt c C))) U H
def anZ{X:bA}{d:List Stmt}{Z:Stmt}{tO:List Stmt}{P:tc}{i:Nat}(N:X.stack=X.env::X.outer)(Ul:X.env.frame=ja X.env.locals)(ae:aaX X d P)(w:X.N.Nodup)(y:X.N[i]?=ja n)(p:X.env.scope.names.lookup n=ja .local)(hg:jR X x)(hm:X.mg x=ja (.ref R))(cW:o' X.K R R=jx)(UY:∀c,ie (xy X c) (Z::tO) bB)(jr:(x==("__debug__":Str))=jA:=by decide):i7 X (.Try d [.ExceptHandler (ja (.Name x np)) (ja n) (Z::tO) adf] [] [] pos) (asO X.K P i R bB):=by
 intro a s U H D I h;show-az4 (gB (ae a s U H D _ I h) (λf L q=>?_) λe L q=>?_)
 .cases f with
  |next=>show-AD q
  |ret v=>show-q
  |brk=>show-q
  |cont=>show-q
 let#[rm,cn,sc,c,cls,a0,H',B,2,yg,T,C,2,kA,k]:=q;let zo:X.A.frames=ja (X.env::X.outer):=by rw[<-N];show-I.ok.frames
 let J:=T.ez;rw[N]at J;show-afo zo Ul J λcT Uh Ip=>?_;show-afn Uh λQ F Yh=>?_;let G:=F;rw[<-N]at G;let A:=T.move G (Ip.trans Yh);let Y:Inv X a rm H' {L with heap:=Q}:=yg.Lm (s':={L with heap:=Q}) (ch:=[]) A.os A.un A.bC A.bare (λb z=>bk z qv);let#[ob,qJ,UM]:=F.there;show-az7 (aub (vq (X:=xy X c) (bX.Inv.tO Y c) hg hm ?_ jr)) (by intro q;cases q);show-ç Y.e1 kA cW qJ UM ?_;show-codeAny_handlers_suite_as (lands_againW F λij M Yi=>?_);let O:=M;rw[<-N]at O;let m7:=A.move O Yi;let#[t,r,V]:=M.there;let eD:=T.new;let ue:Inv X a rm (upd H' c (yt c C)) {L with heap:=ij}:=lA.inv yg m7 #[#[t,r,V],#[t,r],λai ak⟨o,aG,aP⟩dm=>#[o,dm o aG,aP]];refine Om (X:=xy X c) (bX.Inv.tO ue c) w y (.inl p) (v:=.ref c) rfl (λkH mW=>?_) (.inr p);show-gB (UY c a kH _ _ _ mW (k c eD)) (λS5 h8 K=>?_) λ_ _ z=>i6 z;cases S5 with
 |next=>let#[j,g,l,q]:=K;show-NL I w y p l λE m=>#[_,g,m,q]
 |brk=>let#[j,g,l,q]:=K;show-NL I w y p l λE m=>#[_,g,m,q]
 |cont=>let#[j,g,l,q]:=K;show-NL I w y p l λE m=>#[_,g,m,q]
 |ret u=>let#[Yn,j,g,l,HD,q]:=K;show-NL I w y p l λE m=>#[Yn,_,g,m,HD,q]
def agq:i9 "enumerate"=ja (.type "enumerate"):=by left
def yk(K:aI)(a:Addr):ff:=
 #[λi H=>∃b x,aM K H a b/\b[i]?=ja x,λi H v H'=>∃p x,H p=jp/\v=.ref p/\(∀b,aM K H a b->b[i]?=ja x)/\H'=upd H p (.tup [.int i,x]),λi H=>∃b,aM K H a b/\b.Z<=i]
def aje{K:aI}{k:Nat}(a e m:Addr)(t:e≠m):
  Turn P w K (.Tuple elts k pos) (yk K a) [e,m] e (λi h=>(∃f,IsEnum h e m ((i:Nat):Int) f)/\h.IsListIter m a i)where
 mem:=by simp
 obj:=λi h st b l=>by
  let#[#[f,n],o,aY,c,d]:=st;rcases dQ.mp l with rfl|l
  .show#[_,n,λv z=>by
    let F:Pb _=Ew v:=z;cases F]
  let q:b=m:=by simpa using l
  subst q;show#[o,aY,λv z=>by rw[d]at z;cases z]
 keep:=λi h h' st Z=>by let#[#[f,n],g]:=st;show#[#[f,Z e qv _ n],g.at λo q=>Z m qv o q]
 item:=by
  intro X J Q M T i r s U H E I A st O;subst J Q M;let#[#[f,n],g]:=st;let#[xs,x,V,j]:=O;let#[R,D,p,hz]:=I.list V;let#[u,cq,e3]:=D.get j;let#[dB,aG,aP,cz,e',i']:=A e qv;let#[G,f1,f2,Y,f4,fU]:=A m qv;show-wpAny_pyNext_enum_item n g p.isList (x:=u) (by simpa using cq) t λai aY C kp hsz aU=>#[1,4]
  show-wpAny_letOwnedTupleGo_enum aY λN Gu L=>?_;let L:j7 e ai N:=L;let hn:H s.L=jp:=I.fresh;let sf:∀b o,b∉[e,m]->s.heap.get? b=ja o->N.get? b=ja o:=λb o l q=>by let nq:b≠e:=λz=>l (by simp[z]);let B:b≠m:=λz=>l (by simp[z]);exact(L.2 b nq).trans (aU b o nq B q)
  let y:e<s.L:=dO n;let zl:N.get? s.L=ja {cls:=.type "tuple",data:=.seq (List.toArray [.int i s.toks,u])}:=(L.2 _ (wq y)).trans kp;show#[.ref s.L,upd H s.heap.objs.size (.tup [.int i,x]),4,2,#[s.L,x,hn,2,λys cc=>by rwa[I.MT cc V],2],#[#[u,4],C.at λo q=>(L.2 m t.J).trans q],λb l=>?_]
  .show Inv X r U (upd H s.heap.objs.size (.tup [.int i,x])) {s with heap:=N,gens:=s.gens,drawn:=s.drawn,toks:=s.toks+1};show-Zf I A sf zl (.cons #[1] (.cons e3 .nil))
  .have:(((i+1:Nat):Nat):Int)=(i:Int)+1:=by lia
   rwa[this]
  rcases dQ.mp l with rfl|l
  .rwa[aJ (fH y)]
  let F:b=m:=by simpa using l
  subst F;let#[_,z,_]:=g;rwa[aJ (fH (dO z))]
 done:=by intro X J Q M T i r s U H E I A st O;subst J Q M;let#[#[f,n],g]:=st;let#[xs,V,j]:=O;let#[R,D,p,hz]:=I.list V;let#[G,f1,f2,Y,f4,fU]:=A m qv;let au:=D.Z;exact wpAny_pyNext_enum_end (I.ok.hd T) n g p.isList (by simp;lia) λh' dx=>#[2,I.turned (t':=s.toks) (λb o l e=>dx b o l e) G f1 Y f4 fU]
 self:=λ_ _ _ _ _ st h=>by let#[#[f,n],_]:=st;show-aAf n h
section
variable{X:bA}{elts:hO}{k:Nat}{Ap:Pos}
inductive aqs(K:aI)(vs:aL)(H:af)(R:ff->af->Prop):Prop where
 |mk(a:Addr)(_:vs=[.ref a])(_:∃xs,aM K H a xs)(_:R (yk K a) H)
def aqt(K:aI)(b:fR):eG:=λU H R=>b U H λvs a=>aqs K vs a R
def OA{n:fR}{p:Pos}(i:jR X "enumerate")(hm:X.mg "enumerate"=jp)(A:fI X [l] n)(j:dh [l] X.env=[(jA,eval l X.env)]:=by rfl):m1 X (.Tuple elts k Ap) (.Call (.Name "enumerate" p) [l] [] pos) (aqt X.K n):=by
 intro f s U H R I h;show-Call_ (As I i hm agq (Qw (bT (A pos f s U H _ I h) λE c w=>?_) j rfl));let#[vs,y,d,N,K]:=w;let#[a,e,#[F,L],q]:=K;subst e;cases N with
 |cons r B=>
  cases B;cases r;let#[u,C,p,w]:=d.list L;show-call_enumerate_list p.isList λD t m hsz V=>?_;show-aAf t ?_;let x:c.L+1≠c.L:=aiN _;show#[c.L+1,[c.L+1,c.L],6,y,2,d.kept (t':=c.toks) λb o e=>V b o e,aje a _ _ x,#[#[_,t],m],λb g=>?_,q];rcases dQ.mp g with rfl|g
  .exact d.tm (E6 _) (d.bC.fresh (E6 _))
  let z:b=c.L:=by simpa using g
  subst z;show-d.tm (cy _) (d.bC.fresh (cy _))
end
section
variable{X:bA}{K:aI}(gw:X.K=K)
include gw
def akv:Ba X (aaO K):=by subst gw;show-e4
def Ae:Ba X (aaP K):=by subst gw;show-eN
def IB{k:Nat}{t:uz}{n:Nat}(a:X.calm=jx)(h:Bx X e t)(b:(uE e X.env).Z=n:=by rfl)(c:(uE e X.env).findIdx? (·.1)=jp:=by rfl):pJ X (.Tuple e k pos) (vU K n t):=by subst gw;show-PU a h b c
def è{f:Str}(b:a' X e h)(a:BW e f X.env (eval e X.env)=eval e X.env):a' X (.Attribute e f pos) (aaM K h f):=by subst gw;show-dE b a
end
def é{K:aI}{c:aL}{rest:al.St}{J:iz}{M:TE}{Q:aO}{l:af}(fb:hG cs U=jp::jp::rest)(Y:aM K l a c)(au:c.Z<sizeLine)(p:Nat->V->Bool)(f:Nat->V->V)(L:∀(i:Nat)(x:V)(d:af)(R:Bool->af->Prop),c[i]?=ja x->av l d->(∀k,av d k->R (p i x) k)->J (ja (.int i)::ja x::rest) d R)(G:∀(i:Nat)(x:V)(d:af)(R:aO),c[i]?=ja x->p i x=jx->av l d->(∀k,av d k->R (f i x) k)->M (ja (.int i)::ja x::rest) d R)(H:∀(D:Addr)(H':af),l D=jp->H' D=ja (.lst ((c.zipIdx.filter λz=>p z.2 z.1).map λz=>f z.2 z.1))->av l H'->Q (.ref D) H'):
  ∀D,l D=jp->∃W:Nat->Nat->List V->al.St->af->Prop,(∃m,W 0 m [] (hG cs U) (upd l D (.lst [])))/\∀i m g w H',W i m g w H'->H' D=ja (.lst g)/\g.Z<sizeLine/\
   (((yk K a).stop i H'/\Q (.ref D) H')\/((yk K a).go i H'/\∀x d,(yk K a).AK i H' x d->vU K 2 (p9 (hR 0) (p9 (hR 1) yo)) x w d λs Z=>J s Z λb j=>
    if b=jx then M s j λy k=>k D=ja (.lst g)/\∃A,A<m/\W (i+1) A (g++[y]) s (upd k D (.lst (g++[y])))
    else∃A,A<m/\W (i+1) A g s j)):=by
 intro D a8;let X:c.zipIdx.Z=c.Z:=by simp
 show#[λi m g w H'=>m=c.Z-i/\i<=c.Z/\g=((c.zipIdx.take i).filter λz=>p z.2 z.1).map (λz=>f z.2 z.1)/\(∃o T,w=o::T::rest)/\av l H'/\H' D=ja (.lst g),
  #[c.Z,by simp,ei _,by simp,#[jp,jp,fb],λb o e=>?_,aN],4]
 .rwa[aJ (cI e a8)]
 rintro i m g w H' ⟨rfl,hi,rfl,⟨o,T,rfl⟩,n,F⟩;let I:aM K H' a c:=n.seq Y;show#[F,qq ?_ au,4]
 .rw[bQ];show-eh (Qe _ _) ?_;rw[yA,X];exact E7 _ _
 by_cases E:i<c.Z
 .let ex:c[i]?=ja c[i]:=ew E;show-.inr #[#[c,_,I,ex],λx d y=>?_];let#[q,r,bp,2,gm,2]:=y;let B:=gm c I;let N:av H' (upd H' q (.tup [.int i,r])):=λb u e=>by rwa[aJ (cI e bp)]
  show#[q,1,cH.of aN,2,#[_,1,#[3,4]]];show J (ja (.int i)::ja r::rest) _ _;show-L i r _ _ B (n.trans N) λj h=>?_;let O:c.zipIdx.take (i+1)=c.zipIdx.take i++[(r,i)]:=by rw[Bj,List.getElem?_zipIdx,B];simp
  let t:=h _ _ (N _ _ F);cases C:p i r with
  |true=>
   show-hb ?_;show-G i r j _ B C ((n.trans N).trans h) λk P=>#[P _ _ t,c.Z-(i+1),9,2,E,4,#[_,1],λb ob e=>?_,aN]
   .rw[O,yy,fP];simp[C]
   rw[aJ (cI e a8)];show-P _ _ (h _ _ (N _ _ (n _ _ e)))
  |false=>
   show-gV #[c.Z-(i+1),9,2,E,4,#[_,1],(n.trans N).trans h,t];rw[O,yy,fP];simp[C]
 let e:i=c.Z:=by lia
 subst e;show-.inl #[#[c,I,cy _],H D H' a8 ?_ n];rw[F,<-X,ui]
end bX
namespace al
open PySem PySem.Spec PyProof.Rows
section
variable{bl:Type}[DecidableEq bl]
def dV(a:List (bl×V))(k:bl):Option V:=(a.find? λb=>decide (b.1=k)).map (·.2)
def gy(a:List (bl×V))(k:bl)(v:V):List (bl×V):=
 if(a.any λb=>decide (b.1=k))=jx then a.map (λb=>if b.1=k then(b.1,v)else b)else a++[(k,v)]
def o3{p:bl×V}{r:List (bl×V)}{k:bl}(e:p.1=k):dV (p::r) k=ja p.2:=by simp[dV,ES,e]
def pX{p:bl×V}{r:List (bl×V)}{k:bl}(e:¬p.1=k):dV (p::r) k=dV r k:=by simp[dV,ES,e]
theorem qO(k:bl):∀a:List (bl×V),(a.any λb=>decide (b.1=k))=(dV a k).isSome
 |[]=>rfl
 |p::r=>by
  rw[JO];by_cases e:p.1=k
  .simp only[o3 e,cQ e,Bool.true_or,Option.isSome_some]
  rw[pX e,dJ e,Bool.false_or];show-qO k r
theorem Α(k j:bl)(y:V):∀a:List (bl×V),dV (a.map λb=>if b.1=k then(b.1,y)else b) j=(dV a j).map λx=>if j=k then y else x
 |[]=>rfl
 |p::r=>by
  let c:=Α k j y r;rw[hL];by_cases h:p.1=k
  .rw[b2 h];by_cases e:p.1=j
   .rw[o3 (p:=(p.1,y)) e,o3 e,Qq,b2 (e.symm.trans h)]
   rw[pX (p:=(p.1,y)) e,pX e,c]
  rw[bL h];by_cases e:p.1=j
  .rw[o3 (p:=p) e,o3 e,Qq,bL (λz=>h (e.trans z))]
  rw[pX (p:=p) e,pX e,c]
theorem ZW(k j:bl)(y:V):∀a:List (bl×V),dV a k=jp->dV (a++[(k,y)]) j=if j=k then ja y else dV a j
 |[],_=>by
  by_cases e:k=j
  .rw[b2 e.J];show-o3 (p:=(k,y)) e
  rw[bL (λz=>e z.J)];show-pX (p:=(k,y)) e
 |p::r,hn=>by
  rw[Í];let b:¬p.1=k:=λz=>by rw[o3 z]at hn;cases hn
  rw[pX b]at hn;let c:=ZW k j y r hn;by_cases e:p.1=j
  .rw[o3 e,o3 e,bL (λz=>b (e.trans z))]
  rw[pX e,pX e,c]
def Iq(b:List (bl×V))(k j:bl)(y:V):dV (gy b k y) j=if j=k then ja y else dV b j:=by
 unfold gy;by_cases a:(b.any λd=>decide (d.1=k))=jx
 .rw[b2 a,Α];rw[qO]at a;by_cases e:j=k
  .let#[x,c]:=wu.mp a;rw[b2 e,e,c,Qq,b2 rfl]
  rw[bL e];cases dV b j with
  |none=>rfl
  |some x=>rw[Qq,bL e]
 rw[bL a];show-ZW k j y b ?_;rw[qO]at a;cases q:dV b k with
 |none=>rfl
 |some x=>rw[q]at a;exact(a rfl).elim
def Nn(a:List (bl×V))(k:bl)(v:V):(gy a k v).Z<=a.Z+1:=by
 unfold gy;split
 .rw[bQ];lia
 rw[dT,e5,rD];lia
def Ob{a:List (bl×V)}{k:bl}(v:V)(h:dV a k=jp):gy a k v=a++[(k,v)]:=by unfold gy;rw[qO,h];show-bL qc
def k6.Vj{o:Option V}{u:yT}(r:k6 o u):o.isSome=u.isSome:=by
 cases o with
 |none=>cases u with
  |none=>rfl
  |some _=>exact(show False from r).elim
 |some _=>cases u with
  |none=>exact(show False from r).elim
  |some _=>rfl
def k6.getD{o:Option V}{u:yT}(r:k6 o u)(a:RelV d e):RelV (o.getD d) (u.getD e):=by
 cases o with
 |none=>cases u with
  |none=>show-a
  |some _=>exact(show False from r).elim
 |some _=>cases u with
  |none=>exact(show False from r).elim
  |some _=>show-r
def ia.val{a:List (bl×V)}{vs:List (bl×a5)}(r:ia a vs)(k:bl):k6 (dV a k) (DQ vs k):=by
 unfold ia at r
 induction r with
 |nil=>show-nX
 |@cons p q s i h t j=>
  let#[d,f]:=h;by_cases e:p.1=k
  .let c:q.1=k:=d.symm.trans e;let b:DQ (q::i) k=ja q.2:=by simp[DQ,ES,c]
   rwa[o3 e,b]
  let c:¬q.1=k:=λz=>e (d.trans z);let b:DQ (q::i) k=DQ i k:=by simp[DQ,ES,c]
  rwa[pX e,b]
def ia.any{a:List (bl×V)}{vs:List (bl×a5)}(r:ia a vs)(k:bl):(a.any λb=>decide (b.1=k))=vs.any λb=>decide (b.1=k):=by
 unfold ia at r
 induction r with
 |nil=>rfl
 |cons h t e=>rw[JO,JO,e,h.1]
def ia.Xe{b:List (bl×V)}{vs:List (bl×a5)}(r:ia b vs)(k:bl)(f:RelV y u):
  ia (b.map λa=>if a.1=k then(a.1,y)else a) (vs.map λa=>if a.1=k then(a.1,u)else a):=by
 unfold ia at r⊢
 induction r with
 |nil=>show-.nil
 |@cons p q j s h t i=>
  rw[hL,hL];show-.cons ?_ i;let#[c,d]:=h;by_cases e:p.1=k
  .rw[b2 e,b2 (c.symm.trans e)];show#[c,f]
  rw[bL e,bL (λz=>e (c.trans z))];show#[c,d]
def ia.put{a:List (bl×V)}{vs:List (bl×a5)}(r:ia a vs)(k:bl)(b:RelV y u):ia (gy a k y) (stored vs k u):=by
 unfold gy stored;rw[r.any k];by_cases e:(vs.any λc=>decide (c.1=k))=jx
 .rw[b2 e,b2 e];show-r.Xe k b
 rw[bL e,bL e];show-Paired.snoc r #[2,b]
def ia.Z{a:List (bl×V)}{vs:List (bl×a5)}(r:ia a vs):a.Z=vs.Z:=(jz r)
def AR{k:bU}(r:RelV (ec k) u):(jD P w).is k u=jx:=by
 cases k with
 |inl i=>let#[t,e]:=(show∃t,u=qu i t from r);subst e;show-agx P w i t
 |inr x=>let#[t,e]:=(show∃t,u=wD x t from r);subst e;show-agy P w x t
theorem ZX:∀{a:List bU}{b:en},dM (a.map ec) b->ItemsAre (jD P w) a b
 |[],_,r=>by rw[JW]at r;cases r;show-.nil
 |k::a,_,r=>by
  rw[hL]at r;cases r with
  |cons h t=>show-.cons (AR h) (ZX t)
abbrev KT(H:af):List (List bU×V)->List (List bU×Addr×a5)->Prop:=b9 λp q=>p.1=q.1/\H q.2.1=ja (.tup (p.1.map ec))/\RelV p.2 q.2.2
def KT.val{a:List (List bU×V)}{f:List (List bU×Addr×a5)}(r:KT H a f)(k:List bU):k6 (dV a k) ((wH f k).map (·.2)):=by
 induction r with
 |nil=>show-nX
 |@cons p q s i h t j=>
  let#[d,_,g]:=h;by_cases e:p.1=k
  .let c:q.1=k:=d.symm.trans e;let b:wH (q::i) k=ja q.2:=by simp[wH,ES,c]
   rwa[o3 e,b]
  let c:¬q.1=k:=λz=>e (d.trans z);let b:wH (q::i) k=wH i k:=by simp[wH,ES,c]
  rwa[pX e,b]
def KT.Xe{a:List (List bU×V)}{f:List (List bU×Addr×a5)}(r:KT H a f)(k:List bU)(l:RelV y u):
  KT H (a.map λc=>if c.1=k then(c.1,y)else c) (f.map (putAt k u)):=by
 induction r with
 |nil=>show-.nil
 |@cons p q j s h t i=>
  rw[hL,hL];show-.cons ?_ i;let#[b,d,g]:=h;unfold putAt;by_cases e:p.1=k
  .rw[b2 e,b2 (b.symm.trans e)];show#[b,d,l]
  rw[bL e,bL (λz=>e (b.trans z))];show#[b,d,g]
def KT.put{H:af}{a:List (List bU×V)}{c:List (List bU×Addr×a5)}(r:KT H a c)(k:List bU)(f:H b=ja (.tup (k.map ec)))(d:RelV y u):
  KT H (gy a k y) (storedH c k b u):=by
 let e:(a.any λg=>decide (g.1=k))=(wH c k).isSome:=by rw[qO,(r.val k).Vj,ai1]
 unfold gy storedH;rw[e];by_cases q:(wH c k).isSome=jx
 .rw[b2 q,b2 q];show-r.Xe k d
 rw[bL q,bL q];show-Paired.snoc r #[2,f,d]
theorem KT.keeps{H H':af}{a:List (List bU×V)}{c:List (List bU×Addr×a5)}(r:KT H a c)(f:∀b d,H b=ja (.tup d)->H' b=ja (.tup d)):KT H' a c:=
 b9.ju r λ_ _ z=>#[z.1,f _ _ z.2.1,z.2.2]
end
section
variable{P:cx}{w:b0}{H:af}{h:Heap}{a:Addr}
def aal(ok:gK P w H h)(e:f9 H a u):fh P w H h a u:=(e.ok ok)
theorem A3{b:List (bU×V)}(ok:gK P w H h)(e:f9 H a (.cO b)):b.Z<=sizeLine/\(a==k7)=jA/\∃vs,ia b vs/\h.DictOf (jD P w) a vs:=
 show fh P w H h a (.cO b)from aal ok e
def J1{b:List (bU×V)}(ok:gK P w H h)(e:H a=ja (.cO b)):b.Z<=sizeLine/\(a==k7)=jA/\∃vs,ia b vs/\h.DictOf (jD P w) a vs:=(A3 ok (.inl e))
def D4{c:List bU}(ok:gK P w H h)(e:H a=ja (.tup (c.map ec))):(xK (jD P w)).is h c a:=by
 let#[_,b,r,o,f,g,n,d]:=(show fh P w H h a (.tup (c.map ec))from ok a _ e)
 show#[o,b.toArray,n,f,g,d,by simpa using ZX r]
def A4{b:List (List bU×V)}(ok:gK P w H h)(e:f9 H a (.dA b)):b.Z<=sizeLine/\(a==k7)=jA/\
  ∃d,KT H b d/\h.DictOfH (xK (jD P w)) a d:=by
 let#[z,y,d,r,o,L,K,g,k,f,n,A]:=(show fh P w H h a (.dA b)from aal ok e)
 show#[z,y,d,r,o,L,K,g,k,f,n,λx c=>?_,A];let all:∀{l:List (List bU×V)}{m:List (List bU×Addr×a5)},KT H l m->∀x∈m,(xK (jD P w)).is h x.1 x.2.1:=by
  intro l m q
  induction q with
  |nil=>intro x c;exact nomatch c
  |@cons p q s u i t j=>
   intro x c;rcases dQ.mp c with e|c
   .subst e;show-D4 ok (by rw[<-i.1];show-i.2.1)
   show-j x c
 show-all r x c
theorem aam{b:List (List bU×V)}(ok:gK P w H h)(e:H a=ja (.dA b)):b.Z<=sizeLine/\(a==k7)=jA/\
  ∃c,KT H b c/\h.DictOfH (xK (jD P w)) a c:=A4 ok (.inl e)
end
def j4(H:af)(a:Addr)(y:V)(r:Option V):Prop:=
 (∃c k,f9 H a (.cO c)/\y=ec k/\r=dV c k)\/∃c k b,f9 H a (.dA c)/\y=.ref b/\H b=ja (.tup (k.map ec))/\r=dV c k
def t6(H:af)(a:Addr)(y v:V)(H':af):Prop:=
 (∃c k,H a=ja (.cO c)/\y=ec k/\c.Z<sizeLine/\H'=upd H a (.cO (gy c k v)))\/
 ∃c k b,H a=ja (.dA c)/\y=.ref b/\H b=ja (.tup (k.map ec))/\c.Z<sizeLine/\H'=upd H a (.dA (gy c k v))
def j4.k{H:af}{b:List (bU×V)}{k:bU}(e:H a=ja (.cO b)):j4 H a (ec k) (dV b k):=(.inl #[b,k,.inl e,2,2])
def j4.t{H:af}{c:List (List bU×V)}{k:List bU}(e:H a=ja (.dA c))(d:H b=ja (.tup (k.map ec))):j4 H a (.ref b) (dV c k):=(.inr #[c,k,b,.inl e,2,d,2])
def t6.k{H:af}{b:List (bU×V)}{k:bU}(e:H a=ja (.cO b))(c:b.Z<sizeLine):t6 H a (ec k) v (upd H a (.cO (gy b k v))):=(.inl #[b,k,e,2,c,2])
theorem t6.t{H:af}{c:List (List bU×V)}{k:List bU}(e:H a=ja (.dA c))(f:H b=ja (.tup (k.map ec)))(d:c.Z<sizeLine):
  t6 H a (.ref b) v (upd H a (.dA (gy c k v))):=.inr #[c,k,b,e,2,f,d,2]
section
variable{X:bA}{pins:dU}{U:St}{H:af}{s:aS}{a:Addr}{y v:V}{u r:a5}{o:Option V}{A:et}{E:cL}
def Inv.big(I:Inv X pins U H s):k7<s.L:=by let h:sa<s.L:=(I.mod.glob.keeps I.i8).lt;show-ÿ qc h
def ajf{Q:cL}(i:A.units+1<cLine)(I:Inv X pins U H s)(g:j4 H a y (ja v))(K:RelV y u)(h:∀d L,Inv X pins U H L->RelV v d->Q d L):
  aQ (bj X.prog X.w) A (zi (.ref a) u) Q E s:=by
 rcases g with⟨w,k,e,m,l⟩|⟨w,k,b,e,m,j,l⟩
 .subst m;let#[z,q,vs,c,f]:=A3 I.bC e;let#[d,n,t]:=k6.XD (v:=v) (o:=DQ vs k) (by rw[l];show-c.val k);show-az6 (AR K) f.mapOf n (h d _ (I.tok _) t)
 subst m;cases(show u=c1 b from K);let#[z,q,B,c,f]:=A4 I.bC e;let#[d,n,t]:=k6.XD (v:=v) (o:=(wH B k).map (·.2)) (by rw[l];show-c.val k);let#[p,N,x]:=hN.mp n;show-wpAny_getItem_heap (NY i) (D4 I.bC j) f N ?_;rw[x];show-h d _ (I.tok _) t
def amn{Q:cL}(w:A.units+1<cLine)(I:Inv X pins U H s)(g:j4 H a y o)(p:RelV y u)(h:∀t,Inv X pins U H t->Q (.bool (!o.isSome)) t):
  aQ (bj X.prog X.w) A (jU .NotIn u (.ref a)) Q E s:=by
 rcases g with⟨n,k,e,f,l⟩|⟨n,k,b,e,f,i,l⟩
 .subst f;let#[z,m,vs,c,d]:=A3 I.bC e;show-aAe (AR p) m d.mapOf ?_;rw[<-(c.val k).Vj,<-l];show-h _ (I.tok _)
 subst f;cases(show u=c1 b from p);let#[z,m,K,c,d]:=A4 I.bC e;show-wpAny_notIn_heap (NY w) (D4 I.bC i) m d ?_;let q:=(c.val k).Vj;rw[ai1]at q;rw[<-q,<-l];show-h _ (I.tok _)
theorem IC{c:Heap}{t':Nat}(I:Inv X pins U H s)(dz:E3 (H a))(k:j7 a s.heap c)(g:∃q,c.get? a=ja q)(d:fh X.prog X.w (upd H a ob) c a ob):
  Inv X pins U (upd H a ob) {s with heap:=c,toks:=t'}:=
 I.write (x:=a) (e:=a) dz (.inl rfl) (λb q f z=>(k.2 b f).trans z) g d
theorem PW{d:Heap}{b:List (bU×V)}{vs:List (bU×a5)}(z:b.Z<=sizeLine)(g:(a==k7)=jA)(c:ia b vs)(f:d.DictOf (jD P w) a vs):
  fh P w H' d a (.cO b):=#[z,g,vs,c,f]
def ajg{Q:Unit->aS->Prop}(O:A.units+1<cLine)(I:Inv X pins U H s)(g:t6 H a y v H')(j:RelV y u)(x:RelV v r)(h:∀F,Inv X pins U H' F->Q () F):
  aQ (bj X.prog X.w) A (setItem (.ref a) u r) Q E s:=by
 rcases g with⟨d,k,e,K,l,p⟩|⟨d,k,b,e,K,B,l,p⟩
 .subst K p;let#[z,L,vs,f,w]:=J1 I.bC e;let i:vs.Z<=sizeLine:=by rwa[<-f.Z]
  let t:(gy d k v).Z<=sizeLine:=by have:=Nn d k v;lia
  show-wpAny_setItem_pairs (hsz:=i) (AR j) w λC n N=>h _ ?_;let Y:∃q,C.get? a=ja q:=let⟨q,_,_,m,_⟩:=n;#[q,m]
  show-IC I (by rw[e];show-nX) N Y (PW t L (f.put k x) n)
 subst K p;cases(show u=c1 b from j);let#[z,L,Z,f,w]:=aam I.bC e;let i:Z.Z<=sizeLine:=by rwa[<-jz f]
 let t:(gy d k v).Z<=sizeLine:=by have:=Nn d k v;lia
 show-wpAny_setItem_heap (hsz:=i) (NY O) (D4 I.bC B) w λC n N=>h _ ?_;let#[q,T,R,m,J,G,M,_,P]:=n;show-IC I (by rw[e];show-nX) N #[q,m] #[t,L,_,(f.put k B x).keeps λc ys D=>?_,q,T,R,m,J,G,M,P];rwa[aJ (f5 D e (λz=>nomatch z))]
end
def Rq(i:Expr):Prop:=∀a b,XX i jA a b=operate [a,b] (zi a b)
def ê{E:cL}{a:Env}{id:String}{Q:cL}(n:typeLookup (.type T) "__getitem__"=pure (ja (.builtin id)))(p:Rq slice)(h:aQ (bj prog w) A (eval value a) (λo k=>aQ (bj prog w) A (eval slice a) (λi d=>d.TypeIs o T/\aQ (bj prog w) A (zi o i) Q E d) E k) E s):
  aQ (bj prog w) A (eval (.Subscript value slice pos) a) Q E s:=by
 show-Œ (gB h (λo k m=>gB m (λi d f=>?_) λ_ _ x=>x) λ_ _ x=>x);let#[l,f]:=f;unfold aeZ;show-az ?_;rw[getitemInPython_of_ne l.not_modules];show-az (wpAny_specialOf l n ?_);let b:aQ (bj prog w) A (XX slice jA o i) (λr c=>aQ (bj prog w) A (letTemporaryGo value o r >>=λ_=>pure r) Q E c) E d:=by rw[p o i];show-wpAny_operating (gB f (λr c g=>az (wpAny_letTemporaryGo (bu g))) λ_ _ x=>x)
 first
  |show-bu (az b)
  |show-az (bu (az b))
  |show-az b
def agN{s:aS}{o:Option V}(I:Inv X pins U H s)(g:j4 H a y o):s.TypeIs (.ref a) "dict":=by
 rcases g with⟨d,k,e,_,_⟩|⟨d,k,b,e,_,_,_⟩
 .let#[6,vs,_,c]:=A3 I.bC e;show-c.typeIs
 let#[6,f,_,c]:=A4 I.bC e;show-c.typeIs
def aqu(d ty:TE):TE:=λU H Q=>d U H λx c=>ty U c λy b=>∃a v,x=.ref a/\j4 b a y (ja v)/\Q v b
def amo(ty d:TE):TE:=λU H Q=>ty U H λy c=>d U c λx b=>∃a o,x=.ref a/\j4 b a y o/\Q (.aX (!o.isSome)) b
def aqv(g ty bf:TE):fJ:=λD U H=>bf U H λv c=>g U c λx f=>ty U f λy d=>∃a b,x=.ref a/\t6 d a y v b/\D.dq U b
section
variable{X:bA}{o i e value:Expr}{pos pos' Ap:Pos}{eU ty bf:TE}
def xA(t:X.A.units+1<cLine)(aY:a' X o eU)(K:a' X i ty)(L:Rq i):a' X (.Subscript o i pos) (aqu eU ty):=by intro b s U H Q I h;show-ê ajt.lookup L (bT (aY b s U H _ I h) λu V c=>?_);let#[x,f,k,m,n]:=c;show-bT (K b V U f _ k n) λq z c=>?_;let#[y,l,d,p,a,v,A,g,w]:=c;subst A;obtain rfl:u=c1 a:=m;show#[agN d g,ajf t d g p λj B r N=>#[v,l,r,N,w]]
def YO(t:X.A.units+1<cLine)(L:a' X i ty)(aY:a' X o eU):E' X .NotIn i o (amo ty eU):=by intro b s U H Q I h;show-bT (L b s U H _ I h) λV N c=>?_;let#[y,d,f,p,n]:=c;show-bT (aY b N U d _ f n) λu j c=>?_;let#[x,k,m,l,a,K,A,g,w]:=c;subst A;obtain rfl:u=c1 a:=l;show-amn t m g p λq r=>#[.aX (!K.isSome),k,r,2,w]
def Ph(L:X.A.units+1<cLine)(aY:a' X o eU)(j:a' X i ty)(k:a' X value bf)(q:xH value (ja (.Subscript o i pos')) pos.line X.env=pure jA):
  i7 X (.Assign [.Subscript o i pos'] value pos) (aqv eU ty bf):=by intro b s U H D I h;show-wpAny_Assign_Subscript (bT (k b s U H _ I h) λr C c=>?_) q;let#[v,d,f,K,p]:=c;show-bT (aY b C U d _ f p) λu E c=>?_;let#[x,l,n,m,N]:=c;show-bT (j b E U l _ n N) λJ M c=>?_;let#[y,F,A,w,a,t,V,g,z]:=c;subst V;obtain rfl:u=c1 a:=m;show-ajg L A g w K λG B=>#[U,t,B,z]
theorem Β(h:Heap)(a:k7<h.Y):fh P w H (h.push {cls:=.type "dict",data:=.dict #[]}) h.objs.size (.cO []):=
 #[ei _,BY.mpr (dG (fH a)),[],.nil,Heap.DictOf.new h]
theorem akw(h:Heap)(a:k7<h.Y):fh P w H (h.push {cls:=.type "dict",data:=.dict #[]}) h.objs.size (.dA []):=
 #[ei _,BY.mpr (dG (fH a)),[],.nil,_,#[],0,g4 _ rfl,#[2,2,2],2,2,pI]
def an0:TE:=λ_ H Q=>∀p,H p=jp->Q (.ref p) (upd H p (.cO []))
def an1:TE:=λ_ H Q=>∀p,H p=jp->Q (.ref p) (upd H p (.dA []))
end
section
variable{X:bA}{pos:Pos}
theorem Zi:a' X (.Dict [] [] pos) an0:=λb s U H Q I h=>
 az2 #[.ref s.L,_,I.laid (a:=s.L) (o:=.cO []) (t':=s.toks) (λ_ _ q=>d8 _ q) (cy _) (Β s.heap I.big),2,h _ (I.bC.fresh (cy _))]
theorem akx:a' X (.Dict [] [] pos) an1:=λb s U H Q I h=>
 az2 #[.ref s.L,_,I.laid (a:=s.L) (o:=.dA []) (t':=s.toks) (λ_ _ q=>d8 _ q) (cy _) (akw s.heap I.big),2,h _ (I.bC.fresh (cy _))]
def PN:List (TE×TE)->St->af->(List (V×V)->af->Prop)->Prop
 |[],_,H,Q=>Q [] H
 | (e,bf)::r,U,H,Q=>e U H λx a=>bf U a λy c=>PN r U c λd b=>Q ((x,y)::d) b
abbrev ş:List (V×V)->List (a5×a5)->Prop:=b9 λp q=>RelV p.1 q.1/\RelV p.2 q.2
end
def Ks(X:bA)(d:Pos)(c:List (Option Expr))(a:hO)(k:List (TE×TE)):Prop:=
 ∀(b:dU)(s:aS)(U:St)(H:af)(Q:List (V×V)->af->Prop),Inv X b U H s->PN k U H Q->
  aQ (bj X.prog X.w) X.A (evalPairs (pairTrees c a X.env d)) (λvs g=>∃f H',Inv X b U H' g/\ş f vs/\Q f H') X.dN s
def amq:Ks X pos [] [] []:=(λa s U H Q I h=>pairTrees_nil_walk #[[],H,I,.nil,h])
theorem aky{k v:Expr}{c:List (Option Expr)}{vs:hO}{bf:TE}{d:List (TE×TE)}(n:a' X k e)(m:a' X v bf)(p:Ks X pos c vs d):
  Ks X pos (ja k::c) (v::vs) ((e,bf)::d):=λa s U H Q I h=>
 pairTrees_cons_walk (bT (n a s U H _ I h) λu i⟨x,f,l,r,w⟩=>bT (m a i U f _ l w) λq j⟨y,o,t,A,L⟩=>
  bT (p a j U o _ t L) λB z⟨V,g,K,b,N⟩=>#[(x,y)::V,g,K,.cons #[r,A] b,N])
def D5(c a:List (bU×V)):List (bU×V):=a.foldl (λb d=>gy b d.1 d.2) c
def ia.merge:∀{b:List (bU×V)}{rs:List (bU×a5)}{a:List (bU×V)}{vs:List (bU×a5)},ia b rs->ia a vs->ia (D5 a b) (merged vs rs):=by
 intro b rs a vs r;unfold ia at r
 induction r generalizing a vs with
 |nil=>intro q;show-q
 |@cons p q j s h t i=>
  intro jN;let e:ia (gy a p.1 p.2) (stored vs q.1 q.2):=by have:=jN.put p.1 h.2;rwa[<-h.1]
  show-i e
theorem afb:∀(b a:List (bU×V)),(D5 a b).Z<=a.Z+b.Z
 |[],a=>by show a.Z<=a.Z+0;lia
 |p::r,a=>by let c:=afb r (gy a p.1 p.2);let d:=Nn a p.1 p.2;show(D5 (gy a p.1 p.2) r).Z<=_;rw[e5];lia
theorem afM:∀{d:List (bU×V)}{g:List (a5×a5)},ş (d.map λf=>(ec f.1,f.2)) g->∃rs,Carries (jD P w) g rs/\ia d rs
 |[],_,r=>by rw[JW]at r;cases r;show#[[],nX,.nil]
 |p::d,_,r=>by
  rw[hL]at r;cases r with
  |@cons a b as bs h t=>
   let#[rs,c,q]:=afM (P:=P) (w:=w) t;let#[l,k]:=b;show#[(p.1,k)::rs,#[AR h.1,2,c],.cons #[2,h.2] q]
def aqw(f:List (TE×TE)):TE:=λU H Q=>∀p,H p=jp->PN f U (upd H p (.cO [])) λd b=>b p=ja (.cO [])/\∃a:List (bU×V),d=a.map (λc=>(ec c.1,c.2))/\a.Z<=15/\Q (.ref p) (upd b p (.cO (D5 [] a)))
def amr{b:List (Option Expr)}{d:hO}{r:List (TE×TE)}(h:Ks X pos b d r)(E:b.all (·.isSome)=jx)(L:b.Z=d.Z)(V:b≠[])(k:b.Z<=15):a' X (.Dict b d pos) (aqw r):=by
 intro g s U H Q I q;let C:=I.bC.fresh (cy s.L);let A:=I.laid (a:=s.L) (o:=.cO []) (h':=s.heap.push {cls:=.type "dict",data:=.dict #[]}) (t':=s.toks) (λ_ _ q=>d8 _ q) (cy _) (Β s.heap I.big);show-wpAny_Dict_walk (knd:=jD X.prog X.w) E L V k (bT (h g _ U _ _ A (q _ C)) λM J l=>?_);let#[G,F,n,m,e,f,u,lk,j]:=l;subst u;let#[rs,c,t]:=afM (P:=X.prog) (w:=X.w) m;let#[z,x,y,jN,i]:=J1 n.bC e;cases jN;show#[rs,c,i,λh' p D=>#[.ref s.L,_,4,2,j]];let l:(D5 [] f).Z<=sizeLine:=by let K:=afb f [];rw[rD]at K;rw[vA];lia
 let B:∃q,h'.get? s.L=ja q:=let⟨q,_,_,N,_⟩:=p;#[q,N]
 show-IC n (by rw[e];show-nX) D B (PW l x (t.merge .nil) p)
structure cE(X:bA)(o:Expr)(m:Str)(fS:Pos)(e:Expr)(gu:Pos):Prop where
 base:BW o m X.env (eval o X.env)=eval o X.env
 dy:((hE gu (dh [e] X.env)).all (λx=>!x.1)&&(n3 gu (ot [] X.env)).all (λx=>x.1.isSome)
  && decide (([e]:hO).Z+([]:List yw).Z+(if([]:List yw).isEmpty then 0 else 1)<30))=jx
 line:(fS.endLine==gu.line)=jx
 trees:hE gu (dh [e] X.env)=[(jA,eval e X.env)]
structure M2(X:bA)(o:Expr)(m:Str)(fS:Pos)(e f:Expr)(gu:Pos):Prop where
 base:BW o m X.env (eval o X.env)=eval o X.env
 dy:((hE gu (dh [e,f] X.env)).all (λx=>!x.1)&&(n3 gu (ot [] X.env)).all (λx=>x.1.isSome)
  && decide (([e,f]:hO).Z+([]:List yw).Z+(if([]:List yw).isEmpty then 0 else 1)<30))=jx
 line:(fS.endLine==gu.line)=jx
 trees:hE gu (dh [e,f] X.env)=[(jA,eval e X.env),(jA,eval f X.env)]
def EF(H:af)(a:Addr):Prop:=(∃b,f9 H a (.cO b))\/∃b,f9 H a (.dA b)
def PO{s:aS}(I:Inv X pins U H s)(d:EF H a):
  s.TypeIs (.ref a) "dict"/\(∀b,c1 a=.ref b->∃c,s.heap.get? b=ja c/\c.dict=jp)/\(a==k7)=jA:=by
 rcases d with⟨m,e⟩|⟨m,e⟩
 .let#[_,l,vs,_,f]:=A3 I.bC e;show#[f.typeIs,λb q=>?_,l];cases q;let#[c,6,g,k,_]:=f;show#[c,g,k.2.1]
 let#[_,l,n,_,f]:=A4 I.bC e;show#[f.typeIs,λb q=>?_,l];cases q;let#[c,6,g,k,_]:=f;show#[c,g,k.2.1]
section
variable{X:bA}{pins:dU}{U:St}{H:af}{s:aS}{a:Addr}{y d:V}{u r:a5}{o:Option V}{A:et}{E:cL}
def an2{Q:cL}(L:A.units+1<cLine)(I:Inv X pins U H s)(g:j4 H a y o)(t:RelV y u)(h:∀w K,Inv X pins U H K->RelV (o.getD .cw) w->Q w K):
  aQ (bj X.prog X.w) A (call (.builtin "dict.get") [.ref a,u]) Q E s:=by
 rcases g with⟨p,k,e,m,l⟩|⟨p,k,b,e,m,i,l⟩
 .subst m;let#[z,n,vs,c,f]:=A3 I.bC e;show-abH Ġ f.typeIs ajs (ajr _ _) (meets_dict_get (jD X.prog X.w) a (AR t) n) #[_,f.mapOf,h _ _ (I.tok _) ?_];rw[l];exact(c.val k).getD rfl
 subst m;cases(show u=c1 b from t);let#[z,n,N,c,f]:=A4 I.bC e;show-abH Ġ f.typeIs ajs (ajr _ _) (meetsH_dict_get (xK (jD X.prog X.w)) a b n) #[NY L,k,N,D4 I.bC i,f,h _ _ (I.tok _) ?_];rw[l];exact(c.val k).getD rfl
end
def an3(d ty:TE):TE:=λU H Q=>d U H λx b=>∃a,x=.ref a/\EF b a/\ty U b λy c=>∃o,j4 c a y o/\Q (o.getD .cw) c
section
variable{X:bA}{o e f:Expr}{fS gu:Pos}{eU ty qe:TE}
def Oc(K:X.A.units+1<cLine)(aY:a' X o eU)(i:a' X e ty)(m:cE X o "get" fS e gu):a' X (.Call (.Attribute o "get" fS) [e] [] gu) (an3 eU ty):=by intro b s U H Q I h;show-afi m.base m.dy m.line Qx Ġ PySem.F.type_dict_get (bT (aY b s U H _ I h) λu q c=>?_);let#[x,l,k,p,a,N,d,t]:=c;subst N;obtain rfl:u=c1 a:=p;let#[z,V,_]:=PO k d;show#[z,V,4];rw[m.trees];refine Jh rfl (Ji (Eu (bT (i b q U l _ k t) λD E c=>?_)));let#[y,n,r,w,B,g,L]:=c;show-O' ?_;show-an2 K r g w λC F A j=>#[_,n,A,j,L]
end
section
variable{bl:Type}[DecidableEq bl]
def akm{a:List (bl×V)}{k:bl}(h:dV a k=jp):¬k∈a.map (·.1):=by intro m;let#[p,b,e]:=cD.mp m;let q:(a.any λc=>decide (c.1=k))=jx:=oN.mpr #[p,b,cQ e];rw[qO,h]at q;show-bk q qv
def ë{a:List (bl×V)}{k:bl}(h:dV a k=ja v):k∈a.map (·.1):=by
 let q:(a.any λc=>decide (c.1=k))=jx:=by
  rw[qO,h]
  all_goals rfl
 let#[p,b,e]:=oN.mp q;show-cD.mpr #[p,b,j2 e]
theorem ì:∀{l:List bl}{k:bl},l.Nodup->¬k∈l->(l++[k]).Nodup
 |[],k,_,_=>by simp
 |a::r,k,h,e=>by
  let#[b,c]:=jj.mp h;show(a::(r++[k])).Nodup;show-jj.mpr #[λm=>?_,ì c λm=>e (dQ.mpr (Qs m))];rcases iM.mp m with q|q
  .exact b q
  show-e (dQ.mpr (hr (d2.mp q).symm))
def ams{a:List (bl×V)}{k:bl}(v:V)(b:(a.map (·.1)).Nodup)(h:dV a k=jp):((gy a k v).map (·.1)).Nodup:=by rw[Ob v h,fP];show-ì b (akm h)
end
end al
namespace bX
section
open PySem PySem.Spec PyProof.Rows
open PySem.Builtin PySem.Builtin.Getset_descriptor
structure qh(K:aI)(C:Addr):Prop where
 ga:cK K (.ref C) "__getattribute__"=ja (ja (.builtin "BaseException.__getattribute__"))
 no:cK K (.ref C) "__getattr__"=ja jp
 aB:cK K (.ref C) "__class__"=ja (ja (.builtin "object.__class__"))
 hn:pM K (.builtin "object.__class__") "__get__"=ja (ja (.builtin "getset_descriptor.__get__"))
 MF:tb K (.builtin "object.__class__")=ja jx
 hm:j_ K C (.type "object")=ja jx
 ae:j_ K C (.type "BaseException")=ja jx
def vX(h:Heap)(x C:Addr):Prop:=∃o,h.get? x=ja o/\o.cls=.ref C
def vX.type{M:mY}(I:vX h x C):uv M h (typeOf (.ref x)) (.ref C):=by let#[o,e,c]:=I;rw[<-c];exact(ĥ e).andThen .now
section
variable{prog:cx}{w:b0}{A:et}{E:cL}{s:aS}{K:aI}{x C:Addr}{name:Str}
def ajh{M:mY}{a:a5}{Q:Unit->aS->Prop}(X:K.In s.Q)(c:qh K C)(I:vX s.heap x C)(m:Q () s):
  aQ M A (at8 "BaseException.__getattribute__" #[[.ref x,a],[]]) Q E s:=by
 let k:builtinKind "BaseException.__getattribute__"=ja .slot:=by left
 let b:splitId "BaseException.__getattribute__"=ja ("BaseException","__getattribute__"):=by left
 let l:=F.args_bexc_ga (.ref x) a;let f:uv M s.heap (GJ (.ref x) (.type "BaseException")) jx:=I.type.andThen (ajJ X c.ae);let#[h,g,d,t,os]:=s;simp only[at8,k,b];show-az (f.at ?_)
 repeat (first|assumption|wp_step)
def an4{fill:Bool}{Q:cL}(X:K.In s.Q)(c:qh K C)(I:vX s.heap x C)(h:∀p:et,oV (bj prog w) p (.call (.builtin "BaseException.__getattribute__") #[[.ref x,.str name i],[]]) (λr k=>match r with|.ok (.ret v)=>aQ (bj prog w) A (handedOut v) Q E k|_=>False) s):
  aQ (bj prog w) A (aci (.ref x) (.str name i) fill expr) Q E s:=by
 let n:=I.type (M:=bj prog w);let l:=wz (M:=bj prog w) X c.ga;let al:=wz (M:=bj prog w) X c.no;let o:=F.excAttr_ValueError.ga.bind (.ref x);let a:(expr&&aek (yU "BaseException.__getattribute__"))=jA:=by cases expr<;>rfl
 let b:(yU "BaseException.__getattribute__"==yU "object.__getattribute__")=jA:=by left
 let m:(aek (c1 C)&&yU "BaseException.__getattribute__"==yU "object.__getattribute__")=jA:=by rw[b];rfl
 let#[y,g,d,t,os]:=s;unfold aci;show-mR (az (n.at (az (l.at ?_))));dsimp only;rw[bL (by rw[m];show-hB)];unfold getAttrByItsOwn hookBefore;rw[b2 (show aek (c1 C)=jx from rfl)];show-az (al.at ?_);show-az (AA (mR ?_));unfold callGetattribute;rw[bL (by rw[a];show-hB)];unfold boundAndCalled;rw[o];show-az (bu ?_);show-sE (qy (h _) λr k f=>?_);rcases r with e|(_|_|_|v)<;>first|exact f|show-f.elim
def akn{R:wA->aS->Prop}{b:a5}(X:K.In s.Q)(I:vX s.heap x C)(hm:j_ K C (.type "object")=ja jx)(h:R (.ok (.ret (.ref C))) s):
  oV (bj prog w) A (.call (.builtin "getset_descriptor.__get__") #[[.builtin "object.__class__",.ref x,b],[]]) R s:=by
 let c:=I.type (M:=bj prog w);let a:=ajJ (M:=bj prog w) X hm;let#[f,g,d,t,os]:=s;show-FR ajx.plain aA9 ?_;show-ajx.check _ _ _ _ _ _ _ _ aBb (aA7 _ _ _) ?_;unfold Builtin.«getset_descriptor.__get__» descrGet;rw[PySem.W.dga_obj];show-az (bu ?_);unfold descrGetter descrCheckInstance descrNameAndClass GJ;simp only[aBa]
 repeat lk
 show#[Pa _ qL,B1 aA8 ?_];unfold Builtin.«object.__class__» shownTypeOf
 repeat lk
 show-h
def aji{M:mY}(X:K.In h)(d:cK K (.ref C) name=ja (ja a))(k:pM K a "__get__"=ja (ja g))(f:tb K a=ja jx):
  uv M h (af7 (.ref x) (.ref C) name) (.bind g a):=by
 let c:=wz (M:=M) X d;let al:uv M h (aAO (ja a)) (ja g):=PySem.W.looks_specialIn X k;let bX:=PySem.W.looks_takesIn (M:=M) X f;unfold af7;show-c.andThen (al.andThen ?_);let b:uv M h (af6 (ja a) (ja g)) (ja (g,a)):=by unfold af6;show-bX.andThen ?_;show-.now
 show-b.andThen (PySem.W.Looks.tag .now)
def qh.some(c:qh K C):(wx K C).isSome=jx:=by let h:=c.hm;unfold j_ at h;let#[b,a,_]:=Option.bind_eq_some_iff.mp h;rw[a];rfl
def ajj{fill:Bool}{a:Tok}{Q:cL}(X:K.In s.Q)(c:qh K C)(I:vX s.heap x C)(h:Q (.ref C) s):
  aQ (bj prog w) A (aci (.ref x) (.str "__class__" a) fill expr) Q E s:=by show-an4 X c I λm=>FR F.excAttr_ValueError.ga.plain F.entry_bexc_ga (ajh X c I ?_);let f:=I.type (M:=bj prog w);let b:=aji (M:=bj prog w) (x:=x) X c.aB c.hn c.MF;let#[n,g,d,t,os]:=s;unfold Builtin.«object.__getattribute__»;let l:slotArgs "__getattribute__" 1 #[[.ref x,.str (dH "__class__") a],[]]=pure (.ref x,[.str (dH "__class__") a]):=rfl;rw[l];show-az (bu ?_);dsimp only;let k:aAM (.str (dH "__class__") a)=pure (dH "__class__"):=rfl;rw[k];show-az (bu (az (f.at (az (b.at ?_)))));dsimp only;unfold aAN;show aQ _ _ (tr [yU "object.__class__"] (call (yU "getset_descriptor.__get__") [yU "object.__class__",c1 x,c1 C]) >>=ret) _ _ _;show-az (mR (sE (akn X I c.hm ?_)));show-bu ?_;show aQ _ _ (handedOut (.ref C)) _ _ _;show-bu h
def amt{Q:Option a5->aS->Prop}(X:K.In s.Q)(c:qh K C)(I:vX s.heap x C)(h:Q (ja (.ref C)) {s with toks:=s.toks+1}):aQ (bj prog w) A (getAttr? (.ref x) "__class__") Q E s:=by unfold getAttr? getAttrBy?;show-az (wpAny_mkText (az (AA ?_)));show-ajj (s:={s with toks:=s.toks+1}) X c I ?_;show-bu h
end
end
open PySem PySem.Spec PyProof.Rows al
def ako{K:aI}{M:mY}(c:qh K C)(X:K.In h):uv M h (isType (.ref C)) jx:=by
 let#[d,a]:=wu.mp c.some;unfold wx at a;split at a
 .rename_i g f l b aY;intro A Q E s k q;unfold isType loadHead;show-az (aAa (k _ _ (X _ _ aY)) (bu q))
 cases a
theorem Zj{K:aI}(c:qh K C):PySem.W.KitX K (.ref i) (.ref C) (λh=>vX h i C)where
 ty:=λ_ _ _ I=>I.type
 it:=λ_ _ X _=>ako c X
 ne:=λh d m f n l X g=>by
  show-rt.mpr λq=>?_;let e:C=d:=Value.ref.inj (rM.mp q);subst e;let#[o,a]:=wu.mp c.some;unfold wx at a;split at a
  .rename_i r p t b aY;let z:=(X _ _ aY).symm.trans g;cases z
  cases a
 ca:=λX I k=>amt X c I k
section
variable{X:bA}
def aBk:kB X (.builtin "isinstance") (λw H Q=>∃(a C p:Addr)(d:b5)(b:Bool),w=[.ref a,.ref p]/\H a=ja (yt a C)/\H p=ja (.tup (d.map V.ref))/\qh X.K C/\PySem.W.kitAny X.K (.ref C) (d.map c1)=ja b/\Q (.aX b) H):=by
 intro t s U H w M Q I r h;let#[a,C,p,d,b,2,x,l,c,g,q]:=h;let#[u,E,2,e3,K]:=vals2 r;cases e3;cases K;let#[ty,6]:=(show fh X.prog X.w H s.heap a (yt a C)from I.bC a _ x)
 let#[N,f,m,#[F,D,y,G],aY,k,n,o]:=(show fh X.prog X.w H s.heap p (.tup (d.map V.ref))from I.bC p _ l)
 simp only at k o;subst k o;let L:f=d.map c1:=by
  clear aY l g N
  induction d generalizing f with
  |nil=>cases m;rfl
  |cons J B e=>
   cases m with
   |cons i j=>
    cases i;rw[e _ j];rfl
 rw[L]at aY;show-PySem.W.kia_tup (Zj c) I.e1 ty aY g (λz=>nomatch z) λA=>#[.aX b,H,I.tok A,2,q]
inductive aqx(K:aI)(xs:aL)(aH C:Addr)(b:Bool):Prop where
 |inl(R:Addr)(_:xs=[.ref aH,.ref R])(_:lU K (.ref C) (.ref R)=ja b)
 |inr(T:String)(_:xs=[.ref aH,.ty T])(_:lU K (.ref C) (.type T)=ja b)
inductive asP(K:aI)(xs:aL)(H:af)(Q:aO):Prop where
 |mk(aH C:Addr)(b:Bool)(_:H aH=ja (yt aH C))(_:qh K C)(_:aqx K xs aH C b)(_:Q (.aX b) H)
def pU:kB X (.builtin "isinstance") (asP X.K):=by
 intro g s U H o n Q I r h;let#[a,C,b,m,c,l,q]:=h;let#[ty,6]:=(show fh X.prog X.w H s.heap a (yt a C)from I.bC a _ m)
 cases l with
 |inl R e i=>
  subst e;let#[u,k,2,e3,f]:=vals2 r;cases e3;cases f;show-qr (Zj c) I.e1 ty i (λz=>nomatch z) λd=>#[.aX b,H,I.tok d,2,q]
 |inr T e i=>
  subst e;let#[u,k,2,e3,f]:=vals2 r;cases e3;cases f;show-qr (Zj c) I.e1 ty i (λz=>nomatch z) λd=>#[.aX b,H,I.tok d,2,q]
def aaY{k:Nat}{A:et}(r:gU k A):A.units+65<cLine:=by have:=r.un;lia
inductive asQ(K:aI)(neg:Bool)(x:al.V)(y:al.V)(H:af)(Q:aO):Prop where
 |mk(d:_)(ds:_)(_:k' K H x d)(_:k' K H y (.list ds))(_:wB d=jx)(_:ta ds=jx)(_:Q (.aX (if neg then !(ds.any λz=>kx z d)else ds.any λz=>kx z d)) H)
def akp{A:et}{d:PyData}(a:wB d=jx)(f:A.units+65<cLine):A.units+1+min (pK ds) d.depth<cLine:=by
 let b:=SeqAt.depth_of_shaped a;let c:min (pK ds) d.depth<=d.depth:=E7 _ _
 lia
def Ļ(k:X.A.units+65<cLine):hD X (jU .In) (asQ X.K jA):=by intro b s U H x y v u Q I c g h;let#[d,ds,l,m,a,f,q]:=h;let#[p,o]:=Oa I l c;let#[r,n]:=Oa I m g;show-SeqAt.in_list_reads n o f (SeqAt.canLay_of_shaped a) (akp a k) #[.aX _,H,I,2,q]
end
end bX
namespace dP
open PySem al bX
def iT:i9 "len"=ja (.builtin "len"):=by left
def kg:i9 "isinstance"=ja (.builtin "isinstance"):=by left
def D6:i9 "all"=ja (.builtin "all"):=by left
def I6:i9 "int"=ja (.type "int"):=by left
def amu:i9 "bool"=ja (.type "bool"):=by left
def o_:i9 "str"=ja (.type "str"):=by left
def vr:i9 "list"=ja (.type "list"):=by left
def Du:i9 "tuple"=ja (.type "tuple"):=by left
def an5:i9 "set"=ja (.type "set"):=by left
def afU:i9 "ValueError"=ja (.type "ValueError"):=by left
structure fc(mg:b6):Prop where
 len:mg "len"=jp
 range:mg "range"=jp
 isinstance:mg "isinstance"=jp
 BU:mg "all"=jp
 int:mg "int"=jp
 bool:mg "bool"=jp
 str:mg "str"=jp
 list:mg "list"=jp
 tuple:mg "tuple"=jp
 azf:mg "set"=jp
 ValueError:mg "ValueError"=jp
 enumerate:mg "enumerate"=jp
 max:mg "max"=jp
 min:mg "min"=jp
 sum:mg "sum"=jp
 aBp:mg "any"=jp
 dict:mg "dict"=jp
 sorted:mg "sorted"=jp
 zip:mg "zip"=jp
structure bO(K:aI)(mg:b6)(x:Str)(st:Stmt)(ps:bY)(f:Addr)(fd:nM):Prop where
 fn:b1 K x x st f fd
 at_:mg x=ja (.ref f)
 bd:Binds K fd ps []
structure cR(K:aI)(C:Addr)(m qual:Str)(st:Stmt)(ps:bY)(f:Addr)(fd:nM):Prop where
 fn:b1 K m qual st f fd
 d5:Meth K C m f
 bd:Binds K fd ps []
structure mi(K:aI)(C:Addr)(qual:Str)(st:Stmt)(ps:bY)(f:Addr)(fd:nM):Prop where
 fn:b1 K "__init__" qual st f fd
 made:nQ K C f
 bd:Binds K fd ps []
def dp{X:bA}{k:Nat}{f:Addr}{st:Stmt}{e:Expr}{a:hO}{t:fR}(F:aA X.prog X.w X.K X.mg X.base h k f fd i sp)(D:bO X.K X.mg x st i f fd)(c:gU k X.A)(d:om h X E)(b:fI X (e::a) t)(l:jR X x:=by rfl)(m:(x==("__debug__":Str))=jA:=by decide)(g:dh (e::a) X.env=(jA,eval e X.env)::dh a X.env:=by rfl)(fV:(hE pos (dh a X.env)).any (·.1)=jA:=by rfl):a' X (.Call (.Name x p) (e::a) [] pos) (QG sp [] E t):=(alJ F c l D.at_ D.fn.fL D.bd .nil d b m g fV)
def sY(a:b6)(x:Str)(i:Int):Prop:=∃t,a x=ja (.int i t)
def vi{X:bA}{i:Int}(b:jR X x)(h:sY X.mg x i)(a:(x==("__debug__":Str))=jA:=by decide):a' X (.Name x pos) (j6 (.int i)):=by let#[t,e]:=h;show-Û b e #[t,2] a
theorem tL{X:bA}(c:jR X x)(hm:X.mg x=jp)(a:i9 x=ja (.type T))(d:x≠"__name__":=by decide)(b:(x==("__debug__":Str))=jA:=by decide):a' X (.Name x pos) (j6 (.ty T)):=
 alO (v:=.ty T) c hm a rfl d b
theorem kU{X:bA}(hm:X.mg x=ja (.ref C))(b:jR X x:=by rfl)(a:(x==("__debug__":Str))=jA:=by decide):a' X (.Name x pos) (j6 (.ref C)):=
 Û (v:=.ref C) b hm rfl a
def DM{k:eG}{d:TE}{rest:al.St}{H1:af}{Q:aO}{J:ff}{xs:aL}(o:∀R:ff->af->Prop,R J H1->k U H R)(n:hG cs U=jp::rest)(m:nZ J H1 xs)(l:xs.Z<sizeLine)(f:al.V->al.V)(b:∀(i:Nat)(x:al.V)(a:af)(R:aO),xs[i]?=ja x->av H1 a->(∀g,av a g->R (f x) g)->d (ja x::rest) a R)(c:∀(D:Addr)(H':af),H1 D=jp->H' D=ja (.lst (xs.map f))->av H1 H'->Q (.ref D) H'):jf k cs (hR 0) oE d U H Q:=(o _ (anU n m l f b c))
def an6{m:eG}{l:iz}{k:TE}{rest:al.St}{H1:af}{Q:aO}{J:ff}{xs:aL}(t:∀R:ff->af->Prop,R J H1->m U H R)(r:hG cs U=jp::rest)(o:nZ J H1 xs)(n:xs.Z<sizeLine)(p:al.V->Bool)(f:al.V->al.V)(c:∀(i:Nat)(x:al.V)(a:af)(R:Bool->af->Prop),xs[i]?=ja x->av H1 a->(∀b,av a b->R (p x) b)->l (ja x::rest) a R)(d:∀(i:Nat)(x:al.V)(a:af)(R:aO),xs[i]?=ja x->p x=jx->av H1 a->(∀b,av a b->R (f x) b)->k (ja x::rest) a R)(g:∀(D:Addr)(H':af),H1 D=jp->H' D=ja (.lst ((xs.filter p).map f))->av H1 H'->Q (.ref D) H'):jf m cs (hR 0) l k U H Q:=(t _ (QD r o n p f c d g))
def ļ(K:aI)(t:String):lU K (.type t) (.type t)=ja jx:=by unfold lU;show-b2 qv
def J2{X:bA}:om (dn X.prog X.w) X dZ:=by rintro a U H s e b I ⟨_,_,_,_,_,_,_,z⟩;show-z.elim
def hv{f a:List (Str×Addr)}(h:∀p∈f,a.lookup p.1=ja p.2)(x:Str)(c:Addr)(e:f.lookup x=ja c):a.lookup x=ja c:=by
 induction f with
 |nil=>cases e
 |cons p r i=>
  let#[y,d]:=p;rw[List.lookup_cons]at e;by_cases b:(x==y)=jx
  .rw[b]at e;cases e;have:=h (y,c) (we ..);rwa[show x=y from eq_of_beq b]
  rw[Bool.not_eq_true]at b;rw[b]at e;show-i (λp g=>h p (nO _ g)) e
end dP
namespace cE
open PySem
def f3(l:bg):Prop:=1<=l.Z/\l.Z<=8/\∀x∈l,97<=x/\x<=122
structure f9 where
 a:Nat
 b:Nat
 t:Int
 m:Int
abbrev cY:= List f9
structure f9.Ok(r:f9)(n:Nat):Prop where
 a:r.a<n
 b:r.b<n
 ne:r.a≠r.b
 t:1<=r.t/\r.t<=9
 m:1<=r.m/\r.m<=1000000000
end cE
namespace dP
open PySem al bX cE
section
variable{P:cx}{w:b0}{K:aI}{mg:b6}{base:Heap}
abbrev S(l:bg):Str:=⟨l.toArray⟩
def amv{a:kd}{k:Int}(d:0<=k)(c:k<(a.map V.int).Z):hZ (a.map V.int) k=ja (V.int (a.getD k.toNat 0)):=by
 let b:k.toNat < a.Z:=by rw[bQ]at c;lia
 let e:(a.map V.int)[k.X]?=ja (V.int (a.getD k.toNat 0)):=by rw[ea,ew b];simp[gL,b]
 have:=jV e
 rwa [rB d]at this
inductive aaZ(K:aI)(vs:aL)(H:af)(Q:aO)(fE:bF):Prop where
 |mk(a:Addr)(ns:kd)(k:Int)(_:vs=[.ref a,.int k])(_:aM K H a (ns.map V.int))(_:0<=k)(_:Q (.int (ns.getD k.toNat 0)) H)
def agO:(dH "abcdefghijklmnopqrstuvwxyz").cps.G=(fk 26).map (97+·):=by left
def akq{i:Int}(a:0<=i)(b:i<26):hZ (dH "abcdefghijklmnopqrstuvwxyz").cps.toList i=ja (97+i.X):=by
 let e:(dH "abcdefghijklmnopqrstuvwxyz").cps.G[i.X]?=ja (97+i.X):=by rw[agO,ea,ah0 jQ];rfl
 have:=jV e
 rwa [rB a]at this
def q'(a b:bg):S a++S b=S (a++b):=by show Str.append _ _=_;simp[Str.append,S]
def eY(a:bg):(S a).Z=a.Z:=by simp[S,ő]
def dK(a:ba):List al.V:=a.map λl=>V.str (S l)
def amw(a:ba):dK a=(a.map S).map V.str:=by simp[dK]
def Pj(l:bg):signs (S l)=l.map λc=>V.str (S [c]):=by simp[signs,S]
def nA(a:ba)(r:cE.f9):List al.V:=[.str (S (a.getD r.a [])),.str (S (a.getD r.b [])),.int r.t,.int r.m]
def h5(H:af):List Addr->List aL->Prop:=b9 λr d=>H r=ja (.tup d)
def h5.same(a:av H H'){rs ds}(h:h5 H rs ds):h5 H' rs ds:=(b9.ju h λ_ _ e=>a _ _ e)
def bw(rs:b5):List al.V:=rs.map V.ref
theorem Paired.snoc{a b:Type}{F:a->b->Prop}{x:a}{y:b}(q:F x y):∀{l:List a}{m:List b},b9 F l m->b9 F (l++[x]) (m++[y])
 |_,_,.nil=>.cons q .nil
 |_,_,.cons r t=>.cons r (Paired.snoc q t)
def DN(a:ba):(dK a).Z=a.Z:=(bQ ..)
def gE{H:af}(a:H p=jp)(c:av H H'):av H (upd H' p o):=(λb u e=>by rw[aJ (cI e a)];show-c b u e)
theorem h5.upd{H:af}{rs ds}(h:h5 H rs ds)(e:H p=ja u)(a:∀d,u≠.tup d):h5 (upd H p o) rs ds:=b9.ju h λr d q=>by
 rw[aJ]
 .exact q
 rintro rfl;rw[e]at q;show-a d (gN q)
def HP(rs:b5)(t:Addr):bw rs++[V.ref t]=bw (rs++[t]):=by simp[bw]
def gX(rs:b5):(bw rs).Z=rs.Z:=(bQ ..)
def h5.len{H rs ds}(h:h5 H rs ds):rs.Z=ds.Z:=(jz h)
def b7{H:af}{t:Addr}(a:H t=jp):av H (upd H t o):=(λb u e=>by rwa[aJ (cI e a)])
def ae0{n:Nat}(h:iy n 99=jx):n<=sizeLine:=(eh (hM h) qc)
def sJ{n:Nat}{Q:aO}(k:∀p H',av H H'->H' p=ja o->Q (.ref p) H')(a:n<=sizeLine:=by exact ae0 rfl):Rw n H o Q:=(#[a,λp b=>k p _ (b7 b) aN])
def vY{a c:aL}{H:af}{Q:aO}(f:H l=ja (.lst a))(d:H b=ja (.lst c))(k:∀p H',av H H'->H' p=ja (.lst (a++c))->Q (.ref p) H')(hn:a.Z+c.Z<=sizeLine:=by exact ae0 rfl)(m:x=.ref l:=by rfl)(g:y=.ref b:=by rfl):aaQ x y H Q:=(#[l,b,a,c,m,g,f,d,hn,λp n=>k p _ (b7 n) aN])
def aa0{u v w:bg}{Q:aO}(b:x=S u)(a:y=S v)(e:u++v=w)(h:w.Z<=16777216)(q:Q (.str (S w)) H):q9 (.str x) (.str y) H Q:=by subst b a e;show#[3,(by rwa[eY,eY,<-dT]),by rwa[q']]
def yn{u v:bg}{a b:Nat}{Q:aO}(g:x=S u)(f:y=S v)(d:u.Z<=a)(c:v.Z<=b)(k:(u++v).Z<=a+b->Q (.str (S (u++v))) H)(h:iy (a+b) 16777216=jx:=by rfl):q9 (.str x) (.str y) H Q:=by
 let l:(u++v).Z<=a+b:=by rw[dT];show-aiA d c
 exact aa0 g f rfl (eh l (hM h)) (k l)
def KJ{A B:Prop}(t:b=jx->A)(f:b=jA->B):if b=jx then A else B:=by
 cases b
 .exact f rfl
 exact t rfl
def ey{A B:Prop}(h:b=jx)(q:A):if b=jx then A else B:=by rwa[b2 h]
def fv{A B:Prop}(h:b=jA)(q:B):if b=jx then A else B:=by subst h;show-q
def aan{R:aO}(e:b=jx)(h:R (.aX jx) H):R (.aX b) H:=by rwa[e]
inductive Pk(vs:aL)(H:af)(Q:aO)(fE:bF):Prop where
 |mk(i:Int)(_:vs=[.int i])(_:Q (.aX jx) H)
inductive í(vs:aL)(H:af)(Q:aO)(fE:bF):Prop where
 |mk(r:Addr)(xs:aL)(n:Int)(_:vs=[.ref r,.int n])(_:H r=ja (.tup xs))(_:(xs.Z:Int)=n)(_:Q (.aX jx) H)
def YP(b:bY):(b.map V.str).all ul=jx:=by rw[iw];intro x a;let#[y,1]:=cD.mp a;rfl
def î{a:bY}{x:Str}(h:x∈a):pY (.str x) (a.map V.str)=jx:=by unfold pY;rw[oN];show#[.str x,cD.mpr #[x,h,2],by show(x==x)=jx;show-abD x]
structure Ff(mg:b6):Prop where
 aiu:sY mg "MOST_HOUSES" 12
 aiw:sY mg "MOST_ROADS" 40
 aiy:sY mg "MOST_SIGNS" 8
 aiz:sY mg "MOST_TURNS" 9
 aix:sY mg "MOST_ROOM" 1000000000
def kX{b:bg}(h:S a=S b):a=b:=by have:=gF (λx=>x.cps.G) h;simpa[S]using this
structure Good(hs:ba):Prop where
 nm:∀x∈hs,f3 x
 aC:hs.Nodup
 dy:hs.Z<=12
theorem b9.get{a b:Type}{F:a->b->Prop}:∀{l:List a}{m:List b}{i:Nat}{x:a},b9 F l m->l[i]?=ja x->∃y,m[i]?=ja y/\F x y
 |_,_,_,_,.nil,e=>by simp at e
 |_,_,0,_,.cons r _,e=>by simp at e;subst e;show#[1,r]
 |_,_,i+1,x,.cons _ t,e=>by let#[y,c,d]:=b9.get (i:=i) (x:=x) t (by simpa using e);show#[y,by simpa using c,d]
structure gO(H:af)(hs:ba)(rs:b5)(ds:cY):Prop where
 gZ:h5 H rs (ds.map (nA hs))
 ok:∀d∈ds,d.Ok hs.Z
def gO.same{hs rs ds}(r:gO H hs rs ds)(a:av H H'):gO H' hs rs ds:=(#[r.gZ.same a,r.ok])
def gO.get{H:af}{hs rs ds}{i:Nat}(q:gO H hs rs ds)(e:rs[i]?=ja r):∃d,ds[i]?=ja d/\d.Ok hs.Z/\H r=ja (.tup (nA hs d)):=by let#[y,a,c]:=b9.get q.gZ e;rw[ea]at a;let#[d,b,2]:=hN.mp a;show#[d,b,q.ok d (eX b),c]
def gO.len{hs rs ds}(q:gO H hs rs ds):rs.Z=ds.Z:=by
 have:=q.gZ.len
 rwa [bQ]at this
def I7{b:ba}{a:Nat}(h:a<b.Z):S (b.getD a [])∈b.map S:=by show-cD.mpr #[b.getD a [],4,2];rw[gL,ew h];show-uh h
def SameBut(x:Addr)(H H':af):Prop:=∀b o,b≠x->H b=ja o->H' b=ja o
def Fg(a b:Addr):List (Str×al.V):=[("kept_houses",.ref a),("kept_roads",.ref b)]
structure sN(K:aI)(C:Addr):Prop where
 cl:ef K C
 xo:xU K C "kept_houses"
 iq:xU K C "kept_roads"
inductive Jn(K:aI)(C:Addr)(vs:aL)(H:af)(Q:aO)(fE:bF):Prop where
 |mk(x ah a b:Addr)(hs:ba)(rs:b5)(ds:cY)(_:vs=[.ref x,.ref a,.ref b])(_:H x=ja (.ins C ah []))(_:H a=ja (.lst (dK hs)))(_:Good hs)(_:H b=ja (.lst (bw rs)))(_:gO H hs rs ds)(_:rs.Z<=40)(_:∀(H':af)(bb bh:Addr),SameBut x H H'->H' x=ja (.ins C ah (Fg bb bh))->H' bb=ja (.lst (dK hs))->H' bh=ja (.lst (bw rs))->H bb=jp->H bh=jp->Q .cw H')
structure ih(C:Addr)(H:af)(x bb bh:Addr)(xs ys:aL):Prop where
 ins:∃ah,H x=ja (.ins C ah (Fg bb bh))
 u7:H bb=ja (.lst xs)
 oA:H bh=ja (.lst ys)
theorem ih.same(n:ih C H x bb bh xs e)(a:av H H'):ih C H' x bb bh xs e:=
 let⟨b,h⟩:=n.ins
 #[#[b,a _ _ h],a _ _ n.u7,a _ _ n.oA]
inductive C9(C:Addr)(vs:aL)(H:af)(Q:aO)(fE:bF):Prop where
 |mk(x bb bh:Addr)(xs ys:aL)(_:vs=[.ref x])(_:ih C H x bb bh xs ys)(_:∀l,H l=jp->Q (.ref l) (upd H l (.lst xs)))
inductive Ir(C:Addr)(vs:aL)(H:af)(Q:aO)(fE:bF):Prop where
 |mk(x bb bh:Addr)(xs ys:aL)(_:vs=[.ref x])(_:ih C H x bb bh xs ys)(_:∀l,H l=jp->Q (.ref l) (upd H l (.lst ys)))
inductive Pd(C R:Addr)(vs:aL)(H:af)(Q:aO)(E:bF):Prop where
 |mk(x bb bh:Addr)(xs ys:aL)(k:Int)(_:vs=[.ref x,.int k])(_:ih C H x bb bh xs ys)(_:(0<=k/\k<ys.Z->∃v,hZ ys k=ja v/\Q v H))(_:(¬(0<=k/\k<ys.Z)->E (.ref R) jp H))
def a8(a:ba):List PyData:=(a.map S).map PyData.str
def q2(a:ba)(d:cE.f9):PyData:=.tuple [.str (S (a.getD d.a [])),.str (S (a.getD d.b [])),.int d.t,.int d.m]
def Od(h:f3 l):Qv (.str (S l))=jx:=by simp only[Qv,m3,S];rw[OP];intro x a;have:=h.2.2 x (by simpa using a);show-cQ jQ
def HE{ds:f_}{n:Nat}(h:∀d∈ds,d.depth<=n):pK ds<=n:=by
 induction ds with
 |nil=>show-ei _
 |cons d r i=>
  simp only[pK];show-Nat.max_le.mpr #[h d (we ..),i λe a=>h e (nO _ a)]
def Good.at{b:ba}(G:Good b){a:Nat}(h:a<b.Z):f3 (b.getD a []):=by show-G.nm _ ?_;rw[gL,ew h];show-uh h
def κ(a:ba)(d:cE.f9):(q2 a d).depth<=1:=by
 unfold q2;simp only[E_];show-Ka (HE λe he=>by
  rcases dQ.mp he with rfl|he
  .exact cy _
  rcases dQ.mp he with rfl|he
  .exact cy _
  rcases dQ.mp he with rfl|he
  .exact cy _
  rcases dQ.mp he with rfl|he
  .exact cy _
  show-bk he ee)
def ZY(a:ba)(ds:cY):(Kt (ds.map (q2 a))).depth<=2:=by
 simp only[E_];show-Ka (HE λe b=>by
  let#[x,1]:=cD.mp b;show-κ a x)
def N1{d:PyData}{n:Nat}(b:d.canLay0=jx)(c:d.depth<=n)(a:n<=64):wB d=jx:=by unfold wB;rw[b,cQ (eh c a)];rfl
def ï{d:PyData}(h:d.canLay0=jx):(if jx=jx then !kx d d else kx d d)=jA:=by rw[ψ d h];rfl
def ZZ{a:af}(d:a x=jp)(k:a ah=jp)(f:SameBut x (upd (upd a ah o) x u) h):av a h:=(λb v e=>by let c:=cI e d;let g:=cI e k;show-f b v c ?_;rwa[aJ c,aJ g])
def ν(a:ba):gO H a [] []:=(#[.nil,λ_ h=>bk h ee])
inductive J3(K:aI)(vs:aL)(H:af)(Q:aO)(fE:bF):Prop where
 |mk(a:Addr)(ns:kd)(_:vs=[.ref a])(_:aM K H a (ns.map V.int))(_:ns.Z<=63)(_:∀H',Q (.aX jx) H')
def sh(a:AW)(b:ml)(C R:Addr):Bool:=match a.mro,b.G with
  |.ref e::bm,[_,_,_,_,ja (.builtin _),_]=>e==C&&!a.hasDel&&bm.contains (.type "BaseException")&&(c1 C::bm).contains (.ref R)
  |_,_=>jA
def tw{K:aI}{b:Option Addr}{a:AW}(l:K.lookup C=ja #[.type "type",b,.cls a,bz])(h:sh a bz C R=jx):o' K C R=jx:=by unfold o';rwa[l]
def ne_int{i j:Int}(h:i≠j):decide (V.int i=V.int j)=jA:=(dJ λz=>h (V.int.inj z))
def ag0{n p:Option Addr}{a b:AW}{k r:ml}(t:K.lookup C=ja #[.type "type",n,.cls a,k])(lo:K.lookup o=ja #[.type "type",p,.cls b,r])(l:a.mro.isEmpty=jA)(f:(c1 C==c1 o)=jA)(g:a.mro.contains (.ref o)=jA):lU K (.ref C) (.ref o)=ja jA:=by
 unfold lU Ī;rw[bL (by rw[f];show-hB)];let c:wx K o=ja b:=by unfold wx;rw[lo]
 let d:BD K (.ref o)=ja (.type "type"):=by show(K.lookup o).map (·.cls)=ja (.type "type");rw[lo];rfl
 let m:wx K C=ja a:=by unfold wx;rw[t]
 dsimp only;rw[c,d,b2 qv];show j_ K C (.ref o)=ja jA;unfold j_;rw[m];show(if a.mro.isEmpty=jx then jp else ja (a.mro.contains (.ref o)))=ja jA;rw[l,g];rfl
end
end dP
namespace al
open PySem
section
variable{CX:oJ}{P:cx}{w:b0}{K:aI}{mg:b6}{base:Heap}{N:bY}{qual:Str}{scope:Scope}{f:Addr}{eZ:a5}{A:et}{outer:List Env}{s:aS}{H:af}{E:bF}
def da:(j3 CX P w K mg base N qual scope f eZ A outer s H E).K=K:=(rfl)
def c_:(j3 CX P w K mg base N qual scope f eZ A outer s H E).vn.K=K:=(rfl)
end
def cut{b:fJ}{D:Ends}(h:∀R:fJ,R=b->h4 a R D U H):h4 a b D U H:=(h b rfl)
def jd(c:fJ){b:fJ}{D:Ends}(e:c=h4 a b)(h:∀R:fJ,R=b->h4 a R D U H):c D U H:=by subst e;exact h b rfl
end al
namespace dP
open PySem al bX cE
section
variable{P:cx}{w:b0}{K:aI}{mg:b6}{base:Heap}
def top(i:Nat):Stmt:=aA3.main.body.getD i (.Pass #[0,0,0,0])
mutual
inductive b8(H:af):al.V->PyData->Prop
 |cw:b8 H .cw .none
 |aX(b:Bool):b8 H (.aX b) (.bool b)
 |int(i:Int):b8 H (.int i) (.int i)
 |str(x:Str)(_:x.Z<=100)(_:m3 x=jx):b8 H (.str x) (.str x)
 |lst{a:Addr}{xs:aL}{ds:f_}:H a=ja (.lst xs)->xs.Z<=100->eP H xs ds->b8 H (.ref a) (.list ds)
 |tup{a:Addr}{xs:aL}{ds:f_}:H a=ja (.tup xs)->xs.Z<=100->eP H xs ds->b8 H (.ref a) (.tuple ds)
inductive eP(H:af):List al.V->List PyData->Prop
 |nil:eP H [] []
 |cons{v:al.V}{d:PyData}{vs:aL}{ds:f_}:b8 H v d->eP H vs ds->eP H (v::vs) (d::ds)
end
theorem b8.keep{H H':af}(l:∀a c,H a=ja (.lst c)->H' a=ja (.lst c))(t:∀a c,H a=ja (.tup c)->H' a=ja (.tup c)){d:PyData}(h:b8 H v d):b8 H' v d:=
 b8.rec (motive_1:=λv d _=>b8 H' v d) (motive_2:=λvs ds _=>eP H' vs ds) .cw .aX .int .str (λe z _ i=>.lst (l _ _ e) z i) (λe z _ i=>.tup (t _ _ e) z i) .nil (λ_ _ a b=>.cons a b) h
theorem eP.keep{H H':af}(l:∀a c,H a=ja (.lst c)->H' a=ja (.lst c))(t:∀a c,H a=ja (.tup c)->H' a=ja (.tup c))(h:eP H vs ds):eP H' vs ds:=
 eP.rec (motive_1:=λv d _=>b8 H' v d) (motive_2:=λvs ds _=>eP H' vs ds) .cw .aX .int .str (λe z _ i=>.lst (l _ _ e) z i) (λe z _ i=>.tup (t _ _ e) z i) .nil (λ_ _ a b=>.cons a b) h
def b8.same(a:av H H'){d:PyData}(h:b8 H v d):b8 H' v d:=(h.keep (λ_ _=>a _ _) (λ_ _=>a _ _))
def eP.same(a:av H H')(h:eP H vs ds):eP H' vs ds:=(h.keep (λ_ _=>a _ _) (λ_ _=>a _ _))
end
theorem b8.uM{K:aI}{d:PyData}(h:b8 H v d):k' K H v d:=
 b8.rec (motive_1:=λv d _=>k' K H v d) (motive_2:=λvs ds _=>sZ K H vs ds) .cw .aX .int (λx _ _=>.str x) (λe _ _ i=>.lst (aM.of e) i) (λe _ _ i=>.tup (cH.of e) i) .nil (λ_ _ a b=>.cons a b) h
theorem b8.wL{d:PyData}(h:b8 H v d):d.canLay0=jx:=
 b8.rec (motive_1:=λ_ d _=>d.canLay0=jx) (motive_2:=λ_ ds _=>ta ds=jx) rfl (λ_=>rfl) (λ_=>rfl) (λ_ _ ok=>ok) (λ_ _ _ i=>i) (λ_ _ _ i=>i) rfl (λ_ _ a b=>by simp only[ta,cJ];show#[a,b]) h
theorem b8.inj{d e:PyData}(h:b8 H v d):b8 H v e->d=e:=
 b8.rec (motive_1:=λv d _=>∀e,b8 H v e->d=e) (motive_2:=λvs ds _=>∀c,eP H vs c->ds=c) (λ_ g=>by cases g;rfl) (λ_ _ g=>by cases g;rfl) (λ_ _ g=>by cases g;rfl) (λ_ _ _ _ g=>by cases g;rfl)
  (λe _ _ i _ g=>by
   cases g with
   |lst j _ t=>rw[e]at j;cases j;rw[i _ t]
   |tup j _ _=>rw[e]at j;cases j)
  (λe _ _ i _ g=>by
   cases g with
   |tup j _ t=>rw[e]at j;cases j;rw[i _ t]
   |lst j _ _=>rw[e]at j;cases j)
  (λ_ g=>by cases g;rfl)
  (λ_ _ a b _ g=>by
   cases g with
   |cons x y=>rw[a _ x,b _ y]) h e
theorem eP.paired(h:eP H vs ds):b9 (b8 H) vs ds:=
 eP.rec (motive_1:=λ_ _ _=>True) (motive_2:=λvs ds _=>b9 (b8 H) vs ds) trivial (λ_=>trivial) (λ_=>trivial) (λ_ _ _=>trivial) (λ_ _ _ _=>trivial) (λ_ _ _ _=>trivial) .nil (λa _ _ i=>.cons a i) h
def eP.len{vs:aL}{ds:f_}(h:eP H vs ds):vs.Z=ds.Z:=(jz h.paired)
def eP.get{vs:aL}{ds:f_}{i:Nat}(h:eP H vs ds)(e:vs[i]?=ja v):∃d,ds[i]?=ja d/\b8 H v d:=(b9.get h.paired e)
theorem eP.append{vs c:aL}{ds b:f_}(h:eP H vs ds)(g:eP H c b):eP H (vs++c) (ds++b):=
 eP.rec (motive_1:=λ_ _ _=>True) (motive_2:=λvs ds _=>eP H (vs++c) (ds++b)) trivial (λ_=>trivial) (λ_=>trivial) (λ_ _ _=>trivial) (λ_ _ _ _=>trivial) (λ_ _ _ _=>trivial) g (λa _ _ i=>.cons a i) h
open Classical in
def uL(H:af)(v:al.V):PyData:=if h:∃d,b8 H v d then agg h else .none
def ut{d:PyData}(h:b8 H v d):uL H v=d:=by
 let q:∃d,b8 H v d:=#[d,h]
 unfold uL;rw[dif_pos q];show-b8.inj (O_ q) h
def Z0(f:PyData->Bool){vs:aL}{ds:f_}(h:eP H vs ds):vs.map (λv=>V.aX (f (uL H v)))=(ds.map f).map V.aX:=by
 let p:=h.paired;clear h
 induction p with
 |nil=>rfl
 |cons a _ e=>
  simp only[hL];rw[ut a,e]
def sx:PyData->String
 |.none=>"NoneType"
 |.bool _=>"bool"
 |.int _=>"int"
 |.str _=>"str"
 |.list _=>"list"
 |.tuple _=>"tuple"
 |.dict _=>"dict"
def b8.ty{K:aI}{d:PyData}(h:b8 H v d):pA K H v (.type (sx d)):=by
 cases h with
 |cw=>show-.cw
 |aX b=>show-.aX b
 |int i=>show-.int i
 |str x _ _=>show-.str x
 |lst h _ _=>show-.lst h
 |tup h _ _=>show-.tup h
def ri(t c:String):Option Bool:=if(FA t==FA c)=jx then ja jx else if ī c=jx then(fastBuiltinMro t).map (·.contains (.type c))else jp
def x3(K:aI){t:String}(h:ri t c=ja b):lU K (.type t) (.type c)=ja b:=(h)
def isStr:PyData->Bool|.str _=>jx|_=>jA
def isList:PyData->Bool|.list _=>jx|_=>jA
def isTup:PyData->Bool|.tuple _=>jx|_=>jA
def isBool:PyData->Bool|.bool _=>jx|_=>jA
def œ:PyData->Bool|.int _=>jx|.bool _=>jx|_=>jA
def an7(d:PyData):ri (sx d) "str"=ja (isStr d):=by cases d<;>(show ri _ _=ja _;simp only[sx,isStr];decide+kernel)
def ñ(d:PyData):ri (sx d) "list"=ja (isList d):=by cases d<;>(show ri _ _=ja _;simp only[sx,isList];decide+kernel)
def akS(d:PyData):ri (sx d) "tuple"=ja (isTup d):=by cases d<;>(show ri _ _=ja _;simp only[sx,isTup];decide+kernel)
def ò(d:PyData):ri (sx d) "bool"=ja (isBool d):=by cases d<;>(show ri _ _=ja _;simp only[sx,isBool];decide+kernel)
def an8(d:PyData):ri (sx d) "int"=ja (œ d):=by cases d<;>(show ri _ _=ja _;simp only[sx,œ];decide+kernel)
def t7(c:Nat):Bool:=decide (97<=c)&&decide (c<=122)
def p1:PyData->Bool
 |.str x=>decide (1<=x.Z)&&decide (x.Z<=8)&&x.cps.toList.all t7
 |_=>jA
def ko:List PyData->List Str
 |[]=>[]
 |.str x::r=>x::ko r
 |_::r=>ko r
def xe:PyData->Bool
 |.list ds=>decide (ds.Z<=12)&&ds.all p1&&decide (ko ds).Nodup
 |_=>jA
def akT:PyData->Bool
 |.int _=>jx
 |_=>jA
def qR(lo a:Int):PyData->Bool
 |.int i=>decide (lo<=i)&&decide (i<=a)
 |_=>jA
def inD(d:PyData)(ds:f_):Bool:=ds.any λz=>kx z d
def h0(c:f_)(a b:PyData):Bool:=inD a c&&inD b c&&!kx a b
def qS(c:f_):PyData->Bool
 |.tuple [a,b,t,m]=>h0 c a b&&qR 1 9 t&&qR 1 1000000000 m
 |_=>jA
def It(a:f_):PyData->Bool
 |.list ds=>decide (ds.Z<=40)&&ds.all (qS a)
 |_=>jA
end dP
namespace dP
open PySem PySem.Spec PyProof.Rows al bX cE
structure kv where
 p:af->al.V->Prop
 up:∀{H H':af}{v:al.V},av H H'->p H v->p H' v
def c6(d:PyData):kv:=#[λH v=>b8 H v d,λa h=>h.same a]
structure lK(c8:List (Option kv))(U:al.St)(H:af):Prop where
 len:c8.Z=U.Z
 get:∀(i:Nat)(R:kv),c8[i]?=ja (ja R)->∃v,U[i]?=ja (ja v)/\R.p H v
theorem lK.same{j U H H'}(e:lK j U H)(c:av H H'):lK j U H':=#[e.len,λi R h=>by
 let#[v,a,b]:=e.get i R h;show#[v,a,R.up c b]]
theorem lK.set{q U H}(e:lK q U H){i:Nat}{A:kv}(h:A.p H v):lK (q.set i (ja A)) (U.set i (ja v)) H:=#[by rw[ah8,ah8];show-e.len,λj R a=>by
 let g:=e.len;by_cases c:i=j
 .subst c;rw[Ñ]at a;by_cases b:i<q.Z
  .simp[b]at a;subst a;show#[v,by rw[Ñ];simp[g▸b],h]
  simp[b]at a
 rw[JT c]at a;let#[u,d,f]:=e.get j R a;show#[u,by rwa[JT c],f]]
def OB{H}:lK [] [] H:=(#[2,λi R h=>by simp at h])
theorem lK.cons{j U H}(e:lK j U H){v:al.V}{A:kv}(h:A.p H v):lK (ja A::j) (ja v::U) H:=#[by simp[e.len],λi R a=>by
 cases i with
 |zero=>simp at a;subst a;show#[v,2,h]
 |succ i=>show-e.get i R (by simpa using a)]
theorem lK.skip{h U H}(e:lK h U H){o:lh}:lK (jp::h) (o::U) H:=#[by simp[e.len],λi R a=>by
 cases i with
 |zero=>simp at a
 |succ i=>show-e.get i R (by simpa using a)]
abbrev Ez(R:kv)(H:af)(Q:aO):Prop:=∀v H',av H H'->R.p H' v->Q v H'
def h9(a:List (Option kv))(R:kv):TE:=λU H Q=>lK a U H/\Ez R H Q
def tP(a:List (Option kv))(ds:f_):fR:=λU H Q=>lK a U H/\∀vs H',av H H'->eP H' vs ds->Q vs H'
def Fh:List kv->af->List al.V->Prop
 |[],_,[]=>True
 |A::e,H,v::vs=>A.p H v/\Fh e H vs
 |_,_,_=>False
def NU(a:List (Option kv))(b:List kv):fR:=λU H Q=>lK a U H/\∀vs H',av H H'->Fh b H' vs->Q vs H'
def An(a:List (Option kv))(R:kv):fJ:=λD U H=>lK a U H/\Ez R H D.gz
section
variable{X:bA}{e a b:Expr}{es:hO}{pos fz:Pos}{c8:List (Option kv)}{A B R:kv}
def DO{t u:TE}(h:a' X e t)(m:∀U H Q,u U H Q->t U H Q):a' X e u:=(λc s U H Q I q=>h c s U H Q I (m U H Q q))
def OC{t u:fR}(h:fI X es t)(m:∀U H Q,u U H Q->t U H Q):fI X es u:=(λpos c s U H Q I q=>h pos c s U H Q I (m U H Q q))
def ξ{st:List Stmt}{t u:fJ}(h:ie X st t)(m:∀D U H,u D U H->t D U H):ie X st u:=(λc s U H D I q=>h c s U H D I (m D U H q))
def cj{i:Nat}(h:a' X e (pz i))(g:c8[i]?=ja (ja R)):a' X e (h9 c8 R):=(DO h λU H Q⟨f,q⟩=>by let#[v,c,d]:=f.get i R g;show#[v,c,q v H (av.refl _) d])
def ó(h:a' X e (j6 v))(c:∀H,R.p H v):a' X e (h9 c8 R):=(DO h λU H Q⟨d,q⟩=>q v H (av.refl _) (c H))
theorem aa1{d:Operator}{r:m5}(aY:hD X (uF d) r)(k:a' X a (h9 c8 A))(l:a' X b (h9 c8 B))(n:∀H x y Q,A.p H x->B.p H y->Ez R H Q->r x y H Q):a' X (.BinOp a d b pos) (h9 c8 R):=
 DO (c5 aY k l) λU H Q⟨c,q⟩=>#[c,λx w f t=>#[c.same f,λy m g o=>n m x y Q (A.up g t) o λv H' p aa=>q v H' ((f.trans g).trans p) aa]]
def PQ{H v i}(h:b8 H v (.int i)):v=.int i:=by cases h;rfl
def D7{H v x}(h:b8 H v (.str x)):v=.str x/\x.Z<=100/\m3 x=jx:=by cases h;show#[2,by assumption,by assumption]
def qX{H v ds}(h:b8 H v (.list ds)):∃a c,v=.ref a/\H a=ja (.lst c)/\c.Z<=100/\eP H c ds:=by cases h;show#[_,1,by assumption,by assumption,by assumption]
def PR{H v ds}(h:b8 H v (.tuple ds)):∃a c,v=.ref a/\H a=ja (.tup c)/\c.Z<=100/\eP H c ds:=by cases h;show#[_,1,by assumption,by assumption,by assumption]
def PS{n:Nat}(h:n<=100):n<=sizeLine:=(mZ (e8 jQ))
variable{i j:Int}
def an9{x y:Str}(c:m3 x=jx)(d:m3 y=jx):m3 (x++y)=jx:=by unfold m3 at *;show(x.cps++y.cps).all _=jx;rw[Array.all_append,c,d];rfl
theorem aoa{x y:Str}(c:a' X a (h9 c8 (c6 (.str x))))(d:a' X b (h9 c8 (c6 (.str y))))(z:x.Z+y.Z<=100):a' X (.BinOp a .Add b pos) (h9 c8 (c6 (.str (x++y)))):=
 aa1 hP c d λH u v Q g f q=>by let#[2,_,o1]:=D7 g;let#[2,_,o2]:=D7 f;show#[x,y,2,2,PS z,q _ H (av.refl _) (.str _ ?_ (an9 o1 o2))];show(x.cps++y.cps).size<=100;rwa[Array.size_append]
def ō:fI X [] (tP c8 []):=(OC ay λU H Q⟨c,q⟩=>q [] H (av.refl _) .nil)
theorem OD{d:PyData}{ds:f_}(k:a' X e (h9 c8 (c6 d)))(m:fI X es (tP c8 ds))(n:dh (e::es) X.env=(jA,eval e X.env)::dh es X.env:=by rfl):fI X (e::es) (tP c8 (d::ds)):=
 OC (aj k m n) λU H Q⟨c,q⟩=>#[c,λx r f p=>#[c.same f,λvs l g o=>q _ l (f.trans g) (.cons (b8.same g p) o)]]
def aob:fI X [] (NU c8 []):=(OC ay λU H Q⟨c,q⟩=>q [] H (av.refl _) trivial)
theorem amx{g:List kv}(k:a' X e (h9 c8 A))(m:fI X es (NU c8 g))(n:dh (e::es) X.env=(jA,eval e X.env)::dh es X.env:=by rfl):fI X (e::es) (NU c8 (A::g)):=
 OC (aj k m n) λU H Q⟨c,q⟩=>#[c,λx r d p=>#[c.same d,λvs l f o=>q _ l (d.trans f) #[A.up f p,o]]]
def Jt{H:af}{t:Addr}(c:H t=jp):av H (upd H t o):=(b7 c)
theorem aao{ds:f_}(h:fI X es (tP c8 ds))(z:ds.Z<=100:=by exact hM rfl):a' X (.List es pos) (h9 c8 (c6 (.list ds))):=
 DO (gc h) λU H Q⟨d,q⟩=>#[d,λvs g f t=>#[by rw[t.len];show-PS z,λp c=>q _ _ (f.trans (Jt c)) (.lst aN (by rwa[t.len]) (t.same (Jt c)))]]
theorem aqy{ds es:f_}(d:a' X a (h9 c8 (c6 (.list ds))))(g:a' X b (h9 c8 (c6 (.list es))))(z:ds.Z+es.Z<=100):a' X (.BinOp a .Add b pos) (h9 c8 (c6 (.list (ds++es)))):=
 aa1 oo d g λH x y Q o n q=>by let#[l,r,2,k,N,t]:=qX o;let#[m,w,2,f,V,u]:=qX n;let K:=t.len;let L:=u.len;show#[l,m,r,w,2,2,k,f,PS jQ,λp c=>q _ _ (Jt c) (.lst aN (by rw[dT];lia) ((t.append u).same (Jt c)))]
theorem akM{r:List al.V->af->aO->Prop}{d:List kv}(m:kB X (.type T) r)(hg:jR X x)(hm:X.mg x=jp)(l:i9 x=ja (.type T))(k:fI X (e::es) (NU c8 d))(h:∀H vs Q,Fh d H vs->Ez R H Q->r vs H Q)(n:x≠"__name__":=by decide)(o:(x==("__debug__":Str))=jA:=by decide)(c:dh (e::es) X.env=(jA,eval e X.env)::dh es X.env:=by rfl)(fV:(hE pos (dh es X.env)).any (·.1)=jA:=by rfl):
  a' X (.Call (.Name x p) (e::es) [] pos) (h9 c8 R):=
 DO (iP (hg:=hg) m hm l k n o c fV) λU H Q⟨c,q⟩=>#[c,λvs g w f=>h g vs Q f λv H' t aa=>q v H' (w.trans t) aa]
def atW(h:Fh [A] H vs):∃v,vs=[v]/\A.p H v:=by
 rcases vs with _|⟨v,_|⟨u,r⟩⟩
 .exact h.elim
 .show#[v,2,h.1]
 show-h.2.elim
variable{st:List Stmt}
theorem Ju(h:a' X e (h9 c8 A))(m:∀H v,A.p H v->R.p H v):ie X [.Return (ja e) pos] (An c8 R):=
 ξ (a9 (ct h)) λD U H⟨c,q⟩=>#[c,λv H' d aa=>q v H' d (m H' v aa)]
theorem h1{k:Nat}(n:X.N.Nodup)(p:X.N[k]?=ja x)(l:Loc X.env.scope x)(o:a' X e (h9 c8 A))(g:ie X st (An (c8.set k (ja A)) R))(r:xH e (ja (.Name x pos')) pos.line X.env=pure jA:=by rfl)(m:X.fn x=jx\/X.env.scope.names.lookup x=ja .local:=by first|exact .inl rfl|exact .inr rfl|assumption):
  ie X (.Assign [.Name x pos'] e pos::st) (An c8 R):=
 ξ (a3 (dg _ n o p l r m) g) λD U H⟨c,q⟩=>#[c,λv H' d aa=>#[(c.same d).set aa,λu f w t=>q u f (d.trans w) t]]
end
def amy{b:bY}:∀{a:en},dM (b.map V.str) a->StrsAre a b:=by
 induction b with
 |nil=>intro a r;rw[JW]at r;cases r;show-.nil
 |cons n ns h=>
  intro a r;rw[hL]at r;cases r with
  |cons i j=>
   let#[t,e]:=i;subst e;show-.cons n t (h j)
inductive rJoin(K:aI)(x:al.V)(xs:aL)(H:af)(Q:aO):Prop where
 |mk(z:_)(a:_)(ys:_)(_:x=.str z)(_:xs=[.ref a])(_:aM K H a (ys.map V.str))(_:(ys.map (·.length)).sum+ys.Z*z.Z<=16777216)(_:Q (.str (Txt.join z ys)) H)
def Po{X:bA}:Bt X "str.join" (rJoin X.K):=by intro b s U H x n v m Q I d rs h;let#[z,a,o,2,2,c,f,q]:=h;let#[t,2]:=d;let#[u,2,e3]:=vals1 rs;cases e3;let#[g,r,pl,_]:=I.list c;show-join_list pl.isList (amy r) f λl k=>#[.str _,H,I.tok k,#[l,2],q]
end dP
namespace bX
open PySem PySem.Spec PyProof.Rows al Builtin Builtin.Str
theorem Do:∀l:List (Str×Tok),dM ((l.map (·.1)).map V.str) (strValues l)
 |[]=>.nil
 | (x,t)::r=>.cons #[t,2] (Do r)
section
variable{X:bA}
def aoc:al.V->List al.V->af->aO->Prop:=λx a H Q=>∃z y,x=.str z/\a=[.str y]/\(y.Z==0)=jA/\z.Z+2<=sizeLine/\∀p,H p=jp->Q (.ref p) (upd H p (.lst ((pO z y).map V.str)))
def OJ:Bt X "str.split" aoc:=by
 intro c s U H x w v r Q I m rs h;let#[z,y,2,2,f,p,q]:=h;let#[t,2]:=m;let#[u,2,d,2]:=vals1 rs;let b:∀{l:List (Str×Tok)}{k:Nat},l.map (·.1)=pO z y->l.Z<=sizeLine->jh X c U Q (.ref s.L) {s with heap:=s.heap.push {cls:=.type "list",data:=.seq (strValues l).toArray},toks:=k}:=λ{l k}e g=>by show#[.ref _,_,I.VH (ys:=(pO z y).map V.str) (by rw[<-e];show-Do l) ?_,2,q _ I.fresh];rwa[bQ,<-e,bQ]
 let one:∀{a:Str×Tok},[a].Z<=sizeLine:=λ{a}=>by show 1<=sizeLine;decide
 cases ai:(decide (z.Z<y.Z)||decide (strKind z<strKind y))
 .cases i:(occurrences z y 0 z.length (z.Z+1)).isEmpty
  .let n:(partsBetween z (occurrences z y 0 z.length (z.Z+1)) y.Z).Z<=sizeLine:=by
    rw[length_partsBetween];let o:=StrLaws.occ_length_le_len z y 0 z.length (z.Z+1)
    lia
   show-FO F.slot_str_split (Ie _ _ _) F.entry_str_split (F.args_str_split_2 _ _) (meets_str_split_sep z y t d ai f i jQ n) ?_;show wants _ _ _ {s with toks:=_,heap:=s.heap.push {cls:=.type "list",data:=.seq (strsFrom s.toks (partsBetween z (occurrences z y 0 z.length (z.Z+1)) y.Z)).toArray}};rw[strsFrom_eq];show-b ((ayv _ _).trans ((bL (ne_true_of_eq_false ai)).trans (bL (ne_true_of_eq_false i))).symm) ?_;have:=gF wc (ayv s.toks (partsBetween z (occurrences z y 0 z.length (z.Z+1)) y.Z));rw[bQ]at this
   lia
  exact FO F.slot_str_split (Ie _ _ _) F.entry_str_split (F.args_str_split_2 _ _) (meets_str_split_not_found z y t d ai f i)
   (b (l:=[(z,t)]) ((bL (ne_true_of_eq_false ai)).trans (b2 i)).symm one)
 exact FO F.slot_str_split (Ie _ _ _) F.entry_str_split (F.args_str_split_2 _ _) (meets_str_split_cannot_occur z y t d ai)
  (b (l:=[(z,t)]) (b2 ai).symm one)
def aqz:al.V->List al.V->af->aO->Prop:=λx a H Q=>∃z y,x=.str z/\a=[.str y]/\Q (.aX (QO z y)) H
def al3:Bt X "str.endswith" aqz:=by intro a s U H x f v d Q I b rs h;let#[z,y,2,2,q]:=h;let#[t,2]:=b;let#[u,2,c,2]:=vals1 rs;show-SC.endswith #[.aX _,H,I,2,q]
def Z1:kB X (.type "int") (λb H Q=>∃z n,b=[.str z]/\ajO z=ja n/\z.Z<=640/\Q (.int n) H):=by intro a s U H b f Q I r h;let#[z,n,2,d,c,q]:=h;let#[u,2,t,2]:=vals1 r;show-aBc d c #[.int n,H,I.tok _,#[1],q]
end
end bX
namespace dP
open PySem al bX Builtin Builtin.Str StrLaws
def cM(y:bg):List bg->List Nat
 |[]=>[]
 |[p]=>p
 |p::r=>p++y++cM y r
def x8(w:Nat):Nat->List bg->List Nat
 |_,[]=>[]
 |_,[_]=>[]
 |a,p::r=>(a+p.Z)::x8 w (a+p.Z+w) r
section
variable{x y:bg}{c:Nat}
theorem Oe{sub:Str}{hi limit:Nat}:∀(l:bg)(st:Array Nat×Nat),(∀i∈l,st.2<=i->i+sub.Z<=hi->subAt s sub i=jA)->∀r,(forIn (l++r) st (occBody s sub hi limit)).run=(forIn r st (occBody s sub hi limit)).run
 |[],_,_,_=>rfl
 |a::l,st,h,r=>by
  rw[Í,JS];unfold occBody;rw[bL (λz=>by
   have:=h a (.head _) z.1.1.2 z.1.2;rw[this]at z;show-hB z.2)]
  show-Oe l st (λi b=>h i (.tail _ b)) r
def al4{sub:Str}{d b a:Nat}{r:bg}{st:Array Nat×Nat}(g:st.1.size<b)(k:st.2<=a)(f:a+sub.Z<=d)(l:subAt s sub a=jx):
  (forIn (a::r) st (occBody s sub d b)).run=(forIn r (st.1.push a,a+sub.Z) (occBody s sub d b)).run:=by rw[JS];unfold occBody;rw[b2 #[#[#[g,k],f],l]];rfl
def Of(x y:bg)(i:Nat):subAt (S x) (S y) i=((x.drop i).take y.Z==y):=by rw[subAt_eq];simp[S,ő]
theorem Z2{d:Nat}{y:bg}:∀(n:ba),n≠[]->(∀p∈n,d∉p)->∀(x:bg)(a:Nat)(st:Array Nat×Nat)(limit:Nat),a<=x.Z->x.drop a=cM (d::y) n->st.2<=a->st.1.size+x.Z+1-a<=limit->
  (forIn (EU a (x.Z+1-a)) st (occBody (S x) (S (d::y)) x.length limit)).run.1.toList=st.1.toList++x8 (y.Z+1) a n
 |[],h,_,_,_,_,_,_,_,_,_=>bk rfl h
 |[p],_,j,x,a,st,limit,aB,e,hs,E=>by
  let m:=Oe (s:=S x) (sub:=S (d::y)) (hi:=x.Z) (limit:=limit) (EU a (x.Z+1-a)) st (λi b f k=>?_) []
  .rw[kK]at m;rw[m];show st.1.toList=st.1.toList++[];rw[kK]
  rw[eY,e5]at k;rw[Ø]at b;rw[Of];show-rt.mpr λz=>?_;let t:=eq_of_beq z;let o:x[i]?=ja d:=by have:=gF (λl=>l[0]?) t;simpa using this
  let g:(x.drop a)[i-a]?=ja d:=by rw[ahZ];rwa[show a+(i-a)=i by lia]
  rw[e]at g;show-j p (.head _) (eX g)
 |p::q::r,_,j,x,a,st,limit,aB,e,hs,E=>by
  let K:x.drop a=p++(d::y)++cM (d::y) (q::r):=e;obtain⟨L,V⟩:∃L,x.Z=a+p.Z+(y.Z+1)+L:=#[(cM (d::y) (q::r)).Z,by
   have:=gF wc K;simp only[yz,dT,e5]at this;rw[<-Nat.add_sub_cancel' aB,this];simp only[ú]]
  let A:EU a (x.Z+1-a)=EU a p.Z++(a+p.Z)::(EU (a+p.Z+1) y.Z++EU (a+p.Z+(y.Z+1)) (x.Z+1-(a+p.Z+(y.Z+1)))):=by
   let m:x.Z+1-(a+p.Z+(y.Z+1))=L+1:=by rw[V,ú,aiC]
   let C:x.Z+1-a=p.Z+((y.Z+(x.Z+1-(a+p.Z+(y.Z+1))))+1):=by rw[m,V,show a+p.Z+(y.Z+1)+L+1=a+(p.Z+(y.Z+(L+1)+1)) by lia,aiC]
   rw[C,<-aib,List.range'_succ,<-aib];congr 4
   lia
  let w:∀i,a<=i->i<a+p.Z->x[i]?≠ja d:=λi f k z=>by
   let g:(x.drop a)[i-a]?=ja d:=by rw[ahZ];rwa[show a+(i-a)=i by lia]
   rw[K,mX,Bc jQ]at g;show-j p (.head _) (eX g)
  let N:x.drop (a+p.Z)=(d::y)++cM (d::y) (q::r):=by rw[<-P_,K,mX,JQ]
  let u:x.drop (a+p.Z+(y.Z+1))=cM (d::y) (q::r):=by rw[<-P_,N];show-JQ
  rw[A,Oe _ _ (λi b f k=>?_),al4 jQ jQ (by rw[eY,e5];lia) ?_,Oe _ _ (λi b f k=>?_)]
  .rw[eY,e5];let D:=Z2 (d:=d) (y:=y) (q::r) qv (λF G=>j F (.tail _ G)) x (a+p.Z+(y.Z+1)) (st.1.push (a+p.Z),a+p.Z+(y.Z+1)) limit jQ u (cy _) (by simp;lia);rw[D];show(st.1.push (a+p.Z)).toList++_=st.1.toList++(a+p.Z)::x8 (y.Z+1) (a+p.Z+(y.Z+1)) (q::r);rw[Array.toList_push,mX];rfl
  .-- within B glue
   rw[eY,e5]at f;rw[Ø]at b;exfalso;let f:a+p.Z+(y.Z+1)<=i:=f
   lia
  .rw[Of,N];simp
  rw[Ø]at b;rw[Of];show-rt.mpr λz=>?_;let t:=eq_of_beq z;let o:x[i]?=ja d:=by have:=gF (λl=>l[0]?) t;simpa using this
  show-w i b.1 b.2 o
theorem afD{d:Nat}{y:bg}:∀(b:ba),b≠[]->∀(x:bg)(a:Nat),a<=x.Z->x.drop a=cM (d::y) b->partsFrom (S x) (y.Z+1) a (x8 (y.Z+1) a b)=b.map S
 |[],h,_,_,_,_=>bk rfl h
 |[p],_,x,a,aB,e=>by let e:x.drop a=p:=e;show[strSub (S x) a (S x).Z]=[S p];congr 1;apply QJ;apply Jd.mp;rw[strSub_toList,eY];show(x.drop a).take (x.Z-a)=p;rw[Ú qv,e]
 |p::q::r,_,x,a,aB,e=>by
  let f:x.drop a=p++(d::y)++cM (d::y) (q::r):=e;let l:x.Z-a=p.Z+(y.Z+1)+(cM (d::y) (q::r)).Z:=by have:=gF wc f;simp only[yz,dT,e5]at this;show-this
  let g:x.drop (a+p.Z+(y.Z+1))=cM (d::y) (q::r):=by
   let k:x.drop (a+p.Z)=(d::y)++cM (d::y) (q::r):=by rw[<-P_,f,mX,JQ]
   rw[<-P_,k];show-JQ
  show strSub (S x) a (a+p.Z)::partsFrom (S x) (y.Z+1) (a+p.Z+(y.Z+1)) (x8 (y.Z+1) (a+p.Z+(y.Z+1)) (q::r))=S p::(q::r).map S;rw[afD (q::r) qv x _ jQ g];congr 1;apply QJ;apply Jd.mp;rw[strSub_toList];show(x.drop a).take (a+p.Z-a)=p;rw[show a+p.Z-a=p.Z by lia,f,mX];show-aif
def al5{d:Nat}{y:bg}{p q:bg}{r:ba}:y.Z+1<=(cM (d::y) (p::q::r)).Z:=by
 show _<=(p++(d::y)++cM (d::y) (q::r)).Z;rw[dT,dT,e5]
 lia
def aap{l:bg}(h:∀c∈l,c<256):Str.strKind (S l)=1:=by
 unfold Str.strKind;rw[b2];show l.toArray.all (λc=>decide (c<256))=jx;rw[List.all_toArray,iw]
 exactλc a=>cQ (h c a)
def Yj{d:Nat}{y:bg}{a:ba}(f:a≠[])(l:∀p∈a,d∉p)(b:∀c∈cM (d::y) a,c<256)(n:∀c∈d::y,c<256):pO (S (cM (d::y) a)) (S (d::y))=a.map S:=by
 let m:=Z2 (d:=d) (y:=y) a f l (cM (d::y) a) 0 (#[],0) ((cM (d::y) a).Z+1) (ei _) rfl (cy _) qv;let k:=afD (d:=d) (y:=y) a f (cM (d::y) a) 0 (ei _) rfl;let g:occurrences (S (cM (d::y) a)) (S (d::y)) 0 (S (cM (d::y) a)).length ((S (cM (d::y) a)).Z+1)=x8 (y.Z+1) 0 a:=by rwa[occ_eq,eY]
 unfold pO;rw[g,partsBetween_eq,eY,eY];cases a with
 |nil=>exact bk rfl f
 |cons p r=>
  cases r with
  |nil=>
   split
   .rfl
   rfl
  |cons q r=>
   have:=al5 (d:=d) (y:=y) (p:=p) (q:=q) (r:=r);rw[bL,bL]
   .exact k
   .show¬(x8 (y.Z+1) 0 (p::q::r)).isEmpty=jx;show-hB
   rw[aap b,aap n,e5];simp
   lia
def Og(y:bg):∀a:List bg,Txt.join (S y) (a.map S)=S (cM y a):=by
 let h:∀a:List bg,Str.join (S y) (a.map S)=S (cM y a):=λa=>by
  induction a with
  |nil=>rfl
  |cons p r e=>
   cases r with
   |nil=>rfl
   |cons q r=>
    show S p++S y++Str.join (S y) ((q::r).map S)=S (p++y++cM y (q::r));rw[e];apply QJ;apply Jd.mp;simp only[Str.cps_append,Array.toList_append]
 exactλa=>(glued_eq_join _ _).trans (h a)
def b_(m:Nat):List Nat:=(yL 10 m).map ZL
def si(m:Nat):dH (toString ((m:Nat):Int))=S (b_ m):=by apply QJ;apply Jd.mp;show-aBe m
def qU{m c:Nat}(h:c∈b_ m):48<=c/\c<=57:=by let#[a,jZ,2]:=cD.mp h;have:=Nat.isDigit_of_mem_toDigits (b:=10) qc qc jZ;unfold Char.isDigit at this;simp only[ge_iff_le,cJ,decide_eq_true_eq]at this;show#[this.1,this.2]
theorem J4(m:Nat):b_ m≠[]:=λe=>by
 let h:=Ô.mp e;by_cases hm:m<10
 .rw[Qn hm]at h;cases h
 let t:yL 10 (m/10)++yL 10 (m%10)=yL 10 (10*(m/10)+m%10):=Ă qc jQ jQ;rw[aiD,h]at t;have:=gF wc t;rw[Qn (Nat.mod_lt m qc),dT]at this;simp at this
def pa{m:Nat}(h:m<10 ^ 10):(b_ m).Z<=10:=by have:=aBg (n:=(m:Int)) jQ jQ;rwa[si,eY]at this
def al6(m:Nat):∀r,b_ m=48::r->m=0:=by
 induction m using aiL with
 |_ m h=>
  intro r e;by_cases hm:m<10
  .have:m=0\/m=1\/m=2\/m=3\/m=4\/m=5\/m=6\/m=7\/m=8\/m=9:=by lia
   unfold b_ at e;rw[Qn hm]at e;rcases this with rfl|rfl|rfl|rfl|rfl|rfl|rfl|rfl|rfl|rfl
   .rfl
   all_goals (simp at e)
   all_goals (show-bk e.1 qc)
  let t:yL 10 (m/10)++yL 10 (m%10)=yL 10 (10*(m/10)+m%10):=Ă qc jQ jQ;rw[aiD]at t;unfold b_ at e;rw[<-t,fP]at e;let f:=J4 (m/10);let b:b_ (m/10)++(yL 10 (m%10)).map ZL=48::r:=e;cases hd:b_ (m/10)with
  |nil=>show-bk hd f
  |cons a s=>
   rw[hd]at b;let d:a=48:=(Ì b).1;subst d;have:=h (m/10) jQ s hd
   lia
def al7:b_ 0=[48]:=by decide
def Oh{m:Nat}(h:m<10 ^ 10):ajO (S (b_ m))=ja (m:Int):=by rw[<-si];show-aBd jQ jQ
end
open cE
abbrev L(x:String):Str:=dH x
theorem Z3:∀(a b:f_),ko (a++b)=ko a++ko b
 |[],_=>rfl
 |d::a,b=>by cases d<;>simp[ko,Z3 a b]
theorem OK:∀a:List bg,ko (a8 a)=a.map S
 |[]=>rfl
 |l::a=>by show S l::ko (a8 a)=S l::a.map S;rw[OK a]
def agE{ds:f_}(h:xe (.list ds)=jx):ds.Z<=12/\(∀d∈ds,p1 d=jx)/\(ko ds).Nodup:=by unfold xe at h;simp only[cJ,decide_eq_true_eq,iw]at h;show#[h.1.1,h.1.2,h.2]
def aod(a:ba):(a8 a).Z=a.Z:=by simp[a8]
def Jv{a:ba}{y:Str}(h:y∉a.map S):inD (.str y) (a8 a)=jA:=by unfold inD;rw[rt];intro z;let#[v,b,e]:=oN.mp z;let#[u,d,2]:=cD.mp b;let c:(u==y)=jx:=e;show-h (eq_of_beq c▸d)
theorem PT{H:af}:∀{a:ba},(∀x∈a,f3 x)->eP H (dK a) (a8 a)
 |[],_=>.nil
 |l::a,h=>.cons (.str (S l) (by rw[eY];have:=(h l (we ..)).2.1;lia) (Od (h l (we ..)))) (PT λx b=>h x (nO _ b))
def EA{H:af}(G:Good hs)(h:H a=ja (.lst (dK hs))):b8 H (.ref a) (.list (a8 hs)):=(.lst h (by rw[DN];have:=G.dy;lia) (PT G.nm))
theorem aqA{H:af}{a:ba}(G:Good a){d:cE.f9}(ok:d.Ok a.Z)(h:H r=ja (.tup (nA a d))):b8 H (.ref r) (q2 a d):=
 .tup h (by show 4<=100;decide) (.cons (.str _ (by rw[eY];have:=(G.at ok.a).2.1;lia) (Od (G.at ok.a))) (.cons (.str _ (by rw[eY];have:=(G.at ok.b).2.1;lia) (Od (G.at ok.b))) (.cons (.int _) (.cons (.int _) .nil))))
theorem Jw{a:ba}(G:Good a):∀{rs:b5}{ds:cY},h5 H rs (ds.map (nA a))->(∀d∈ds,d.Ok a.Z)->eP H (bw rs) (ds.map (q2 a))
 |[],[],_,_=>.nil
 |r::rs,d::ds,.cons h t,ok=>.cons (aqA G (ok d (we ..)) h) (Jw G t λe b=>ok e (nO _ b))
 |[],d::ds,h,_=>nomatch h
 |r::rs,[],h,_=>nomatch h
end dP
namespace bX
open PySem PySem.Spec PyProof.Rows al
def gg{b:Type}:Sem b->Prop
 |.pure _=>True
 |.raise _=>True
 |.unsupported _=>True
 |.finish _=>True
 |.register _ _=>True
 |.rule _ k=>gg (k ())
 |.at _ k=>gg (k ())
 |.load _ _ k=>∀o,gg (k o)
 |.update _ _ f k=>(∀o,(f o).dict=o.dict)/\gg (k ())
 |.alloc _ k=>∀a,gg (k a)
 |.loadIfAlive _ k=>∀o,gg (k o)
 |.point _ k=>gg (k ())
 |.fresh k=>∀t,gg (k t)
 |.ask k=>∀t,gg (k t)
 |.handled _ k=>∀t,gg (k t)
 |.stack k=>∀t,gg (k t)
 |.thread k=>∀n,gg (k n)
 |_=>False
def jt(h a:Heap):Prop:=h.Y<=a.Y/\∀e,e<h.Y->(a.objs[e]?).map (·.dict)=(h.objs[e]?).map (·.dict)
def jt.refl(h:Heap):jt h h:=(#[cy _,λ_ _=>rfl])
def jt.trans(a:jt h ai)(b:jt ai ak):jt h ak:=(#[eh a.1 b.1,λe c=>(b.2 e (jk c a.1)).trans (a.2 e c)])
def jt.push(h:Heap)(o:Obj):jt h (h.push o):=by
 let#[a,l]:=h;show#[4,λe b=>?_]
 .show a.size<=(a.push o).size;simp
 show((a.push o)[e]?).map _=_;rw[Array.getElem?_push_lt b];simp[b]
def jt.update(h:Heap)(a:Addr){f:Obj->Obj}(c:∀o,(f o).dict=o.dict):jt h (h.update a f):=by
 let#[b,l]:=h;show#[4,λe d=>?_]
 .show b.size<=(b.modify a f).size;simp
 show((b.modify a f)[e]?).map _=_;rw[Array.getElem?_modify];split
 .cases b[e]? with
  |none=>rfl
  |some o=>show ja (f o).dict=_;rw[c];rfl
 rfl
def jt.dict{h d:Heap}(s:jt h d){o c:Obj}(a:h.get? e=ja o)(b:d.get? e=ja c):c.dict=o.dict:=by let f:=(agK.mp a).1;let g:=(agK.mp b).1;have:=s.2 e (dO a);rw[f,g]at this;show-gN this
def al8{r:Type}{M:mY}{m:PySem.Ctx}{Q:r->Pos->aS->Prop}{E:a5->Pos->aS->Prop}(t:Sem r)(w:gg t)(p:Pos)(s:aS)(h:Sem.wp M m t Q E p s):
  Sem.wp M m t (λa l g=>Q a l g/\jt s.heap g.Q) (λa l g=>E a l g/\jt s.heap g.Q) p s:=by
 let n:∀(t:Sem r),gg t->∀(p:Pos)(s:aS)(b:Heap),jt b s.Q->Sem.wp M m t Q E p s->Sem.wp M m t (λa l g=>Q a l g/\jt b g.Q) (λa l g=>E a l g/\jt b g.Q) p s:=by
  intro t
  induction t with
  |pure a=>exactλ_ p s b d h=>#[h,d]
  |raise e=>exactλ_ p s b d h=>#[h,d]
  |unsupported=>exactλ_ p s b d h=>h
  |finish=>exactλ_ p s b d h=>h
  |register=>exactλ_ p s b d h=>h
  |rule _ k i=>exactλc p s b d h=>i () c p s b d h
  |«at» _ k i=>exactλc p s b d h=>i () c _ s b d h
  |load a _ k i=>exactλc p s b d#[o,e,h]=>#[o,e,i o (c o) p s b d h]
  |update a _ f k i=>exactλc p s b d#[e,h]=>#[e,i () c.2 p _ b (d.trans (jt.update _ _ c.1)) h]
  |alloc o k i=>exactλc p s b d h=>i _ (c _) p _ b (d.trans (jt.push _ _)) h
  |loadIfAlive a k i=>exactλc p s b d h=>i _ (c _) p s b d h
  |point _ k i=>exactλc p s b d h=>i () c p s b d h
  |fresh k i=>exactλc p s b d h=>i _ (c _) p _ b d h
  |ask k i=>exactλc p s b d h=>i _ (c _) p s b d h
  |handled _ k i=>exactλc p s b d h=>i _ (c _) p s b d h
  |stack k i=>exactλc p s b d h=>i _ (c _) p s b d h
  |thread k i=>exactλc p s b d h=>i _ (c _) p s b d h
  |choose=>exactλc=>c.elim
  |os=>exactλc=>c.elim
  |call=>exactλc=>c.elim
  |newGen=>exactλc=>c.elim
  |genState=>exactλc=>c.elim
  |resume=>exactλc=>c.elim
  |yield=>exactλc=>c.elim
  |fork=>exactλc=>c.elim
  |await=>exactλc=>c.elim
 show-n t w p s s.heap (jt.refl _) h
theorem Iu{c:Type}{M:mY}{Q:c->aS->Prop}{E:cL}{t:Sem c}{s:aS}(f:gg t)(h:aQ M A t Q E s):aQ M A t (λa b=>Q a b/\jt s.heap b.Q) (λa b=>E a b/\jt s.heap b.Q) s:=
 λg p d=>al8 t f p s (h g p d)
def jl{b d:Type}{t:Sem b}{f:b->Sem d}(h:gg t)(c:∀a,gg (f a)):gg (t >>=f):=by
 show gg (t.bind f)
 induction t with
 |pure a=>show-c a
 |raise e=>show-h
 |unsupported=>show-h
 |finish=>show-h
 |register=>show-h
 |rule _ k i=>show-i () h
 |«at» _ k i=>show-i () h
 |load a _ k i=>exactλo=>i o (h o)
 |update a _ f k i=>show#[h.1,i () h.2]
 |alloc o k i=>exactλa=>i a (h a)
 |loadIfAlive a k i=>exactλa=>i a (h a)
 |point _ k i=>show-i () h
 |fresh k i=>exactλa=>i a (h a)
 |ask k i=>exactλa=>i a (h a)
 |handled _ k i=>exactλa=>i a (h a)
 |stack k i=>exactλa=>i a (h a)
 |thread k i=>exactλa=>i a (h a)
 |choose=>show-h.elim
 |os=>show-h.elim
 |call=>show-h.elim
 |newGen=>show-h.elim
 |genState=>show-h.elim
 |resume=>show-h.elim
 |yield=>show-h.elim
 |fork=>show-h.elim
 |await=>show-h.elim
def lW{b:Type}{a:b}:gg (pure a:Sem b):=(trivial)
def tD{a:Type}:gg (unsupported x:Sem a):=(trivial)
def vj{d:Type}{c:Prop}[Decidable c]{a b:Sem d}(f:gg a)(g:gg b):gg (if c then a else b):=by split<;>assumption
def YQ:gg (load a):=(λ_=>trivial)
def afV:gg (fieldsOf v):=by
 unfold fieldsOf;cases v<;>first|exact tD|skip
 show-jl YQ λo=>?_;split<;>first|exact lW|show-tD
def NN{i:Nat}:gg (uV v i):=by unfold uV;show-jl afV λo=>?_;split<;>first|exact lW|show-tD
def W'{i:Nat}:gg (DC v i x):=by
 unfold DC;cases v<;>first|exact tD|skip
 show-jl YQ λo=>?_;split
 .refine vj #[λo=>?_,trivial] tD;let#[c,d,a,b]:=o;cases a<;>rfl
 show-tD
def W3{f:Option Addr}:gg (NP v f):=by unfold NP;show-jl NN λo=>vj W' lW
def Yv:gg stack:=(λ_=>trivial)
def afO{ty:String}:gg (newFields ty vs):=by
 let b:gg (newObjAsIs (.type ty) (.fields vs.toArray)):=by unfold newObjAsIs;show-jl (λ_=>trivial) λa=>lW
 unfold newFields newObj;show-vj (c:=vs.toArray.size>sizeLine+2) (jl tD λ_=>b) b
def ag1{f:Addr}:gg (ab0 f b):=by unfold ab0;show-jl Yv λo=>?_;split<;>show-lW
def agF{a:Env}:gg (at1 a outer):=by unfold at1;show-vj lW (vj lW (jl NN λ_=>lW))
def ajk{a:Env}:gg (keptBack a b l):=by
 unfold keptBack;split
 .refine vj lW (jl ?_ λ_=>lW);show-jl Yv λ_=>lW
 show-lW
theorem Zn:∀l:List Env,gg (readyFrames l)
 |[]=>trivial
 |env::outer=>by
  unfold readyFrames;split
  .exact jl YQ λo=>vj lW (jl agF λ_=>jl ajk λ_=>jl #[λ_=>rfl,trivial] λ_=>Zn outer)
  show-tD
def agt{c:Env}:gg (ķ c):=by
 unfold ķ frameEnvs;show-jl (jl Yv λ_=>lW) λl=>jl ?_ λo=>?_
 .generalize List.dropWhile _ l=d;cases d with
  |nil=>show-lW
  |cons a b=>show-jl (Zn _) λ_=>lW
 split<;>first|exact lW|show-tD
def Z4{k:Env}:gg (xu e k):=by
 unfold xu;let g:∀(f:Addr)(d:a5),gg (do
   let a <-ķ k
   let b <-ab0 f (d !=iA)
   let c <-aAV d a iA (mL f) iA b
   DC e 1 c):=λf d=>jl agt λ_=>jl ag1 λ_=>jl afO λ_=>W'
 split
 .exact jl NN λd=>vj (jl NN λ_=>vj lW (jl W' λ_=>g _ _)) (g _ _)
 show-tD
def afg{a:Env}:gg (leaving a e):=(jl Z4 λ_=>W3)
def Ef(a d:AW)(c:ml)(C:Addr)(b:String):Bool:=
 (a.mro==c1 C::d.mro)&&!a.hasDel&&(match c.G with|[_,_,_,_,ja (.builtin n),_]=>n==b|_=>jA)
def akN{K:aI}{mg:b6}{h:Heap}{z:Option Addr}{d f:AW}{B:ml}(X:K.In h)(O:Exc K mg y R bm e)(zJ:K.lookup C=ja #[.type "type",lV,.cls d,s])(E:K.lookup R=ja #[.type "type",z,.cls f,B])(n9:Ef d f s C e=jx):
  ∃j q N m c u sub l a t w A L V,h.get? C=ja (B8 j q C N m c d.hasDict u sub l a lV t w A L V e)/\Bw h bm c:=by
 let#[c,Č,j,q,m,p,u,sub,l,a,dd,t,w,A,L,V,mN,o,fK,x,T]:=(O.own X).obj;let D:=X _ _ E;let P:=D.symm.trans o;let Q:=gN P;let hm:f.mro=c1 R::c:=by let g:(Data.cls f)=_:=gF Obj.data Q;injection g with g;rw[g]
 unfold Ef at n9;simp only[cJ,rM,mf]at n9;let#[#[k,i],b]:=n9;split at b
 .rename_i G p0 r7 H n I r;let b:=rM.mp b;subst b;let#[ayc,Z,J,M,ayP,w6,azt,azw,Y,aud,F]:=d;dsimp only at k i;rw[hm]at k;subst k i;let#[U]:=s;simp only at r;subst r;show#[6,6,6,6,6,6,6,X _ _ zJ,.own o fK x T]
 cases b
section
variable{prog:cx}{w:b0}{A:et}{E:cL}{s:aS}{K:aI}
variable{nm q:Str}{C N nf:Addr}{bs bm eC:en}{hd:Bool}{sn:bY}{sub:en}{ab:Bool}{col:Option Bool}{lV:Option Addr}{k0 k1 k2 k3 k5:yT}{B fy nt:String}
def ajm(F:oK B fy nt bm){a:en}{Q:cL}(T:Bw s.heap bm eC)(X:K.In s.Q)(c:s.heap.get? C=ja (B8 nm q C N bs eC hd sn sub ab col lV k0 k1 k2 k3 k5 fy))(G:cK K (.ref C) "__init__"=ja (ja (.ref nf)))(u:BD K (.ref nf)=ja (.type "function"))(m:a.Z<=sizeLine)(x:∀y e,s.L<=e->τ s.heap y e (.ref C) a->aQ (bj prog w) (A.under (.builtin "type.__call__" #[.ref C::a,[]])) (call (.ref nf) (.ref e::a)) (λr L=>r=.none/\Q (.ref e) L) E {s with heap:=y}):
  aQ (bj prog w) A (call (.ref C) a) Q E s:=by
 let#[h,g,d,t,os]:=s;let I:=tc_lookup;let J:=tc_bind (.ref C);let M:(#[h,g,d,t,os]:aS).TypeIs (.ref C) "type":=#[_,c,2]
 show-sE (auc (show aQ _ _ (callAny (.ref C) _) _ _ _ from ?_))
 repeat (any_goals (first|assumption|with_reducible refine me c ?_|wp_step))
 show#[2,codeAny_call_builtin_at (Pa _ qL) entry_typeCall (wpAny_check_type_call_sub c ?_)]
 repeat (first|with_reducible refine wpAny_madeBy_exc c ?_|with_reducible refine me c ?_|wp_step)
 show-codeAny_call_builtin_code (Pa _ F.quiet) (wpAny_check_new_subT F T c (codeAny_exc_new_subT F T c (show aQ _ _ _ _ _ _ from ?_) m));let f:((h.push {cls:=.type "tuple",data:=.seq a.toArray}).push {cls:=.ref C,data:=.fields (List.toArray [.ref h.Y,.none,.none,.none,.bool jA,.none])}).get? (h.Y+1)=ja {cls:=.ref C,data:=.fields (List.toArray [.ref h.Y,.none,.none,.none,.bool jA,.none])}:=by heap_get
 let mk:τ h ((h.push {cls:=.type "tuple",data:=.seq a.toArray}).push {cls:=.ref C,data:=.fields (List.toArray [.ref h.Y,.none,.none,.none,.bool jA,.none])}) (h.Y+1) (.ref C) a:=
  #[λb o i=>d8 _ (d8 _ i),υ (E6 _),h.Y,f,υ (cy _),d8 _ (agJ rfl rfl)]
 let p:=x _ _ (E6 _) mk;let k:=X.keeps mk.keeps;let l:=mk.keeps _ _ c;let n:(c1 C::eC).contains (.ref C)=jx:=by simp
 show aQ _ _ _ _ _ #[(h.push {cls:=.type "tuple",data:=.seq a.toArray}).push {cls:=.ref C,data:=.fields (List.toArray [.ref h.Y,.none,.none,.none,.bool jA,.none])},g,d,t,os];dsimp only;generalize(h.push {cls:=.type "tuple",data:=.seq a.toArray}).push {cls:=.ref C,data:=.fields (List.toArray [.ref h.Y,.none,.none,.none,.bool jA,.none])}=H at f mk p k l⊢;generalize h.Y=V at f mk p l⊢;unfold GJ
 repeat (first|with_reducible refine me f ?_|(with_reducible show-YF l ?_;rw[n])|wp_step)
 refine(wz k G).here ?_;show-mR (az ((ajA k _ u).here ?_));show aQ _ _ (call (.ref nf) (.ref (V+1)::a) >>=λr=>pure (ja r)) _ _ _;show-az (gB p (λr L j=>?_) λ_ _ z=>z);let#[2,D]:=j
 wp_walk
 show-D
def ajn(F:oK B fy nt bm){R:wA->aS->Prop}{e:Addr}{m:Option Addr}{l:ml}{a:en}(T:Bw s.heap bm eC)(L:s.heap.get? C=ja (B8 nm q C N bs eC hd sn sub ab col lV k0 k1 k2 k3 k5 fy))(k:s.heap.get? e=ja #[.ref C,m,.fields (List.toArray [.ref t0,.none,.none,.none,.bool jA,.none]),l])(p:a.Z<=sizeLine)(y:∀f t,(∀b o,b≠e->s.heap.get? b=ja o->f.get? b=ja o)->f.get? e=ja #[.ref C,m,.fields (List.toArray [.ref t,.none,.none,.none,.bool jA,.none]),l]->R (.ok (.ret .none)) {s with heap:=f}):
  oV (bj prog w) A (.call (.builtin nt) #[.ref e::a,[]]) R s:=by
 let#[h,g,d,t,os]:=s;show-FR F.init.plain F.initEntry (wpAny_check_init_subT F T L k rfl ?_);dsimp only at k⊢
 wp_walk
 let c:(h.push {cls:=.type "tuple",data:=.seq a.toArray}).get? e=_:=d8 _ k;show-y _ h.objs.size (λb o r n=>?_) ?_
 .show((h.push _).update e _).get? b=ja o;rw[s5 _ _ (dG r)];show-d8 _ n
 show((h.push _).update e _).get? e=_;rw[yf _ c rfl];rfl
def afE(T:Bw h bm eC)(self:a5)(a:Str):Xd self a eC=Xd self a bm:=by
 induction T with
 |base=>rfl
 |own _ _ _ _ e=>rw[aey,e]
def á{M:mY}{mA:b6}{name:Str}{ns:bY}{Q:Fin->aS->Prop}(o:s.heap.Ns1 d mA)(r:BE mA ns)(L:ns.Z<=1000)(n:∀a t,a.Ns1 d (λy=>if y=name then ja v else mA y)->j7 d s.heap a->Q (.done (.ret .none)) {s with heap:=a,toks:=t}):
  aQ M A (af8 d (.str name e) name v) Q E s:=by unfold af8 aAP;show-az (bu (az (wpAny_nsSet1 o λa b p=>?_)));let#[m,l,k,f,g,c]:=b.count (ĵ name v r);show-az (aAb f (by rw[g];show-ayH (eh c (by rw[e5,vA];lia))) ?_);show-bu (n _ _ b p)
def al9{name:Str}{F:String}{V:ml}{Q:Unit->aS->Prop}(X:K.In s.Q)(c:StoreFacts B bm F owner)(T:Bw s.heap bm eC)(l:s.heap.get? C=ja (B8 nm q C N bs eC hd sn sub ab col lV k0 k1 k2 k3 k5 fy))(U:cK K (.ref C) "__setattr__"=ja (ja (.builtin F)))(R:cK K (.ref C) name=ja jp)(aY:ka K (.ref C) (.type owner)=ja jx)(a:s.heap.get? x=ja #[.ref C,jp,.fields vs,V])(H:hd=jx)(M:∀f i,f.get? x=ja #[.ref C,ja s.L,.fields vs,V]->f.Ns1 s.heap.objs.size (λy=>if y=name then ja v else jp)->(∀b o,b≠x->s.heap.get? b=ja o->f.get? b=ja o)->Q () {s with heap:=f,toks:=i}):
  aQ (bj prog w) A (H5 (.ref x) name v) Q E s:=by
 let#[h,g,d,t,os]:=s;dsimp only at X T l a;let ty:uv (bj prog w) h (typeOf (.ref x)) (.ref C):=(ĥ a).andThen .now;let Z:uv (bj prog w) h (GJ (.ref x) (.type owner)) jx:=ty.andThen (ajK X aY);unfold H5 callSpecial? specialOf;let O:=c.slot.bind (.ref x)
 repeat (any_goals (first|assumption|with_reducible refine me a ?_|wp_step))
 refine(wz X U).here (mR (az (II O (az (sE (FR c.slot.plain c.entry (ajD c.kind c.split Z (c.args _ _ _) ?_)))))));let p:=c.passes (.ref x);let r3:Xd (.ref x) "__setattr__" eC=pure ():=(afE T _ _).trans p;unfold Builtin.«object.__setattr__»
 repeat (first|rw[refuse_eq]|(rw[aey,r3])|with_reducible refine me a ?_|with_reducible refine aAd l ?_|wp_step)
 refine(wz X R).here (az (bu ?_));show aQ _ _ (O3 _ _ _ _ _ _) _ _ _;unfold O3;show-az (gB (Q:=λ_ j=>j=#[h,g,d,t+1,os]) (E:=λ_ _=>False) ?_ (λ_ _ m=>?_) (λ_ _ z=>z.elim))
 .repeat (first|with_reducible refine me a ?_|with_reducible refine me l ?_|wp_step)
  exact rfl
 subst m;let k:x≠h.Y:=fH (dO a);let G:(h.push {cls:=.type "dict",data:=.dict #[]}).get? x=_:=d8 _ a;show-az (gB (Q:=λr j=>r=ja h.Y/\j=#[(h.push {cls:=.type "dict",data:=.dict #[]}).update x λo=>{o with dict:=ja h.Y},g,d,t+1,os]) (E:=λ_ _=>False) ?_ (λ_ _ m=>?_) (λ_ _ z=>z.elim))
 .show aQ _ _ (Vi x jx) _ _ _;subst H;unfold Vi
  repeat (first|with_reducible refine me a ?_|with_reducible refine me l ?_|wp_step)
  show#[2,2]
 let#[2,2]:=m;let L:((h.push {cls:=.type "dict",data:=.dict #[]}).update x λo=>{o with dict:=ja h.Y}).get? x=ja #[.ref C,ja h.Y,.fields vs,V]:=by rw[yf _ G rfl]
 let I:((h.push {cls:=.type "dict",data:=.dict #[]}).update x λo=>{o with dict:=ja h.Y}).get? h.Y=ja {cls:=.type "dict",data:=.dict #[]}:=
  (s5 _ _ k).trans (agJ rfl rfl)
 let n:((h.push {cls:=.type "dict",data:=.dict #[]}).update x λo=>{o with dict:=ja h.Y}).Ns h.objs.size (λ_=>jp):=#[_,#[],_,I,2,λe P=>bk P qv,λ_=>rfl]
 show-á (mA:=λ_=>jp) (ns:=[]) (agH n) ajN qc λf i Y D=>?_;show-bu (bu (M f i ?_ Y λb o J u=>?_))
 .exact(D.2 x k).trans L
 refine(D.2 b (fH (dO u))).trans ((s5 _ _ (dG J)).trans (d8 _ u))
def akO{name:Str}{p:String}{i:ml}{m:b6}{L:bY}{Q:Unit->aS->Prop}(X:K.In s.Q)(a:StoreFacts B bm p owner)(T:Bw s.heap bm eC)(f:s.heap.get? C=ja (B8 nm q C N bs eC hd sn sub ab col lV k0 k1 k2 k3 k5 fy))(F:cK K (.ref C) "__setattr__"=ja (ja (.builtin p)))(D:cK K (.ref C) name=ja jp)(aY:ka K (.ref C) (.type owner)=ja jx)(b:s.heap.get? x=ja #[.ref C,ja ah,.fields vs,i])(V:hd=jx)(o:s.heap.Ns1 ah m)(G:BE m L)(H:L.Z<=1000)(e:∀c l,c.Ns1 ah (λy=>if y=name then ja v else m y)->j7 ah s.heap c->Q () {s with heap:=c,toks:=l}):
  aQ (bj prog w) A (H5 (.ref x) name v) Q E s:=by
 let#[h,g,d,t,os]:=s;dsimp only at X T f b o;let ty:uv (bj prog w) h (typeOf (.ref x)) (.ref C):=(ĥ b).andThen .now;let J:uv (bj prog w) h (GJ (.ref x) (.type owner)) jx:=ty.andThen (ajK X aY);unfold H5 callSpecial? specialOf;let j:=a.slot.bind (.ref x)
 repeat (any_goals (first|assumption|with_reducible refine me b ?_|wp_step))
 refine(wz X F).here (mR (az (II j (az (sE (FR a.slot.plain a.entry (ajD a.kind a.split J (a.args _ _ _) ?_)))))));let M:Xd (.ref x) "__setattr__" eC=pure ():=(afE T _ _).trans (a.passes (.ref x));unfold Builtin.«object.__setattr__»
 repeat (first|rw[refuse_eq]|(rw[aey,M])|with_reducible refine me b ?_|with_reducible refine aAd f ?_|wp_step)
 refine(wz X D).here (az (bu ?_));show aQ _ _ (O3 _ _ _ _ _ _) _ _ _;unfold O3;show-az (gB (Q:=λ_ n=>n=#[h,g,d,t+1,os]) (E:=λ_ _=>False) ?_ (λ_ _ k=>?_) (λ_ _ z=>z.elim))
 .repeat (first|with_reducible refine me b ?_|with_reducible refine me f ?_|wp_step)
  exact rfl
 subst k;show-az (gB (Q:=λr n=>r=ja ah/\n=#[h,g,d,t+1,os]) (E:=λ_ _=>False) ?_ (λ_ _ k=>?_) (λ_ _ z=>z.elim))
 .show aQ _ _ (Vi x jx) _ _ _;subst V;unfold Vi
  repeat (first|with_reducible refine me b ?_|with_reducible refine me f ?_|wp_step)
  show#[2,2]
 let#[2,2]:=k;show-á o G H λc l I u=>?_;show-bu (bu (e c l I u))
end
def mw(e C:Addr):hX:=.ext λh=>∃t a,h.get? e=ja #[.ref C,jp,.fields (List.toArray [.ref t,.none,.none,.none,.bool jA,.none]),a]
def mv(e C a:Addr):hX:=.ext λh=>∃t b,h.get? e=ja #[.ref C,ja a,.fields (List.toArray [.ref t,.none,.none,.none,.bool jA,.none]),b]
def SR(e C a:Addr):hX:=.ext λh=>∃vs b,h.get? e=ja #[.ref C,ja a,.fields vs,b]
def mS(d:Addr)(a:List (Str×V)):hX:=.ext λh=>a.Z<=100/\∃b,h.Ns1 d b/\(∀f,k6 (a.lookup f) (b f))/\BE b (a.map (·.1))
section
variable{P:cx}{w:b0}{H:af}{h:Heap}{e C ah d:Addr}
theorem Ŏ{t:Addr}{a:ml}(q:h.get? e=ja #[.ref C,jp,.fields (List.toArray [.ref t,.none,.none,.none,.bool jA,.none]),a]):fh P w H h e (mw e C):=
 #[#[t,a,q],#[_,q],λ_ _⟨t,a,z⟩k=>#[t,a,k _ z]]
theorem aoe{t:Addr}{a:ml}(q:h.get? e=ja #[.ref C,ja ah,.fields (List.toArray [.ref t,.none,.none,.none,.bool jA,.none]),a]):fh P w H h e (mv e C ah):=
 #[#[t,a,q],#[_,q],λ_ _⟨t,a,z⟩k=>#[t,a,k _ z]]
theorem aof{a:ml}(q:h.get? e=ja #[.ref C,ja ah,.fields vs,a]):fh P w H h e (SR e C ah):=
 #[#[vs,a,q],#[_,q],λ_ _⟨t,a,z⟩k=>#[t,a,k _ z]]
def Ō{fs:List (Str×V)}{a:b6}(z:fs.Z<=100)(n:h.Ns1 d a)(r:∀f,k6 (fs.lookup f) (a f))(b:BE a (fs.map (·.1))):fh P w H h d (mS d fs):=by
 obtain⟨o,q⟩:∃o,h.get? d=ja o:=by let#[o,6,q,_]:=n.ns;show#[o,q]
 show#[#[z,a,n,r,b],#[o,q],λ_ _⟨z,a,n,r,b⟩k=>#[z,a,n.at k,r,b]]
end
section
variable{X:bA}{pins:dU}{U:al.St}{H:af}{s:aS}
def Inv.put2{m:Heap}{B:Nat}{d:Addr}{N:Heap->Prop}(I:Inv X pins U H s)(K:H e=ja (.ext N))(A:s.L<=d)(k:∀b o,b≠e->s.heap.get? b=ja o->m.get? b=ja o)(y:∃o,m.get? e=ja o)(j:fh X.prog X.w (upd (upd H d h) e i) m e i)(x:fh X.prog X.w (upd (upd H d h) e i) m d h):Inv X pins U (upd (upd H d h) e i) {s with heap:=m,toks:=B}:=by
 let w:H d=jp:=I.bC.fresh A;let V:∀o,s.heap.get? d≠ja o:=λo z=>qp _ (jk (dO z) A);let p:∀b,H b=jp->b≠e:=λb n z=>by rw[z,K]at n;cases n
 let a:∀{b:Addr}{u:hX},H b=ja u->b≠e->upd (upd H d h) e i b=ja u:=λ{b u}q n=>by rwa[aJ n,aJ (cI q w)]
 let l:∀{b:Addr}{u:hX},H b=ja u->(∀f,u≠.ext f)->b≠e:=λ{b u}q n z=>by subst z;rw[K]at q;show-n N (gN q).symm
 show-I.un #[λb o q n _ _=>k b o (p b n) q,λb o q n _ _=>#[o.slots,k b o (p b n) q],λb o q n _=>?_,λb o q _=>?_,λb C q=>a q (l q (by intro f z;cases z)),λb o u q=>a q (l q (by intro f z;cases z)),λb D q=>#[#[],by rw[a q (l q (by intro f z;cases z))];simp]] λb u q=>?_
 .rw[aJ (p b n),aJ (show b≠d fromλz=>V o (by rwa[<-z]))];exact n
 .by_cases g:b=e
  .subst g;show-y
  show#[o,k b o g q]
 by_cases g:b=e
 .subst g;rw[aN]at q;cases q;show-j
 rw[aJ g]at q;by_cases L:b=d
 .subst L;rw[aN]at q;cases q;show-x
 rw[aJ L]at q;refine(I.bC b u q).pn (λc v t r=>k c v ?_ r) (λc r=>a r (l r (by intro f z;cases z))) λc C r=>a r (l r (by intro f z;cases z));rcases t with rfl|t
 .exact g
 show-l t (by intro f z;cases z)
def aot{H:af}(h:H a=ja o):upd H a o=H:=by
 funext b;by_cases c:b=a
 .subst c;rw[aN,h]
 rw[aJ c]
structure oS(K:aI)(mg:b6)(y:Str)(C R:Addr):Prop where
 base:Exc K mg y R [.type "ValueError",.type "Exception",.type "BaseException",.type "object"] "ValueError.__new__"
 lk:∃lV qx q3 Lr th NH,K.lookup C=ja #[.type "type",lV,.cls qx,q3]/\K.lookup R=ja #[.type "type",Lr,.cls th,NH]/\Ef qx th q3 C "ValueError.__new__"=jx/\qx.hasDict=jx
 hf:cK K (.ref C) "__setattr__"=ja (ja (.builtin "object.__setattr__"))
 ob:ka K (.ref C) (.type "object")=ja jx
 fN:į K R (.type "type")=jx
 LH:ħ K (.ref R) (.type "type") "__init__"=ja (.val (.builtin "ValueError.__init__"))
 DD:pM K (.ref R) "__getattribute__"=ja (ja (.builtin "type.__getattribute__"))
 iU:qh K C
 hd:Fc K C=jx
end
def oS.obj{K:aI}{A:b6}{h:Heap}(x:oS K A y C R)(X:K.In h):
  ∃o q N d b p sub c a n f g k l m,h.get? C=ja (B8 o q C N d b jx p sub c a n f g k l m "ValueError.__new__")/\Bw h [.type "ValueError",.type "Exception",.type "BaseException",.type "object"] b:=by let#[n,j,i,V,s,e,L,t,n9,w]:=x.lk;let#[o,q,N,d,b,p,sub,c,a,f,g,k,l,m,r,T]:=akN X x.base L t n9;rw[w]at r;show#[o,q,N,d,b,p,sub,c,a,n,f,g,k,l,m,r,T]
section
variable{X:bA}{o e value:Expr}{es:hO}{f y:Str}{pos pos' fS np:Pos}{cu bf:TE}{t:fR}{R:Addr}
def azA(K:aI)(c:b6)(y:Str)(R:Addr)(t:fR):TE:=λU H Q=>t U H λvs b=>∃e C a,vs=.ref e::a/\b e=ja (mw e C)/\oS K c y C R/\a.Z<=sizeLine/\Q .cw b
def ο{pl:Sem Bool}(G:jR X y)(hm:X.mg y=ja (.ref R))(D:į X.K R (.type "type")=jx)(A:ħ X.K (.ref R) (.type "type") "__init__"=ja (.val (.builtin "ValueError.__init__")))(w:pM X.K (.ref R) "__getattribute__"=ja (ja (.builtin "type.__getattribute__")))(K:fI X (e::es) t)(M:(y==("__debug__":Str))=jA:=by decide)(O:dh (e::es) X.env=(jA,eval e X.env)::dh es X.env:=by rfl)(fV:(hE pos (dh es X.env)).any (·.1)=jA:=by rfl)(i:eval (.Call (.Attribute (.Name y np) "__init__" fS) (e::es) [] pos) X.env=(do
   let n <-eval (.Name y np) X.env
   vC fS.atName
   let(f,first) <-tr [n] (zj n "__init__" pl)
   y1 pos f first (hE pos (dh (e::es) X.env)) (n3 pos (ot [] X.env))):=by rfl):
  a' X (.Call (.Attribute (.Name y np) "__init__" fS) (e::es) [] pos) (azA X.K X.mg y R t):=by
 intro d s U H Q I h;show-Fd (pl:=pl) (vq I G hm ?_ M) i;show-PySem.W.method_cls I.e1 w (PySem.W.cls_value I.e1 D A qL ?_);show-ajp (bT (K pos d _ U H _ (I.tok _) h) λus r k=>?_) O fV;let#[vs,l,g,V,a,C,p,B,hex,J,k,q]:=k;subst B;cases V with
 |cons Y P=>
  cases Y;let#[#[t0,bz,F],6]:=(show fh X.prog X.w l r.heap a (mw a C)from g.bC a _ hex)
  let#[nm,k4,N,bs,eC,sn,sub,Z,j,lV,k0,k1,k2,k3,k5,E,T]:=J.obj g.e1;show-sE (ajn pL T E F (by rwa[<-P.Z]) λh' t1 z c=>?_);let m:=g.write (t':=r.toks) (x:=a) (e:=a) (o:=mw a C) (by rw[hex];exact trivial) (.inl rfl) (λb u L q=>z b u L q) #[_,c] (Ŏ c);rw[aot hex]at m;show#[.cw,l,m,2,q]
def aqB(K:aI)(g:b6)(y:Str)(R:Addr)(k bf:TE)(f:Str):fJ:=λD U H=>bf U H λv d=>k U d λx b=>∃e C,x=.ref e/\oS K g y C R/\cK K (.ref C) f=ja jp/\
 ((b e=ja (mw e C)/\∀a,b a=jp->a≠e->D.dq U (upd (upd b a (mS a [(f,v)])) e (mv e C a)))\/
 ∃a c,b e=ja (mv e C a)/\b a=ja (mS a c)/\c.Z<100/\D.dq U (upd b a (mS a (lJ f v c))))
def Pp(J:a' X o cu)(Q:a' X value bf)(hs:xH value (ja (.Attribute o f pos')) pos.line X.env=pure jA):i7 X (.Assign [.Attribute o f pos'] value pos) (aqB X.K X.mg y R cu bf f):=by
 intro c s U H D I h;show-ayJ (bT (Q c s U H _ I h) λu s1 w=>?_) hs;let#[v,G,P,j,q]:=w;show-bT (J c s1 U G _ P q) λg7 A w=>?_;let#[x,L,a,Y,e,C,ex,n,F,l]:=w;subst ex;obtain rfl:g7=c1 e:=Y;let#[nm,k4,N,bs,eC,sn,sub,ab,col,lV,k0,k1,k2,k3,k5,B,T]:=n.obj a.e1;rcases l with⟨r,l⟩|⟨ah,fs,r,i,w,l⟩
 .let#[#[t0,Z,K],6]:=(show fh X.prog X.w L A.heap e (mw e C)from a.bC e _ r)
  refine al9 a.e1 ajw T B n.hf F n.ob K rfl λh' i4 E p dm=>?_;let p4:A.L≠e:=wq (dO K);show#[U,_,Inv.put2 a r (cy _) dm #[_,E] (aoe E) (Ō (fs:=[(f,v)]) (show 1<=100 by decide) p (λg=>?_) ?_),l _ (a.bC.fresh (cy _)) p4]
  .by_cases m:g=f
   .subst m;let k:(g==g)=jx:=rM.mpr rfl;simp only[wd,k,b2];show-j
   let k:(g==f)=jA:=BY.mpr m;simp only[wd,k,bL m];exact trivial
  show-ĵ f u ajN
 let#[#[t0,Z,K],6]:=(show fh X.prog X.w L A.heap e (mv e C ah)from a.bC e _ r)
 let#[#[O,mA,fK,V,d],#[ek,M],_]:=(show fh X.prog X.w L A.heap ah (mS ah fs)from a.bC ah _ i)
 refine akO a.e1 ajw T B n.hf F n.ob K rfl fK d (by rw[bQ];lia) λh' i4 p cf=>?_;show#[U,_,a.write (x:=ah) (e:=ah) (o:=mS ah (lJ f v fs)) (by rw[i];exact trivial) (.inl rfl) (λb z k q=>(cf.2 b k).trans q) (by let#[cN,6,q,_]:=p.ns;show#[cN,q]) (Ō ?_ p (λg=>?_) ?_),l]
 .have:=Yf f v fs;lia
 .rw[Ye];by_cases q:g=f
  .rwa[b2 q,b2 q]
  rw[bL q,bL q];show-V g
 intro g m;by_cases q:g=f
 .rw[q];exact(Hy f v fs).1
 exact(Hy f v fs).2 g (d g λz=>m (by show(if g=f then ja u else mA g)=jp;rwa[bL q]))
end
section
variable{X:bA}{k:Nat}{f C R:Addr}{fd:nM}{ps:bY}{sp:fu}{y:Str}
def akI{H:af}{s:aS}{vs:aL}{Rr:Addr->Addr->af->Prop}(Z:oS X.K X.mg y C R)(Q:cK X.K (.ref C) "__init__"=ja (ja (.ref f)))(B:rI X.K (.ref f)=jx)(F:aA X.prog X.w X.K X.mg X.base a6 k f fd ps sp)(q:gU (k+1) X.A)(j:Binds X.K fd ps [])(I:Inv X pins U H s)(r:dM vs us)(Y:vs.Z<=sizeLine)(h:∀e,H e=jp->sp (.ref e::vs) (upd H e (mw e C)) (λv c=>v=.cw/\∃b,c e=ja (mv e C b)/\Rr e b c) dZ):
  aQ (bj X.prog X.w) X.A (call (.ref C) us) (λu K=>∃e b c,u=.ref e/\s.heap.get? e=jp/\Inv X pins U c K/\c e=ja (mv e C b)/\Rr e b c) X.dN s:=by
 let#[nm,k4,N,bs,eC,sn,sub,ab,J,lV,k0,k1,k2,k3,k5,O,T]:=Z.obj I.e1;show-ajm pL T I.e1 O Q (rM.mp B) (by rwa[<-r.Z]) λA e d mk=>?_;let#[t,P,L,cm]:=mk.there;let l:Inv X pins U (upd H e (mw e C)) {s with heap:=A}:=I.laid (a:=e) (o:=mw e C) (t':=s.toks) mk.keeps d (Ŏ P);let n:=h e (I.bC.fresh d);let w:dM (V.ref e::vs) (c1 e::us):=.cons rfl r;let z:(c1 e::us++[]).Z=ps.Z:=by let m:=w.Z;rw[F.len _ _ _ _ n]at m;rw[kK];show-m.J
 let p:=j {s with heap:=A} (c1 e::us) l.e1 z;rw[kK]at p;show-sE (qy (F.run _ X.stack _ _ #[c1 e::us,[]] (c1 e::us) _ _ dZ (q.make C us []) (l.F2.make C us []) p w n) λqb K g=>?_);cases qb with
 |error x=>show-i6 g
 |ok ez=>
  cases ez with
  |ret u=>
   let#[v,H',E,G,M,b,i,D]:=l.after g;subst M;show#[G,e,b,H',2,mk.new,E,i,D]
  |next=>show-i6 g
  |brk=>show-i6 g
  |cont=>show-i6 g
end
section
variable{prog:cx}{w:b0}{A:et}{E:cL}{s:aS}{env:Env}{K:aI}{mg:b6}{y:Str}{C R:Addr}
def ama{x:Sem a5}{Q:Flow->aS->Prop}(V:oS K mg y C R)(o:A.handled=jp)(h:aQ (bj prog w) A x (λv a=>∃e c t f,v=.ref e/\K.In a.Q/\a.heap.get? e=ja #[.ref C,ja c,.fields (List.toArray [.ref t,.none,.none,.none,.bool jA,.none]),f]/\E (.ref e) a) E s):
  aQ (bj prog w) A (aex env (ja x) jp) Q E s:=by
 unfold aex;show-az (gB h (λv a m=>?_) λ_ _ x=>x);let#[e,c,t,f,2,X,L,r]:=m;let#[J,G,N,u,p,M,sub,i,n,I,z,B,D,F,H,k,T]:=V.obj X;let l:(c1 C::p).contains (.type "BaseException")=jx:=by rw[ahP,T.hasType (b:=jx) qc,af1]
 let#[j,g,d,q,os]:=a
 repeat (first|with_reducible refine me L ?_|with_reducible refine me k ?_|(with_reducible show-YF k ?_;rw[l])|wp_step)
 show-wpAny_raiseNew_none o r
def Ë(h:Heap)(b:Addr)(c:Option Addr):Prop:=∀a,c=ja a->∃o,h.get? b=ja o/\o.dict=ja a
end
def iv(P:cx)(w:b0):oJ:=λg H s E e d=>∃(b:Addr)(a f:a5)(H':af)(B:Heap)(c:Option Addr),e=.ref b/\lA P w g H s b a f H' B d/\Ë d.heap b c/\E a c H'
def q_(h:dn P w fr H s E e i):iv P w fr H s E e i:=by let#[c,a,b,H',B,2,T,q]:=h;show#[c,a,b,H',B,jp,2,T,(by intro d z;cases z),q]
def del(H:af)(a:Addr):af:=λb=>if b=a then jp else H b
def OL:del H a a=jp:=by unfold del;rw[b2 rfl]
def q0{H:af}(h:b≠a):del H a b=H b:=by unfold del;rw[bL h]
section
variable{P:cx}{w:b0}{K:aI}{mg:b6}{base:Heap}{N:bY}{qual:Str}{scope:Scope}{f:Addr}{cdv:a5}{A:et}{outer:List Env}{s:aS}{H:af}{E:bF}
abbrev ki(P:cx)(w:b0)(K:aI)(mg:b6)(base:Heap)(N:bY)(qual:Str)(scope:Scope)(f:Addr)(cdv:a5)(A:et)(outer:List Env)(s:aS)(H:af)(E:bF):bA:=
 j3 (iv P w) P w K mg base N qual scope f cdv A outer s H E
def ae5(I:Inv (!ki) pins U H1 s1):Inv (!eI) pins U H1 s1:=(I.mQ _)
theorem asR(h:(!eI).dN e i):(!ki).dN e i:=
 gB h (λ_ _ q=>q_ q) λ_ _ q=>q_ q
def OM:om (dn P w) (!ki) E:=(λa U b d e c I h=>asR (jn a U b d e c (ae5 I) h))
def agu{d:af}(I:Inv (!ki) pins U d s1)(Y:d h=ja (mv h C ah))(i:s.heap.get? h=jp)(gv:E (.ref C) (ja ah) (del d h)):(!ki).dN (.ref h) s1:=by
 let#[#[t,bz,u4],6]:=(show fh P w d s1.heap h (mv h C ah)from I.bC h _ Y)
 obtain⟨S,J⟩:∃S,S=fa (!ki).stack:=#[1]
 let pV:∀g∈(!ki).stack,∀b,g.frame=ja b->b∈h::S:=λg he b a=>by rw[J];show-nO _ (JX.mpr #[g,he,a])
 let T:∀b o,d b=ja o->b∉S:=λb o e z=>by rw[J]at z;rw[I.NS b z]at e;cases e
 let h3:∀b o,s1.heap.get? b=ja o->b≠h->b∉S->(nS s1.heap (h::S)).get? b=ja o:=λb o e n m=>Ku _ e λz=>by
  rcases dQ.mp z with z|z
  .exact n z
  show-m z
 let x:∀b o,s.heap.get? b=ja o->b≠h:=λb o e z=>by rw[z,i]at e;cases e
 let R:∀b o,s.heap.get? b=ja o->b∉fa outer->b∉S:=λb o e a=>by rw[J];show-Ad (ae5 I) e a
 let p:∀{b:Addr}{u:hX},d b=ja u->(∀l,u≠.ext l)->b≠h:=λ{b u}q n z=>by subst z;rw[Y]at q;show-n _ (gN q).symm
 let V:(nS s1.heap (h::S)).get? h=jp:=ĩ _ (.head _);show-gB (Iu afg (wpAny_leaving_firstW (base:=nS s1.heap (h::S)) (a0:=.ref t) (Q:=λ_ s'=>∃L,s'={s1 with heap:=L}/\Heap.LeftW (nS s1.heap (h::S)) _ h (.ref C) (.ref t) s1.heap L) (E:=λ_ _=>False)
  I.ok.frames (ajE I.stack pV) rfl u4 (λb o q=>QA _ q) V rfl rfl rfl λL O=>#[L,2,O])) (λ_ s'⟨⟨L,es,O⟩,d7⟩=>?_) λ_ _ z=>z.1.elim
 subst es;let#[k1,#[6,k2],k3,tW]:=O;let F:ub (nS s1.heap (h::S)) outer h (.ref C) (.ref t) L:=#[k1,V,k2,k3]
 show#[h,.ref C,.ref t,del d h,_,ja ah,2,#[F,I.os,I.bare,λb j e=>?_,#[λb o e n a k=>?_,λb o e n a k=>?_,λb o e n k=>?_,λb o e k=>?_,λb xs q=>?_,λb o u q=>?_,λb ps q=>?_],λb o e a=>?_],4,gv]
 .let a:b≠h:=λz=>by rw[z,OL]at e;cases e
  rw[q0 a]at e;refine(I.bC b j e).pn (λc u B q=>?_) (λc r=>by rw[q0 (p r (by intro l z;cases z))];show-r) λc xs r=>by rw[q0 (p r (by intro l z;cases z))];show-r
  rcases B with rfl|B
  .exact h3 c u q a (T c _ e)
  show-h3 c u q (p B (by intro l z;cases z)) (T c _ B)
 .exact F.1 b o (h3 b o (I.base.keep b o e n a k) (x b o e) (R b o e a))
 .let#[qd,z]:=I.base.slot b o e n a k;let#[_,j,D,M]:=I.l0.mem a;rw[z]at D;cases D;let#[Xz,G]:=tW b _ z M;show#[Xz,G]
 .rw[q0 (x b o e)];show-I.base.free b o e n k
 .let#[y,z]:=I.base.there b o e k;by_cases a:b∈fa outer
  .let#[_,j,D,M]:=I.l0.mem a;let#[qd,G]:=tW b _ D M;show#[_,G]
  show#[y,F.1 b y (h3 b y z (x b o e) (R b o e a))]
 .let r:=I.base.gZ b xs q;rw[q0 (p r (by intro l z;cases z))];show-r
 .let r:=I.base.jq b o u q;rw[q0 (p r (by intro l z;cases z))];show-r
 .let#[m,r]:=I.base.jO b ps q;show#[m,by rw[q0 (p r (by intro l z;cases z))];show-r]
 .let#[y,z]:=I.base.there b o e (by simp[ki,j3]);show#[y,h3 b y z (x b o e) (R b o e a),λn=>?_];let X:=I.base.keep b o e n a (by simp[ki,j3]);rw[z]at X;show-gN X
 intro Lv dc;cases dc;let#[j,Z,_]:=F.there;show#[j,Z,d7.dict u4 Z]
def amb(C:Addr)(sp:fu)(E:bF)(d:fR):fJ:=λ_ U H=>d U H λvs a=>vs.Z<=sizeLine/\∀e,a e=jp->sp (.ref e::vs) (upd a e (mw e C)) (λv b=>v=.cw/\∃c,b e=ja (mv e C c)/\E (.ref C) (ja c) (del b e)) dZ
def HF{k:Nat}{l:Pos}{b:Expr}{a:hO}{j:fR}(B:oS K mg y C R)(hm:mg x=ja (.ref C))(n:m4 K (.ref C)=jx)(hi:cK K (.ref C) "__init__"=ja (ja (.ref G)))(Z:rI K (.ref G)=jx)(F:-aA a6 k G fd ps sp)(Y:gU (k+1) (!ki).A)(T:Binds K fd ps [])(hg:jR (!ki) x)(O:fI (!ki) (b::a) j)(jr:(x==("__debug__":Str))=jA:=by decide)(he:dh (b::a) (!ki).env=(jA,eval b (!ki).env)::dh a (!ki).env:=by rfl)(fV:(hE l (dh a (!ki).env)).any (·.1)=jA:=by rfl):
  i7 (!ki) (.Raise (ja (.Call (.Name x np) (b::a) [] l)) jp pos) (amb C sp E j):=by
 intro d s1 U J D I h;rw[arm_exec_Raise];show-az (DY ?_);show aQ _ _ (aex _ (ja (do
  let v <-eval (.Call (.Name x np) (b::a) [] l) (!ki).env
  vC pos
  pure v)) jp) _ _ _
 show-ama B (I.ok.hd rfl) (az (DU (vq I hg hm ?_ jr)));show-BC (h₀:=base) I.ok.mod.tF n (bT (O l d s1 U J _ I h) λus s2 c=>?_) he fV;let#[vs,i,p,r,c,q]:=c;show#[p.e1,4];show-bT (akI (X:=!ki) (Rr:=λe g i=>E (.ref C) (ja g) (del i e)) B hi Z F Y T p r c q) λu s3 c=>?_;let#[e,g,Q,oX,m,L,V,gv]:=c;subst oX;let#[#[t,bz,u4],6]:=(show fh P w Q s3.heap e (mv e C g)from L.bC e _ V)
 show-az (DY (bu #[e,g,t,bz,2,L.e1,u4,agu L V ?_ gv]));cases M:s.heap.get? e with
 |none=>rfl
 |some o=>
  let#[cN,z]:=p.base.there e o M (by simp[ki,j3]);rw[m]at z;cases z
def je{st:Stmt}{a:bY}{k:Nat}{sp:fu}(F:b1 K x qual st f fd)(S:cp N a (bW st))(l:∀(cdv:a5)(A:et)(outer:List Env)(s:aS)(H:af)(vs:aL)(Q:aO)(E:bF),gU k (A.deeper (qD qual (bW st) s.heap.objs.size f cdv))->sp vs H Q E->
   ∃t,ie (-ki N qual (bW st) f cdv A outer s H E) (mx st) t/\t {dq:=λ_ H'=>Q .cw H',gz:=Q} (start N vs) H)(len:∀vs H Q E,sp vs H Q E->vs.Z=a.Z:=by intro _ _ _ _ h;first|(cases h<;>subst_vars<;>rfl)|((repeat let#[_,h]:=h);subst_vars;rfl)|(cases h.1;subst_vars;rfl)):-aA (iv P w) (k+1) f fd a sp:=by let#[p,n,ec,c,y,m,cdv,o,r,2,lk,d]:=F.ex;show-QI lk d S len λA outer s H vs Q E b g=>l cdv A outer s H vs Q E b g
end
def Rj(X:bA)(b:dU)(U:al.St)(E:bF)(e:a5)(g:aS):Prop:=
 ∃(d:af)(k:aS)(c:Addr)(a l:a5)(H':af)(B:Heap)(f:Option Addr),e=.ref c/\Inv X b U d k/\lA X.prog X.w X.stack d k c a l H' B g/\Ë g.heap c f/\E a f H'
def ę(X:bA)(e:Expr)(t:yQ):Prop:=
 ∀(a:dU)(s:aS)(U:al.St)(H:af)(Q:aO)(E:bF),Inv X a U H s->t E U H Q->aQ (bj X.prog X.w) X.A (eval e X.env) (jh X a U Q) (Rj X a U E) s
def ě(X:bA)(st:Stmt)(t:tc):Prop:=
 ∀(a:dU)(s:aS)(U:al.St)(H:af)(D:Ends)(E:al.St->bF),Inv X a U H s->t D E U H->aQ (bj X.prog X.w) X.A (exec st X.env) (uy X a D) (λe c=>∃b,Rj X a b (E b) e c) s
section
variable{X:bA}{e o:Expr}{es:hO}{pos fS p:Pos}{k:Nat}{f C:Addr}{fd:nM}{ps:bY}{sp:fu}{cu:TE}{t:fR}{m x:Str}
def amc(F:aA X.prog X.w X.K X.mg X.base (iv X.prog X.w) k f fd ps sp)(n:gU k X.A)(l:Binds X.K fd ps [])(I:Inv X pins U H s)(r:dM vs us)(h:sp vs H Q E):aQ (bj X.prog X.w) X.A (call (.ref f) us) (jh X pins U Q) (Rj X pins U E) s:=by
 let w:(us++[]).Z=ps.Z:=by rw[kK,<-r.Z];show-F.len _ _ _ _ h
 let c:=l s us I.e1 w;rw[kK]at c;show-sE (qy (F.run X.A X.stack s H #[us,[]] us vs Q E n I.F2 c r h) λr K a=>?_);cases r with
 |error e=>
  let#[g,b,d,H',B,y,2,T,lk,A]:=a;show#[H,s,g,b,d,H',B,y,2,I,T,lk,A]
 |ok ez=>
  cases ez with
  |ret u=>show-I.after a
  |next=>show-i6 a
  |brk=>show-i6 a
  |cont=>show-i6 a
def akJ{b:yQ}(l:ę X e b)(n:xH e jp pos.line X.env=pure jA:=by rfl):ě X (.Expr e pos) (anY b):=by intro a s U H D E I h;show-az3 (gB (l a s U H _ _ I h) (λv A r=>?_) λe y q=>#[U,q]) I.quiet n;let#[x,c,d,w,g]:=r;show#[U,c,d,g]
end
section
variable{M:mY}{A:et}{E:cL}{s:aS}{B:Heap}{e L:Addr}{cls a0:a5}{Q:Unit->aS->Prop}{env:Env}{outer l:List Env}
theorem alX(o:A.frames=ja (env::outer))(g:env.frame=ja L)(f:ub B (env::outer) e cls a0 s.Q)(n:∀c,σ B (env::outer) e cls a0 L c->s.heap.UpToSlots c->jt s.heap c->Q () {s with heap:=c}):aQ M A (xu (.ref e) env) Q E s:=
 gB (Iu Z4 (afo (Q:=λ_ d=>∃c,d={s with heap:=c}/\σ B (env::outer) e cls a0 L c/\s.heap.UpToSlots c) (E:=λ_ _=>False) o g f λc a b=>#[c,2,a,b])) (λ_ d⟨⟨c,m,a,b⟩,k⟩=>by subst m;show-n c a b k) λ_ _ z=>z.1.elim
theorem alY(g:σ B l e cls a0 L s.Q)(m:∀c,ub B l e cls a0 c->s.heap.UpToSlots c->jt s.heap c->Q () {s with heap:=c}):aQ M A (NP (.ref e) jp) Q E s:=
 gB (Iu W3 (afn (Q:=λ_ d=>∃c,d={s with heap:=c}/\ub B l e cls a0 c/\s.heap.UpToSlots c) (E:=λ_ _=>False) g λc a b=>#[c,2,a,b])) (λ_ d⟨⟨c,k,a,b⟩,f⟩=>by subst k;show-m c a b f) λ_ _ z=>z.1.elim
theorem alZ(g:ub B l e cls a0 s.Q)(m:∀c,ub B l e cls a0 c->s.heap.UpToSlots c->jt s.heap c->Q () {s with heap:=c}):aQ M A (NP (.ref e) jp) Q E s:=
 gB (Iu W3 (lands_againW (Q:=λ_ d=>∃c,d={s with heap:=c}/\ub B l e cls a0 c/\s.heap.UpToSlots c) (E:=λ_ _=>False) g λc a b=>#[c,2,a,b])) (λ_ d⟨⟨c,k,a,b⟩,f⟩=>by subst k;show-m c a b f) λ_ _ z=>z.1.elim
end
def π{K:aI}{xs:aL}{g:kN}{c:fJ}{D:Ends}{H:af}(b:Nat->al.St->af->Prop)(o:b 0 U H)(n:∀i U H,b i U H->aM K H a xs)(A:∀i x U H p,xs[i]?=ja x->b i U H->H p=jp->g (.ref p) U (upd H p (.tup [.int i,x])) λL f=>c {D with dq:=b (i+1),gd:=b (i+1),i8:=D.dq} L f)(w:∀U H,b xs.length U H->D.dq U H):
  AN (yk K a) g c D U H:=by
 show#[λi m U H=>m=xs.Z-i/\i<=xs.Z/\b i U H,#[xs.Z,by simp,ei _,o],4];rintro i m U H ⟨rfl,V,p⟩;let q:=n i U H p;by_cases d:i<xs.Z
 .refine .inr #[#[xs,xs[i],q,by simp[d]],b (i+1),λN H' t=>#[xs.Z-(i+1),9,2,d,t],λv H' y=>?_];let#[r,x,k,2,l,2]:=y;show-A i x U H r (l xs q) p k
 let e:i=xs.Z:=by lia
 subst e;show-.inl #[#[xs,q,cy _],w U H p]
end bX
namespace dP
open PySem al bX cE
def al0(x y:Str):kx (.str x) (.str y)=decide (x=y):=by
 by_cases h:x=y
 .subst h;rw[cQ rfl];simp[kx]
 rw[dJ h];simp[kx,h]
def al1{a:ba}{k:Nat}(h:k<a.Z):inD (.str (S (a.getD k []))) (a8 a)=jx:=by
 unfold inD a8;rw[oN];let hm:a.getD k []∈a:=by rw[gL,ew h];show-uh h
 show#[_,cD.mpr #[_,cD.mpr #[_,hm,2],2],by rw[al0];exact cQ rfl]
def One(H:af)(l:Addr)(d:aL):Prop:=∃t,H l=ja (.lst [.ref t])/\H t=ja (.tup d)
def One.same(o:One H l d)(s:av H H'):One H' l d:=(let⟨t,a,b⟩:=o;#[t,s _ _ a,s _ _ b])
def One.upd{H:af}(o:One H l d)(a8:H D=ja (.lst xs))(n:l≠D):One (al.upd H D (.lst e)) l d:=by let#[t,a,b]:=o;show#[t,by rwa[aJ n],by rw[aJ (f5 b a8 (by intro z;cases z))];show-b]
theorem afF{c d:Type}{F G:c->d->Prop}:∀{l:List c}{m:List d},b9 F l m->(∀a∈l,∀b,F a b->G a b)->b9 G l m
 |_,_,.nil,_=>.nil
 |_,_,.cons r t,h=>.cons (h _ (.head _) _ r) (afF t λa f b=>h a (.tail _ f) b)
def aBl{T:eG}{B:TE}{c:al.St}{p:af}{Q:aO}{J:ff}{n:aL}(hw:∀R:ff->af->Prop,R J p->T U H R)(fb:hG cs U=jp::c)(c0:nZ J p n)(au:n.Z<sizeLine)(f:Nat->List al.V)(E:∀(i:Nat)(x:al.V)(A:af)(R:aO),n[i]?=ja x->av p A->(∀l j,A l=jp->av A j->One j l (f i)->R (.ref l) j)->B (ja x::c) A R)(G:∀(D:Addr)(H':af)(g:b5),p D=jp->H' D=ja (.lst (bw g))->b9 (One H') g ((fk n.Z).map f)->g.Nodup->(∀l∈g,p l=jp/\l≠D)->av p H'->Q (.ref D) H'):jf T cs (hR 0) oE B U H Q:=by
 show-hw _ λD a8=>?_;show#[λi m M P H'=>m=n.Z-i/\i<=n.Z/\(∃g,M=bw g/\b9 (One H') g ((fk i).map f)/\g.Nodup/\∀l∈g,p l=jp/\l≠D)/\(∃o,P=o::c)/\av p H'/\H' D=ja (.lst M),#[n.Z,by simp,ei _,#[[],2,.nil,pI,λl h=>bk h ee],#[jp,by rw[fb]],λb o e=>?_,aN],4]
 .rwa[aJ (cI e a8)]
 rintro i m M P H' ⟨rfl,hi,⟨g,rfl,s,O,I⟩,⟨o,rfl⟩,V,K⟩;let#[gA,h_,hT]:=c0 H' V;let ln:=jz s;rw[bQ,s6]at ln;show#[K,qq (by rw[gX];lia) au,4];by_cases C:i<n.Z
 .refine .inr #[h_ i C,λx A y=>?_];let#[2,ex]:=hT i x A C y;show B (ja x::c) A _;show-E i x A _ ex V λl j L q Z=>#[q _ _ K,n.Z-(i+1),9,2,C,#[g++[l],HP g l,4,4,4],#[1],λb ob e=>?_,aN]
  .rw[Bh,fP];let u:l≠D:=λz=>by rw[z,K]at L;cases L
   show-Paired.snoc (F:=One (al.upd j D _)) (Z.upd (q _ _ K) u) (afF s λa w b r=>(r.same q).upd (q _ _ K) (I a w).2)
  .rw[Bg];show#[O,jj.mpr #[ee,pI],λa w b Y e=>?_];rw[d2.mp Y]at e;let#[k,X,e_]:=JU w;let#[d,_,t,N,_]:=b9.get s (i:=k) (x:=a) (by rw[ew X,e_]);rw[e,L]at N;cases N
  .intro a w;rcases iM.mp w with w|w
   .exact I a w
   rw[d2.mp w];show#[4,λz=>by rw[z,K]at L;cases L];cases e:p l with
   |none=>rfl
   |some o=>rw[V _ _ e]at L;cases L
  rw[aJ (cI e a8)];show-q _ _ (V _ _ e)
 let e:i=n.Z:=by lia
 subst e;show-.inl #[gA,G D H' g a8 K s O I V]
def xB{A:eG}{d:TE}{rest:al.St}{H1:af}{Q:aO}{J:ff}{xs:aL}(s:∀R:ff->af->Prop,R J H1->A U H R)(V:hG cs U=jp::rest)(L:nZ J H1 xs)(K:xs.Z<sizeLine)(f:Nat->al.V)(n:∀(i:Nat)(x:al.V)(a:af)(R:aO),xs[i]?=ja x->av H1 a->(∀g,av a g->R (f i) g)->d (ja x::rest) a R)(p:∀(D:Addr)(H':af),H1 D=jp->H' D=ja (.lst ((fk xs.Z).map f))->av H1 H'->Q (.ref D) H'):jf A cs (hR 0) oE d U H Q:=by
 show-s _ λD a8=>?_;show#[λi m r t H'=>m=xs.Z-i/\i<=xs.Z/\r=(fk i).map f/\(∃o,t=o::rest)/\av H1 H'/\H' D=ja (.lst r),#[xs.Z,by simp,ei _,2,#[jp,by rw[V]],λb o e=>?_,aN],4]
 .rwa[aJ (cI e a8)]
 rintro i m r t H' ⟨rfl,u,rfl,⟨o,rfl⟩,c,l⟩;let#[h,q,j]:=L H' c;show#[l,qq (by rw[bQ,s6];lia) K,4];by_cases k:i<xs.Z
 .refine .inr #[q i k,λx a y=>?_];let#[2,N]:=j i x a k y;show d (ja x::rest) a _;show-n i x a _ N c λg w=>#[w _ _ l,xs.Z-(i+1),9,2,k,4,#[1],λb z e=>?_,aN]
  .rw[Bh,fP];rfl
  rw[aJ (cI e a8)];show-w _ _ (c _ _ e)
 let e:i=xs.Z:=by lia
 subst e;show-.inl #[h,p D H' a8 l c]
end dP
namespace bX
open PySem PySem.Spec PyProof.Rows al
theorem P2{K:aI}(h:cH K H1 a xs)(k:∀H',av H1 H'->cH K H' a xs):nZ (ym K a) H1 xs:=λH' b=>
 #[#[xs,k H' b,cy _],λi c=>#[xs,xs[i],k H' b,by simp[c]],λi x d _ y=>#[y.1,y.2 xs (k H' b)]]
section
variable{X:bA}{e:Expr}{bR:TE}{pos fz:Pos}{lo hi:Option Expr}{eC kr:gi}
theorem Np(a:kd):∀j,Nl (λi=>a.getD i 0) j=(a.take j).sum
 |0=>rfl
 |j+1=>by
  show Nl _ j+a.getD j 0=_;rw[Np a j,Bj,aid];congr 1;rw[gL];cases a[j]? with
  |none=>rfl
  |some x=>show x=x+0;lia
def aou:i9 "sum"=ja (.builtin "sum"):=by left
def aaq:i9 "min"=ja (.builtin "min"):=by left
def aqC:i9 "max"=ja (.builtin "max"):=by left
def akK(G:X.calm=jx):kB X (.builtin "sum") (λE H Q=>∃(p:Addr)(c:kd),E=[.ref p]/\aM X.K H p (c.map V.int)/\(∀x∈c,0<=x)/\c.sum<2 ^ 63/\Q (.int c.sum) H):=by
 intro D s U H E us Q I r h;let#[p,c,2,J,A,hm,q]:=h;let#[u,2,e3]:=vals1 r;cases e3;let#[d,C,pl,hz]:=I.list J;let f:c.Z=d.Z:=by have:=C.Z;rwa [bQ]at this
 let#[o,n,K,_]:=id pl;let T:p≠s.L:=fH (dO K);let O:X.A.in1.handled=jp:=I.ok.hd G;let m:∀(l:kd),(∀x∈l,0<=x)->0<=l.sum:=λl=>by
  induction l with
  |nil=>intro _;show-oL _
  |cons a r F=>
   intro h;rw[Bi];have:=h a (.head _);have:=F λx t=>h x (.tail _ t)
   lia
 let g:∀j,0<=(c.take j).sum/\(c.take j).sum<=c.sum:=λj=>by
  let e:c.sum=(c.take j).sum+(c.drop j).sum:=by rw[<-aid,Qi]
  have:=m (c.take j) λx t=>A x (List.mem_of_mem_take t);have:=m (c.drop j) λx t=>A x (Ö t)
  lia
 show-call_sum_walk (DW pl.isList ?_);show#[s.L,[s.L,p],[s.L],d.toArray.size,6,λi=>c.getD i 0,2,KG O _ p T d.toArray,#[#[_,g4 _ rfl,2,2],pl.isList.push _],4,4,4,λh' bc t' k=>?_]
 .intro b w;let P:p<s.L:=dO K;let dr:(s.heap.push ({cls:=.type "list_iterator",data:=.fields (List.toArray [c1 p,mL 0])}:Obj)).objs.size=s.L+1:=by simp[Heap.push]
  simp only[dQ,ee,or_false]at w;let Z:b<s.L+1:=by
   rcases w with h|h<;>rw[h]
   .exact yK _
   show-wo P
  show-Nat.lt_of_lt_of_eq Z ?_;simp[Heap.push]
 .intro i v R;let L:d[i]?=ja v:=by simpa using R
  let hi:i<d.Z:=(gM.mp L).1;let w:(c.map V.int)[i]?=ja (V.int (c.getD i 0)):=by rw[ea,ew (by lia:i<c.Z)];simp[gL,f▸hi]
  let#[u',B,M]:=C.get w;rw[L]at B;cases B;show-M
 .intro j y;rw[hY,<-f]at y;let t1:=g j;let fq:=g (j+1);let aG:=Np c j;let N:=Np c (j+1);let cz:Nl (λi=>c.getD i 0) (j+1)=Nl (λi=>c.getD i 0) j+c.getD j 0:=rfl;let ai:0<=c.getD j 0:=by rw[gL,ew y];show-A _ (uh y)
  show#[#[4,4],4,4]
  .show -(2 ^ 63)<=c.getD j 0
   lia
  .show c.getD j 0<2 ^ 63
   lia
  .rw[N]
   lia
  rw[N]
  lia
 let e:Nl (λi=>c.getD i 0) d.toArray.size=c.sum:=by rw[Np,hY,<-f,ui]
 rw[e];show#[.int c.sum,H,I.kept λb Y z=>k b Y (by simpa using fH (dO z)) (d8 _ z),#[1],q]
end
end bX
namespace dP
open PySem al bX cE
def aov{j:eG}{w:iz}{K:TE}{rest:al.St}{H1:af}{Q:aO}{J:ff}{xs:aL}(G:∀R:ff->af->Prop,R J H1->j U H R)(z:hG cs U=jp::rest)(s:nZ J H1 xs)(q:xs.Z<sizeLine)(p:Nat->Bool)(f:Nat->al.V)(k:∀(i:Nat)(x:al.V)(a:af)(R:Bool->af->Prop),xs[i]?=ja x->av H1 a->(∀d,av a d->R (p i) d)->w (ja x::rest) a R)(r:∀(i:Nat)(x:al.V)(a:af)(R:aO),xs[i]?=ja x->p i=jx->av H1 a->(∀d,av a d->R (f i) d)->K (ja x::rest) a R)(t:∀(D:Addr)(H':af),H1 D=jp->H' D=ja (.lst (((fk xs.Z).filter p).map f))->av H1 H'->Q (.ref D) H'):jf j cs (hR 0) w K U H Q:=by
 show-G _ λD a8=>?_;show#[λi m A L H'=>m=xs.Z-i/\i<=xs.Z/\A=((fk i).filter p).map f/\(∃o,L=o::rest)/\av H1 H'/\H' D=ja (.lst A),#[xs.Z,by simp,ei _,2,#[jp,by rw[z]],λb o e=>?_,aN],4]
 .rwa[aJ (cI e a8)]
 rintro i m A L H' ⟨rfl,F,rfl,⟨o,rfl⟩,c,n⟩;let#[B,E,C]:=s H' c;show#[n,qq ?_ q,4]
 .rw[bQ];show-eh (Qe _ _) ?_;rwa[s6]
 by_cases l:i<xs.Z
 .refine .inr #[E i l,λx a y=>?_];let#[2,V]:=C i x a l y;show w (ja x::rest) a _;show-k i x a _ V c λu g=>?_;cases h:p i with
  |true=>
   show-hb ?_;show-r i x u _ V h (c.trans g) λd N=>#[N _ _ (g _ _ n),xs.Z-(i+1),9,2,l,4,#[1],λb I e=>?_,aN]
   .rw[Bh,yy,fP];simp[h]
   rw[aJ (cI e a8)];show-N _ _ (g _ _ (c _ _ e))
  |false=>
   show-gV #[xs.Z-(i+1),9,2,l,4,#[1],c.trans g,g _ _ n];rw[Bh,yy,fP];simp[h]
 let e:i=xs.Z:=by lia
 subst e;show-.inl #[B,t D H' a8 n c]
def A5{a:Type}{l:List a}{i:Nat}{x d:a}(e:l[i]?=ja x):l.getD i d=x:=by rw[gL,e];rfl
def range_getD{b d:Type}(g:b->d)(d9:b)(a:List b):((fk a.Z).map λi=>g (a.getD i d9))=a.map g:=by
 apply ahW
 .simp
 intro i c f;simp only[bQ,s6]at c;simp[gL,c]
def al2{wi:eG}{t:TE}{c:al.St}{g:af}{Q:aO}{J:ff}{d:aL}(P:∀R:ff->af->Prop,R J g->wi U H R)(E:hG cs U=jp::c)(B:nZ J g d)(q:d.Z<sizeLine)(F:Nat->al.V->af->Prop)(st:∀i v a L,av a L->F i v a->F i v L)(z:∀i v a D f T,a D=ja (.lst f)->F i v a->F i v (upd a D (.lst T)))(A:∀(i:Nat)(x:al.V)(a:af)(R:aO),d[i]?=ja x->av g a->(∀v k,av a k->F i v k->R v k)->t (ja x::c) a R)(K:∀(D:Addr)(H':af)(vs:aL),g D=jp->H' D=ja (.lst vs)->vs.Z=d.Z->(∀i v,vs[i]?=ja v->F i v H')->av g H'->Q (.ref D) H'):jf wi cs (hR 0) oE t U H Q:=by
 show-P _ λD a8=>?_;show#[λi m f N H'=>m=d.Z-i/\i<=d.Z/\(f.Z=i/\∀j v,f[j]?=ja v->F j v H')/\(∃o,N=o::c)/\av g H'/\H' D=ja (.lst f),#[d.Z,by simp,ei _,#[2,λj v e=>by simp at e],#[jp,by rw[E]],λb o e=>?_,aN],4]
 .rwa[aJ (cI e a8)]
 rintro i m f N H' ⟨rfl,X,⟨r,V⟩,⟨o,rfl⟩,l,p⟩;let#[I,O,M]:=B H' l;show#[p,qq jQ q,4];by_cases w:i<d.Z
 .refine .inr #[O i w,λx a y=>?_];let#[2,C]:=M i x a w y;show t (ja x::c) a _;show-A i x a _ C l λv k n h=>#[n _ _ p,d.Z-(i+1),9,2,w,#[by rw[dT,r];rfl,λj u e=>?_],#[1],λb Z e=>?_,aN]
  .refine z j u k D f _ (n _ _ p) ?_;by_cases s:j<f.Z
   .rw[Bc s]at e;show-st j u _ _ n (V j u e)
   rw[Qc jQ]at e;let G:j=i:=by
    by_cases Y:j-f.Z=0
    .lia
    rw[Ð (by simp;lia)]at e;cases e
   subst G;rw[r,ā]at e;cases e;show-h
  rw[aJ (cI e a8)];show-n _ _ (l _ _ e)
 let e:i=d.Z:=by lia
 subst e;show-.inl #[I,K D H' f a8 p r V l]
abbrev ku:=Nat×Nat×List Nat
def tR(a:bg):List al.V:=a.map λn:Nat=>V.int (n:Int)
def rn(H:af)(a:Addr)(b:ku):Prop:=∃c,H a=ja (.tup [.int (b.1:Int),.int (b.2.1:Int),.ref c])/\H c=ja (.tup (tR b.2.2))
def rn.same{b:ku}(h:rn H a b)(d:av H H'):rn H' a b:=(let⟨c,f,g⟩:=h;#[c,d _ _ f,d _ _ g])
structure KS(b:ku):Prop where
 t:b.1<10 ^ 10
 r:b.2.1<10 ^ 10
 n:∀n∈b.2.2,n<10 ^ 10
 ne:b.2.2≠[]
 dy:b.2.2.Z<=40
def iD(b:ku):List Nat:=b_ b.1++[32]++b_ b.2.1++[58,32]++cM [32] (b.2.2.map b_)
def nw(a:List ku):List Nat:=cM [59,32] (a.map iD)
theorem P4(y:bg)(k:Nat):∀a:List bg,(∀p∈a,p.Z<=k)->(cM y a).Z<=a.Z*(k+y.Z)
 |[],_=>ei _
 |[p],h=>by
  have:=h p (.head _);show p.Z<=1*(k+y.Z)
  lia
 |p::q::r,h=>by
  let f:=h p (.head _);let b:=P4 y k (q::r) λc d=>h c (.tail _ d);show(p++y++cM y (q::r)).Z<=(r.Z+1+1)*(k+y.Z);rw[dT,dT,Kb];rw[e5]at b
  lia
def akL{b:ku}(ok:KS b):(iD b).Z<=500:=by
 let g:=pa ok.t;let k:=pa ok.r;let a:=P4 [32] 10 (b.2.2.map b_) λp c=>by let#[n,f,2]:=cD.mp c;show-pa (ok.n n f)
 rw[bQ]at a;let d:=ok.dy;let l:b.2.2.Z*(10+[32].Z)<=40*11:=J' d (cy _);unfold iD;simp only[dT,e5,rD]at *
 lia
theorem D9{c:Type}(f:c->Nat)(k:Nat):∀l:List c,(∀a∈l,f a<=k)->(l.map f).sum<=l.Z*k
 |[],_=>ei _
 |a::l,h=>by
  let g:=h a (.head _);let m:=D9 f k l λb d=>h b (.tail _ d);rw[hL,Bi,e5,Kb]
  lia
def aar:fu:=λvs H Q _=>∃(a:Addr)(b:ku),vs=[.ref a]/\rn H a b/\KS b/\∀H',av H H'->Q (.str (S (iD b))) H'
def J0(K:aI):fu:=λvs H Q _=>∃(p:Addr)(c:b5)(a:List ku),vs=[.ref p]/\aM K H p (bw c)/\b9 (rn H) c a/\(∀b∈a,KS b)/\a.Z<=1000/\∀H',av H H'->Q (.str (S (nw a))) H'
def Pq{n:Nat}(h:n<10 ^ 10):((n:Int)).natAbs.log2<1920:=by
 rw[agS];by_cases a:n=0
 .subst a;decide
 exact(aiI a).mpr (jk h qL)
section
variable{P:cx}{w:b0}{K:aI}{mg:b6}{base:Heap}
abbrev KU:Stmt:=top 82
def aas:cp ["bag","numbers"] ["bag"] (bW KU):=({})
def aow{f:Addr}(F:b1 K "show_bag" "show_bag" KU f fd)(B:fc mg):-aA a6 1 f fd ["bag"] aar:=by
 show-F.ok aas (λI A r s H vs Q E Y h=>?_);let#[a,b,2,#[c,y,l],ok,q]:=h;show#[_,(a3 (dg 1 aas.aC (kV yM ġ ģ Po cF (aj (j0 (N':=oQ) (cs:=[jp]) rfl (I4 (ck eN (aa 0) bt)) rfl qL rfl qL (hv (λp d=>bk d (ee))) rfl
   (.own .nil)
   (λC s3 X Z de=>#[(ed 0 (by show(oQ:bY).Nodup;decide+kernel)),iQ,(iP qA B.str o_ (aj (aa 0) ay))])) ay)))
  (a9 (ct (c5 hP (c5 hP (c5 hP (c5 hP (iP qA B.str o_ (aj (ck eN (aa 0) bt) ay)) cF) (iP qA B.str o_ (aj (ck eN (aa 0) bt) ay))) cF) (aa 1))))),4]
 ac_rfl
 let G:(tR b.2.2).Z=b.2.2.Z:=bQ _;let O:=ok.dy;show#[2,4];dsimp only[js];refine xB (J:=ym K c) (H1:=H) (xs:=tR b.2.2) (rest:=[]) (λR h=>#[1,a,_,3,cH.of y,2,c,2,#[_,cH.of l],h]) rfl (P2 (cH.of l) λH' N=>cH.of (N _ _ l)) (e8 jQ) (λi=>.str (S (b_ (b.2.2.getD i 0)))) (λi v L R m N k=>?_) (λD L h6 a8 j=>?_)
 .unfold tR at m;rw[ea]at m;let#[n,e,2]:=hN.mp m;show#[5,Pq (ok.n n (eX e)),4];rw[si];have:=k L (av.refl _);rwa[gL,e]at this
 let U:(fk (tR b.2.2).Z).map (λi=>V.str (S (b_ (b.2.2.getD i 0))))=((b.2.2.map b_).map S).map V.str:=by rw[G,range_getD (λn=>V.str (S (b_ n))) 0 b.2.2,hp,hp];rfl
 rw[U]at a8;let T:dH " "=S [32]:=by left
 let M:dH ": "=S [58,32]:=by left
 let dX:=pa ok.t;let dr:=pa ok.r;let g:=P4 [32] 10 (b.2.2.map b_) λp d=>by let#[n,o,2]:=cD.mp d;show-pa (ok.n n o)
 let u:(cM [32] (b.2.2.map b_)).Z<=440:=eh g (by rw[bQ];show-J' O (cy _));rw[T,M];show#[S [32],D,(b.2.2.map b_).map S,2,2,aM.of a8,4,4]
 .have:=D9 (λx:Str=>x.Z) 10 ((b.2.2.map b_).map S) λx z=>by let#[p,d,2]:=cD.mp z;let#[n,o,2]:=cD.mp d;rw[eY];show-pa (ok.n n o)
  rw[bQ,bQ,eY]at *;simp only[e5,rD]
  lia
 rw[Og];let t:=cH.of (K:=K) (j _ _ y);show#[1,a,_,3,t,7,Pq ok.t,4];rw[si];show#[3,4,1,a,_,3,t,7,Pq ok.r,4]
 .rw[eY,eY];show _+1<=16777216
  lia
 rw[si,q'];show#[3,4,3,4,1,3,4,4]
 .rw[eY,eY,dT];show _+1+_<=16777216
  lia
 .rw[q',eY,eY,dT,dT];show _+1+_+2<=16777216
  lia
 .rw[q',q',eY,eY,dT,dT,dT];show _+1+_+2+_<=16777216
  lia
 rw[q',q',q'];show-q _ j
abbrev BB:Stmt:=top 83
def aqD:cp s_ s_ (bW BB):=({})
def aox{f:Addr}(F:b1 K "show_plan" "show_plan" BB f fd)(L:bO K mg "show_bag" KU ["bag"] f1 I)(l:-aA a6 1 f1 I ["bag"] aar):-aA a6 2 f fd s_ (J0 K):=by
 show-F.ok aqD (λG A o s H vs Q E u h=>?_);let#[p,m,d,2,c,y,ok,dy,q]:=h;show#[_,(a9 (ct (kV yM ġ ģ Po cF (aj (j0 (N':=["bag"]) (cs:=[jp]) rfl (hF (aa 0)) rfl qL rfl qL (hv (λp c=>bk c (ee))) rfl
   (.own .nil)
   (λC s3 X Y Z=>#[(ed 0 (by show(["bag"]:bY).Nodup;decide+kernel)),iQ,(dp l L u.mono cd (aj (aa 0) ay))])) ay)))),4]
 ac_rfl
 let N:=jz y;let t:=gX m;show#[2,4];dsimp only[js];refine xB (J:=j9 K p) (H1:=H) (xs:=bw m) (rest:=[]) (λR h=>#[1,p,2,#[_,c],h]) rfl (oj c) (by rw[t];show _<16777216;lia) (λi=>.str (S (iD (d.getD i (0,0,[]))))) (λi v j R n B k=>?_) (λD j h6 a8 M=>?_)
 .unfold bw at n;rw[ea]at n;let#[a,e,2]:=hN.mp n;let#[b,r,g]:=b9.get y e;show#[1,a,b,2,g.same B,ok b (eX r),λH' O=>?_];have:=k H' O;rwa[gL,r]at this
 let U:(fk (bw m).Z).map (λi=>V.str (S (iD (d.getD i (0,0,[])))))=((d.map iD).map S).map V.str:=by rw[t,N,range_getD (λb=>V.str (S (iD b))) (0,0,[]) d,hp,hp];rfl
 rw[U]at a8;let T:dH "; "=S [59,32]:=by left
 rw[T];show#[S [59,32],D,(d.map iD).map S,2,2,aM.of a8,4,4]
 .have:=D9 (λx:Str=>x.Z) 500 ((d.map iD).map S) λx z=>by let#[p,c,2]:=cD.mp z;let#[b,g,2]:=cD.mp c;rw[eY];show-akL (ok b g)
  rw[bQ,bQ,eY]at *;simp only[e5,rD]
  lia
 rw[Og];show-q _ M
abbrev H3:Stmt:=top 18
def asS:cp k_ k_ (bW H3):=({})
abbrev NJ:Stmt:=top 84
def asT:cp iN iN (bW NJ):=({})
theorem Pr{y:bg}{c:Nat}:∀{d:ba},c∈cM y d->c∈y\/∃p∈d,c∈p
 |[],h=>nomatch h
 |[p],h=>.inr #[p,.head _,h]
 |p::q::r,h=>by
  let f:c∈p++y++cM y (q::r):=h;rcases iM.mp f with b|b
  .rcases iM.mp b with a|a
   .exact .inr #[p,.head _,a]
   show-.inl a
  rcases Pr b with a|⟨j,e,i⟩
  .exact .inl a
  show-.inr #[j,.tail _ e,i]
def sj(b:ku):List bg:=b_ b.1::(b_ b.2.1++[58])::b.2.2.map b_
def HG{b:ku}(h:b.2.2≠[]):iD b=cM [32] (sj b):=by
 let#[t,r,a]:=b;cases a with
 |nil=>exact bk rfl h
 |cons n a=>
  show b_ t++[32]++b_ r++[58,32]++cM [32] (b_ n::a.map b_)=b_ t++[32]++(b_ r++[58]++[32]++cM [32] (b_ n::a.map b_));simp
theorem Zo{b:ku}:∀p∈sj b,32∉p:=λp a z=>by
 unfold sj at a;rcases dQ.mp a with rfl|a
 .have:=(qU z).1;lia
 rcases dQ.mp a with rfl|a
 .rcases iM.mp z with z|z
  .have:=(qU z).1;lia
  have:=d2.mp z;lia
 let#[n,1]:=cD.mp a;have:=(qU z).1;lia
def Y7{b:ku}(h:b.2.2≠[]){c:Nat}(a:c∈iD b):c=32\/(48<=c/\c<=58):=by
 rw[HG h]at a;rcases Pr a with d|⟨p,e,ak⟩
 .exact .inl (d2.mp d)
 right;unfold sj at e;rcases dQ.mp e with rfl|e
 .have:=qU ak;lia
 rcases dQ.mp e with rfl|e
 .rcases iM.mp ak with z|z
  .have:=qU z;lia
  have:=d2.mp z;lia
 let#[n,1]:=cD.mp e;have:=qU ak;lia
def ajP{b:ku}(h:b.2.2≠[]):pO (S (iD b)) (S [32])=(sj b).map S:=by
 rw[HG h];show-Yj (d:=32) (y:=[]) (by unfold sj;simp) Zo (λc a=>?_) qv;rw[<-HG h]at a;have:=Y7 h a
 lia
def ahw{a:List ku}(m:a≠[])(h:∀b∈a,b.2.2≠[]):pO (S (nw a)) (S [59,32])=(a.map iD).map S:=by
 unfold nw;show-Yj (d:=59) (y:=[32]) (by simpa using m) (λp k z=>?_) (λc l=>?_) qv
 .let#[b,f,2]:=cD.mp k;have:=Y7 (h b f) z
  lia
 rcases Pr l with g|⟨p,k,ak⟩
 .rcases dQ.mp g with rfl|g
  .decide
  have:=d2.mp g;lia
 let#[b,f,2]:=cD.mp k;have:=Y7 (h b f) ak
 lia
def akZ(l:bg)(c:Nat):sM (S (l++[c])) jp (ja (-1))=S l:=by
 unfold sM;let e:(S (l++[c])).cps.size=l.Z+1:=by simp[S]
 let b:fe.dS (l.Z+1) (l.Z+1) (ja (-1))=l.Z:=by
  show(if(-1:Int)<0 then((-1:Int)+((l.Z+1:Nat):Int)).toNat else min (-1:Int).toNat (l.Z+1))=l.Z;rw[b2 qc]
  lia
 let a:fe.dS (l.Z+1) 0 jp=0:=rfl;rw[e,a,b,Nat.sub_zero,List.drop_zero];show(⟨((l++[c]).take l.Z).toArray⟩:Str)=_;rw[aif]
theorem ρ{K:aI}{wi:eG}{l:TE}{rest:al.St}{Hs:af}{Q:aO}{xs:aL}(F:Nat->al.V->af->Prop)(j:∀R:ff->af->Prop,(∀p,Hs p=jp->R (j9 K p) (upd Hs p (.lst xs)))->wi U H R)(V:hG cs U=jp::rest)(t:xs.Z<sizeLine)(st:∀i v a g,av a g->F i v a->F i v g)(A:∀i v a D q u,a D=ja (.lst q)->F i v a->F i v (upd a D (.lst u)))(d:∀(i:Nat)(x:al.V)(a:af)(R:aO),xs[i]?=ja x->av Hs a->(∀v c,av a c->F i v c->R v c)->l (ja x::rest) a R)(f:∀(D:Addr)(H':af)(vs:aL),Hs D=jp->H' D=ja (.lst vs)->vs.Z=xs.Z->(∀i v,vs[i]?=ja v->F i v H')->av Hs H'->Q (.ref D) H'):jf wi cs (hR 0) oE l U H Q:=
 j _ λp b=>al2 (wi:=λ_ _ R=>R (j9 K p) (upd Hs p (.lst xs))) (H:=Hs) (λR h=>h) V (oj (aM.of aN)) t F st A (λi x a R N y k=>d i x a R N ((b7 b).trans y) k) λD H' vs n r m L s=>by
  show-f D H' vs ?_ r m L ((b7 b).trans s);cases e:Hs D with
  |none=>rfl
  |some o=>rw[b7 b _ _ e]at n;cases n
abbrev NI:Stmt:=top 85
def Rx:cp ["text","words","numbers"] k_ (bW NI):=({})
abbrev NK:Stmt:=top 86
def asU:cp k_ k_ (bW NK):=({})
end
end dP
namespace bX
open PySem PySem.Spec PyProof.Rows al
def ahx{M:mY}{A:et}{E:cL}{s:aS}{B:Heap}{d:Env}{a:List Env}{L:Addr}{Q:Unit->aS->Prop}(O:A.frames=ja (d::a))(n:d.frame=ja L)(F:B.StaysIn s.Q)(K:B.get? e=jp)(h:s.heap.FunFrames B (d::a))(m:s.heap.TracedAtW B e cls G v)(q:∀f,ub B a e cls G f->s.heap.UpToSlots f->Q () {s with heap:=f}):aQ M A (leaving d (.ref e)) Q E s:=by
 by_cases z:v=mL L
 .subst z;unfold leaving;show-az (wpAny_noteFrame_againW n m ?_);show-afn #[F,K,h,m] λf J U=>?_;let#[p,r,#[6,t],N]:=J;show-q f #[p,r,t,N] U
 let#[Z,vs,T,Y,I,j,#[2,H],u,C,P,R,w,V,i]:=m;unfold leaving xu;simp only[n];show-az (az (kt j u C ?_));rw[b2 qv];show-az (kt w V i ?_);rw[bL (by simpa using z)];show-az (DX w V (Zt.mp i).1 ?_);let l:∀b,b≠T->(s.heap.update T (Bv λx=>x.setIfInBounds 3 iA)).get? b=s.heap.get? b:=λb c=>s5 _ _ (dG c);let D:∀b o,s.heap.get? b=ja o->(∀X,o.data≠.fields X)->b≠T:=λb o c k y=>by subst y;rw[w]at c;cases c;show-k I V
 show-wpAny_newEntryW O (h.of_keeps λb o c k=>#[o,(l b (D b o c k)).trans c,2]) n ((l e (dG R)).trans j) (λb o c=>(l b λy=>by subst y;rw[P]at c;cases c).trans (F b o c)) K u (Zt.mp C).1 H λf g=>?_;let#[p,#[6,r],t,N]:=g;show-q f #[p,K,r,t] λb o c k=>N b o ((l b (D b o c k)).trans c) k
section
variable{P:cx}{w:b0}{K:aI}{mg:b6}{base:Heap}{N:bY}{qual:Str}{mM:Scope}{f:Addr}{cdv:a5}{A:et}{outer:List Env}{fD:aS}{ho:af}{E:bF}
def ahy{cn:af}{s3 sc:aS}{bP:b5}{C:Addr}{m:b6}{use:Option (a5->Sem Unit)}{QQ:cL}{agn:cL}(a:Inv (-eI N qual mM f cdv A outer fD ho E) aFp aFK aK s3)(avr:∀b∈bP,fD.L<=b)(nK:s3.L<=C)(Jj:C∉fa (-eI N qual mM f cdv A outer fD ho E).stack)(u6:sc.os=s3.os)(t:iO (fa (-eI N qual mM f cdv A outer fD ho E).stack) bP aK cn s3.heap sc.Q)(Sq:sc.heap.Ns C m)(JI:cn C=jp)(T:lA P w (-eI N qual mM f cdv A outer fD ho E).stack cn sc h cls a0 H' B s')(gv:E cls jp H'):
  aQ (bj P w) (-eI N qual mM f cdv A outer fD ho E).A (xu (.ref h) (-eI N qual mM f cdv A outer fD ho E).env) (λ_ HQ=>B2 (bj P w) (-eI N qual mM f cdv A outer fD ho E).A (-eI N qual mM f cdv A outer fD ho E).dN use QQ acc C (.error (.ref h)) HQ) agn s':=by
 refine afo a.ok.frames rfl T.ez λJ Q up=>?_;let#[F,es,ep,H,lV,k1,k2]:=id Sq;let OV:B.get? C=ja F:=by let#[i,z,q]:=T.h3 C F H Jj;rwa[q JI]at z
 let μ:H' C=jp:=T.un.free C F H JI qv;let#[vg,ne,LQ,ox,vs,p,WV,bB,aG,aP,cz,e',i',lY,nd,wO,Lw]:=Q;let FW:h≠C:=λz=>by rw[z,OV]at ne;cases ne
 let j6:p≠C:=λz=>by rw[z,OV]at i';cases i'
 let U:∃m,J.Ns C m/\∀j,j7 C J j->∀Y:Env,Y.locals=C->aQ (bj P w) (-eI N qual mM f cdv A outer fD ho E).A (passOn "comprehension.variables-let-go" (.ref h) Y:Sem a5) (λ_ _=>False) (-eI N qual mM f cdv A outer fD ho E).dN {s' with heap:=j}:=by
  show#[m,#[F,es,ep,vg C F OV,lV,k1,k2],λj cf Y _=>?_];let f1:j.get? h=ja ox:=(cf.2 h FW).trans aG;let LF:j.get? p=ja WV:=(cf.2 p j6).trans nd;unfold PySem.passOn;show-az (kt f1 cz e' ?_);rw[bL qv];show-az ?_;unfold NP;show-az (kt f1 cz e' ?_);rw[b2 qv];let ou:3<bB.size:=(Zt.mp Lw).1;show-DX LF wO ou (YG ?_);generalize(Y.frame.elim iA λf=>mL f)=v;let zQ:∀b,b≠p->(j.update p (Bv λx=>x.setIfInBounds 3 v)).get? b=j.get? b:=λb g=>s5 _ _ (dG g);let I:(j.update p (Bv λx=>x.setIfInBounds 3 v)).get? p=ja (Bv (λx=>x.setIfInBounds 3 v) WV):=yf _ LF (Đ (E8 wO _));generalize j.update p (Bv λx=>x.setIfInBounds 3 v)=G at zQ I⊢;let go:∀b o,J.get? b=ja o->b≠C->b≠p->G.get? b=ja o:=λb o e k O=>(zQ b O).trans ((cf.2 b k).trans e);let hy:∀b o,J.get? b=ja o->(∀ws,o.data≠.fields ws)->b≠p:=λb o e n y=>by subst y;rw[nd]at e;cases e;show-n bB wO
  let Zz:∀b o,(nS B [C]).get? b=ja o->B.get? b=ja o/\b≠C:=λb o e=>#[QA _ e,λz=>by rw[z,ĩ _ (.head _)]at e;cases e]
  let Uo:∀b,B.get? b=jp->(nS B [C]).get? b=jp:=λb e=>by
   cases q:(nS B [C]).get? b with
   |none=>rfl
   |some o=>rw[(Zz b o q).1]at e;cases e
  let st:(nS B [C]).StaysIn G:=λb o e=>by let#[z,n]:=Zz b o e;show-go b o (vg b o z) n λy=>by rw[y,i']at z;cases z
  let axL:∀d∈(-eI N qual mM f cdv A outer fD ho E).stack,d.frame≠ja C:=λd he z=>Jj (JX.mpr #[d,he,z]);let avm:G.FunFrames (nS B [C]) (-eI N qual mM f cdv A outer fD ho E).stack:=by
   let all:∀l:List Env,(∀d∈l,d.frame≠ja C)->J.FunFrames B l->G.FunFrames (nS B [C]) l:=by
    intro l
    induction l with
    |nil=>intro _ _;trivial
    |cons d r aW=>
     intro hn au;let#[aU,#[L,o,bG,kq,aY,hd],ao]:=au;let axP:L≠C:=λz=>hn d (.head _) (by rw[bG,z]);show#[aU,#[L,o,bG,Uo L kq,go L o aY axP (hy L o aY hd),hd],aW (λe he=>hn e (.tail _ he)) ao]
   show-all _ axL LQ
  let azQ:G.TracedAtW (nS B [C]) h cls a0 v:=#[ox,vs,p,6,go h ox aG FW (dG lY),aP,cz,e',Uo _ i',lY,I,E8 wO _,by simp[ou]]
  refine ahx a.ok.frames rfl st (Uo _ ne) avm azQ λcT X Ip=>?_;let VK:∀b o,fD.heap.get? b=ja o->b∉bP/\b≠C:=λb o e=>by let l:=dO e;let dr:=a.oB;show#[λz=>bk (jk l (avr b z)) (qp _),λz=>?_];rw[z]at l;show-bk (jk l (eh dr nK)) (qp _)
  let D:∀b:Addr,b∉(-eI N qual mM f cdv A outer fD ho E).ex:=λb z=>by simp[eI,j3]at z
  let h3:∀b o,fD.heap.get? b=ja o->b∉fa outer->∃i,(nS B [C]).get? b=ja i/\(ho b=jp->i=o):=λb o e g=>by let#[k,O]:=VK b o e;let nb:=Ad a e g;let#[o1,V]:=a.base.there b o e (D b);let#[o2,s]:=t.there b o1 V k;let#[i,z,q]:=T.h3 b o2 s nb;show#[i,Ku _ z (by simpa using O),λn=>?_];let R:=a.base.keep b o e n g (D b);let vS:=a.base.free b o e n (D b);let AH:=t.keep b o R vS nb k;rw[s]at AH;cases AH;show-q (t.free b _ R vS k)
  show#[h,cls,a0,H',1,#[X,(T.os.trans u6).trans a.os,T.bare,λb ob e=>(T.ok b ob e).pn (λc u ar y=>Ku _ y ?_) (λ_ y=>y) λ_ _ y=>y,#[λb o e n g M=>?_,λb o e n g M=>?_,λb o e n M=>?_,λb o e M=>?_,λb xs y=>T.un.gZ b xs (t.gZ b xs (a.base.gZ b xs y)),λb o u y=>T.un.jq b o u (t.jq b o u (a.base.jq b o u y)),λb ps y=>?_],h3],gv]
  .simp only[d2];rintro rfl;rcases ar with rfl|ar
   .rw[μ]at e;cases e
   rw[μ]at ar;cases ar
  .let#[i,z,q]:=h3 b o e g;rw[q n]at z;show-X.1 b o z
  .let#[k,O]:=VK b o e;let dF:b∈fa (-eI N qual mM f cdv A outer fD ho E).stack:=by show b∈fa (_::outer);unfold fa;rw[ER];show-nO _ g
   let#[dX,V]:=a.base.slot b o e n g (D b);let R:=a.base.free b o e n (D b);let#[dr,s]:=t.slot b _ V R dF k;let vS:=t.free b _ V R k;let#[aE6,Z]:=T.un.slot b _ s vS dF qv;let#[_,ob,bI,We]:=T.ez.2.2.1.mem dF;rw[Z]at bI;cases bI;let#[zI,bK]:=up b _ Z We;let cG:=go b _ bK O (hy b _ bK We);let#[l9,d_]:=Ip b _ cG We;show#[l9,d_]
  .let#[k,_]:=VK b o e;let#[o1,V]:=a.base.there b o e M;let#[o2,s]:=t.there b o1 V k;exact T.un.free b o2 s (t.free b o1 V (a.base.free b o e n M) k) qv
  .by_cases g:b∈fa outer
   .let#[_,ob,bI,_]:=X.2.2.1.mem g;show#[ob,bI]
   let#[i,z,_]:=h3 b o e g;show#[i,X.1 b i z]
  let#[e2,V]:=a.base.jO b ps y;let#[hc,s]:=t.jO b _ V;let#[xj,Z]:=T.un.jO b _ s;show#[e2++hc++xj,by rw[Z,Ej,Ej,Ej]]
 cases use<;>show-U
end
def xD(X:bA)(E:bF)(c:bY)(a:Scope)(g:List (Str×Addr))(C:Addr)(m:aS)(d:af)(f:b5)(l:dU):bA:=
 {mH X c a g C m d f l with dN:=λe o=>∃(b:dU)(U:St)(k:af)(n:aS),Inv (mH X c a g C m d f l) b U k n/\dn X.prog X.w X.stack k n E e o}
theorem ON{X:bA}{b:List (Str×Addr)}:om (dn X.prog X.w) (xD X E i scope b C s j q de) E:=
 λa U c d e f I h=>#[a,U,c,d,I.mQ _,h]
section
variable{P:cx}{w:b0}{K:aI}{mg:b6}{base:Heap}{N:bY}{qual:Str}{mM:Scope}{f:Addr}{cdv:a5}{A:et}{outer:List Env}{fD:aS}{ho:af}{E:bF}
 {X:bA} {elt d0 iter:Expr} {ifs:hO} {scope:Scope} {pos:Pos} {N':bY} {cs:Fo} {cl:List (Str×Addr)} {wi:eG} {g:kN} {tt:iz} {bR:TE}
def amO{use:Option (a5->Sem Unit)}{p:cL}{Q:aO}(i:X=-eI N qual mM f cdv A outer fD ho E)(G:X.calm=jx)(hi:m1 X d0 iter wi)(r0:FQ scope X.env=pure cl)(o7:∀y∈scope.names,y.2≠.cell)(oe:scope.kind=.function)(r2:∀y∈scope.names,y.2=.local->scope.names.lookup y.1=ja .local)(kA:∀x c,cl.lookup x=ja c->X.env.cells.lookup x=ja c)(J:yr cl (z' scope X.env).names=jx)(qH:oD X scope cl N' cs)(F:∀(C:Addr)(s3:aS)(a:af)(d:b5)(k:dU),pJ (xD X E N' scope cl C s3 a d k) d0 g/\vW (xD X E N' scope cl C s3 a d k) ifs tt/\a' (xD X E N' scope cl C s3 a d k) elt bR)(hs:∀x,Cd iter X.env x=pure x:=by intro _;rfl)(I:Inv X pins U H s)(h:jf wi cs g tt bR U H Q)(post:∀(D C:Addr)(o:aS)(H':af)(m:b6),Inv X pins U H' o->o.heap.Ns C m->qg X pins H' C->Q (.ref D) H'->B2 (bj X.prog X.w) X.A X.dN use p (.ref D) C (.ok .next) o):
  aQ (bj X.prog X.w) X.A (Ss (.ListComp elt [#[d0,iter,ifs,0]] scope pos) scope X.env u (Wd []) jA (eval iter X.env) use) p X.dN s:=by
 show-ŋ (Z:=λC s3 a d k=>(xD X E N' scope cl C s3 a d k).dN) G hi r0 o7 oe r2 kA J qH F hs I h (λD s3 a d e c4 l n_ xc=>?_) post;let#[W5,bq,r,t,n,aH,M,a0,H',B,2,T,Y]:=xc;let#[m,j,_]:=id n.loc;let V:s3.L∉fa X.stack:=λz=>by
  rcases dQ.mp (l.DF _ z)with y|y
  .exact bk l.lt (by rw[<-y];show-qp _)
  show-l.ad7 (cy _) y
 let mP:iO (fa X.stack) d a r s3.heap t.Q:=n.base;let L:r s3.L=jp:=n.free;let q:t.os=s3.os:=n.os;subst i;show-ahy (s3:=s3) l (λb O=>(n_ b O).elim λ_ R=>R.2.2.2.1.resolve_left (by simp[eI,j3])) (cy _) V q mP j L T Y
def P5(t:X=-eI N qual mM f cdv A outer fD ho E)(L:X.calm=jx)(G:m1 X d0 iter wi)(r0:FQ scope X.env=pure cl)(T:∀y∈scope.names,y.2≠.cell)(Y:scope.kind=.function)(r2:∀y∈scope.names,y.2=.local->scope.names.lookup y.1=ja .local)(O:∀x c,cl.lookup x=ja c->X.env.cells.lookup x=ja c)(i:yr cl (z' scope X.env).names=jx)(Z:oD X scope cl N' cs)(d:∀(C:Addr)(n:aS)(a:af)(k:b5)(l:dU),pJ (xD X E N' scope cl C n a k l) d0 g/\vW (xD X E N' scope cl C n a k l) ifs tt/\a' (xD X E N' scope cl C n a k l) elt bR)(M:∀x,Cd iter X.env x=pure x:=by intro _;rfl):a' X (.ListComp elt [#[d0,iter,ifs,0]] scope pos) (jf wi cs g tt bR):=by
 intro p s U H Q I h;rw[eval_ListComp];show-amO t L G r0 T Y r2 O i Z d M I h λD C V H' m R J r q=>#[m,J,λh' r5=>#[.ref D,H',4,2,q]]
 let#[u,z,f2,j,B,F]:=r;show-R.turned (t':=V.toks) (λb o d e=>(r5.2 b d).trans e) u z j B F
end
end bX
namespace dP
open PySem al bX
def ni(c:Nat):Bool:=decide (48<=c)&&decide (c<=57)
def hU(l:bg):Bool:=decide (1<=l.Z)&&decide (l.Z<=10)&&!(decide (l.head?=ja 48)&&!decide (l=[48]))&&l.all ni
def amP{m d:Nat}(hm:0<m)(a:d<10):b_ (10*m+d)=b_ m++[48+d]:=by
 unfold b_;rw[<-Ă qc hm a,fP,Qn a];congr 1;have:∀d,d<10->Ó ZL [Nat.digitChar d]=[48+d]:=by decide
 show-this d a
def ak0:∀d,d<10->b_ d=[48+d]:=by decide
theorem â:∀(n:Nat)(l:bg),l.Z=n+1->(∀c∈l,ni c=jx)->(l.head?=ja 48->l=[48])->∃m,l=b_ m/\m<10 ^ (n+1)/\(l≠[48]->0<m)
 |0,l,e,h,i=>by
  let#[c,2]:=List.length_eq_one_iff.mp e;let d:=h c (.head _);unfold ni at d;simp only[cJ,decide_eq_true_eq]at d;show#[c-48,by rw[ak0 _ jQ];congr 1;lia,9,λz=>?_];have:c≠48:=λy=>z (by rw[y])
  lia
 |n+1,l,e,h,i=>by
  let f:l≠[]:=λz=>by rw[z]at e;cases e
  let w:=ahT f;let ld:l.dropLast.Z=n+1:=by rw[ah6];lia
  let p:l.getLast f∈l:=List.getLast_mem f;let d:=h _ p;unfold ni at d;simp only[cJ,decide_eq_true_eq]at d;let k:l.head?≠ja 48:=λz=>by have:=i z;rw[this]at e;simp at e
  let g:l.dropLast.head?=l.head?:=by
   cases l with
   |nil=>rfl
   |cons a r=>
    cases r with
    |nil=>simp at e
    |cons b r=>rfl
  let#[m,o,L,t]:=â n l.dropLast ld (λc K=>h c (List.dropLast_subset _ K)) (λz=>bk (g▸z) k);let A:0<m:=t λz=>by rw[z]at g;show-k g.J
  show#[10*m+(l.getLast f-48),4,4,λ_=>by lia]
  .rw[amP A jQ,<-o]
   conv=>lhs;rw[<-w]
   congr 2
   lia
  have:10 ^ (n+1+1)=10*10 ^ (n+1):=by rw[Nat.pow_succ,Nat.mul_comm]
  lia
def Ů(h:hU l=jx):∃m,m<10 ^ 10/\l=b_ m:=by unfold hU at h;simp only[cJ,decide_eq_true_eq,mf,afX,auv,afZ,iw]at h;obtain⟨⟨⟨f,g⟩,c⟩,d⟩:=h;let#[m,a,b,_]:=â (l.Z-1) l jQ d λz=>c.resolve_left λy=>y z;show#[m,jk b (Nat.pow_le_pow_right qc jQ),a]
def EB{m:Nat}(h:m<10 ^ 10):hU (b_ m)=jx:=by
 let f:=pa h;let b:1<=(b_ m).Z:=Be.mpr (J4 m);unfold hU;simp only[cJ,decide_eq_true_eq,mf,afX,auv,afZ,iw];show#[#[#[b,f],4],λc d=>?_]
 .by_cases z:(b_ m).head?=ja 48
  .right;cases e:b_ m with
   |nil=>show-bk e (J4 m)
   |cons a r=>
    rw[e]at z;cases z;have:=al6 m r e;rw[this,al7]at e;show-e.J
  show-.inl z
 have:=qU d;unfold ni;simp[this]
def ů(w:Str):S w.cps.G=w:=by let#[a]:=w;simp[S]
theorem Yw(y:bg)(c:y≠[]):∀a:List bg,a.Z<=(cM y a).Z+1/\∀p∈a,p.Z<=(cM y a).Z
 |[]=>#[ei _,λ_ h=>nomatch h]
 |[p]=>#[by show 1<=_+1;lia,λq g=>by rw[d2.mp g];show-cy _]
 |p::q::r=>by
  let#[k,d]:=Yw y c (q::r);let e:cM y (p::q::r)=p++y++cM y (q::r):=rfl;let f:1<=y.Z:=Be.mpr c;rw[e,dT,dT];show#[by rw[e5];lia,λz b=>?_];rcases dQ.mp b with rfl|b
  .lia
  have:=d z b
  lia
def ς(l y:bg)(c:y≠[]):∃b:List bg,pO (S l) (S y)=b.map S/\cM y b=l:=by
 let e:pO (S l) (S y)=((pO (S l) (S y)).map λw=>w.cps.G).map S:=by rw[hp];exact((JV λw _=>ů w).trans (ET _)).symm
 show#[_,e,4];let h:=StrLaws.join_split (S l) (S y);let a:=(StrLaws.glued_eq_join (S y) (((pO (S l) (S y)).map λw=>w.cps.G).map S)).symm.trans (Og y _);rw[<-e,h]at a;exact(kX a).symm
section
variable{P:cx}{w:b0}{K:aI}{mg:b6}{base:Heap}
def D'{n:Nat}(h:n<=50000):n+2<=sizeLine:=by
 show n+2<=16777216
 lia
def Ű{R:aO}{c:Bool}(e:b=c)(h:R (.aX c) H):R (.aX b) H:=by rwa[e]
def amQ(l:bg):((fk l.Z).map λi=>ni (l.getD i 0)).all id=l.all ni:=by
 let e:(fk l.Z).map (λi=>ni (l.getD i 0))=l.map ni:=by
  apply ahW
  .simp
  intro i a b;simp at a;simp[gL,a]
 rw[e,P'];rfl
def QL:fu:=λvs H Q _=>∃l:List Nat,vs=[.str (S l)]/\l.Z<=50000/\∀H',av H H'->Q (.aX (hU l)) H'
def aoy{f:Addr}(F:b1 K "is_written_number" "is_written_number" H3 f fd)(B:fc mg):-aA a6 1 f fd k_ QL:=by
 show-F.ok asS (λU A m s H vs Q E ao h=>?_);let#[l,2,X,q]:=h;show#[_,(a3 (eu (lS.pt (x2 (jF (z5 q8 q8 bt (d4 Xy B.len iT (aj (aa 0) ay)) bt)) (xS (lS.pt (ĸ (gs q7 (ck ň (aa 0) bt) cF (e9 _)) (Ü (gs AP (aa 0) cF (e9 _)))))))) (a9 (ct nv)) eH)
  (a9 (ct (d4 (Dl rfl) B.BU D6 (aj (j0 (N':=["sign"]) (cs:=[jp]) rfl (ł (aa 0)) rfl qL rfl qL (hv (λp O=>bk O (ee))) rfl
   (.own .nil)
   (λC s3 aK bP de=>#[(ed 0 (by show(["sign"]:bY).Nodup;decide+kernel)),iQ,(Ze N0 N0 cF (aa 0) cF)])) ay))))),4]
 let y:(S l).Z<=sizeLine:=eh (by rw[eY];lia) (D' X);let s0:dH "0"=S [48]:=by left
 let Y:dH "9"=S [57]:=by left
 let T:((S l).Z:Int)=(l.Z:Int):=by rw[eY]
 rw[s0,Y];show#[5,y,3,1,4];rw[T];by_cases d:1<=l.Z
 case neg=>
  show-fv (dJ jQ) #[1,ey rfl (ey rfl ?_)];have:hU l=jA:=by unfold hU;rw[dJ d];rfl
  rw[this]at q;exact q H (av.refl _)
 by_cases g:l.Z<=10
 case neg=>
  show-ey (cQ jQ) #[3,1,ey (by rw[dJ jQ];rfl) (ey rfl ?_)];have:hU l=jA:=by unfold hU;rw[dJ g];simp
  rw[this]at q;show-q H (av.refl _)
 show-ey (cQ jQ) #[3,1,A2 jQ ?_];obtain⟨d9,jN,dc⟩:∃d9 jN,l=d9::jN:=by
  cases l with
  |nil=>simp at d
  |cons a r=>show#[a,r,2]
 let Z:al.hZ (S l).cps.toList 0=ja d9:=by show al.hZ l 0=ja d9;rw[dc];exact jV (j:=0) rfl
 let u:(signs (S l)).Z<1000:=by
  rw[Pj,bQ]
  lia
 let N:(signs (S l)).Z=l.Z:=by rw[Pj,bQ]
 let t:l.head?=ja d9:=by rw[dc];rfl
 show#[1,_,3,y,Z,7,4];by_cases e:d9=48
 case' pos=>
  show-ey (by rw[e];exact cQ rfl) #[1,7,4];by_cases b:l=[48]
  case neg=>
   show-ey (by rw[dJ (λz=>b (kX (V.str.inj z)))];rfl) ?_;have:hU l=jA:=by unfold hU;rw[t,e,cQ rfl,dJ b];simp
   rw[this]at q;show-q H (av.refl _)
  show-fv (by rw[b];simp) ?_;let L:hU l=l.all ni:=by unfold hU;rw[cQ d,cQ g,cQ b];simp
 case' neg=>
  show-fv (dJ λz=>e (by have:=V.str.inj z;have:=gF (λx:Str=>x.cps.G) this;simpa using this)) (gV ?_);let L:hU l=l.all ni:=by unfold hU;rw[cQ d,cQ g,t,dJ (λz=>e (gN z))];simp
 all_goals
  dsimp only[tV,t4,pq,js];refine xB (J:=EH (S l)) (H1:=H) (xs:=signs (S l)) (rest:=[]) (λR h=>#[5,h]) rfl (Ł _) (e8 jQ) (λi=>.aX (ni (l.getD i 0))) (λi x M R o ax c=>?_) (λD H' d g I=>?_)
  .rw[Pj,ea]at o;let#[k,G,2]:=hN.mp o;let c:=c M (av.refl _);rw[A5 G]at c;let n:(!decide ((S [k]).cps.G<(S [48]).cps.G))=decide (48<=k):=Jm k 48;let b:(!decide ((S [57]).cps.G<(S [k]).cps.G))=decide (k<=57):=Jm 57 k;show#[1,3,1,4];by_cases z:48<=k
   .refine ey (n.trans (cQ z)) #[3,Ű (b.trans ?_) c];unfold ni;rw[cQ z];rfl
   show-fv (n.trans (dJ z)) ?_;have:ni k=jA:=by unfold ni;rw[dJ z];rfl
   rwa[this]at c
  show#[D,(fk l.Z).map λi=>ni (l.getD i 0),2,aM.of (by rw[g,N,hp];rfl),Ű ?_ (q H' I)];rw[amQ,L]
def ű(a:Addr):fu:=λvs H Q E=>∃l:List Nat,vs=[.str (S l)]/\l.Z<=50000/\(∀m,m<10 ^ 10->l=b_ m->∀H',av H H'->Q (.int (m:Int)) H')/\((∀m,m<10 ^ 10->l≠b_ m)->∀H',av H H'->E (.ref a) jp H')
def aoz{f:Addr}(F:b1 K "read_number" "read_number" NJ f fd)(B:fc mg)(g:oK x j u bm)(c:Exc K mg "NoText" lb bm j)(p:bO K mg "is_written_number" H3 k_ f1 i)(d:-aA a6 1 f1 i k_ QL):-aA (dn P w) 2 f fd iN (ű lb):=by
 show-iH F asT (λn A a s H vs Q E k h=>?_);let#[l,2,o,q,r]:=h;show#[_,(a3 (eu (jF (jE (dp d p k.mono cd (aj (aa 0) ay)))) (a9 (oZ g c rfl (aj cF ay))) eH)
  (a9 (ct (iP Z1 B.int I6 (aj (aa 0) ay))))),4]
 show#[1,l,2,o,λH' b=>#[1,4]];cases hw:hU l with
 |true=>
  let#[m,hm,e]:=Ů hw;let t:=pa hm;show-gV #[1,_,1,(by rw[e];show-Oh hm),by rw[eY,e];lia,q m hm e H' b]
 |false=>
  show-hb #[by show 1<=sizeLine;decide,r (λm hm e=>?_) H' b];rw[e,EB hm]at hw;cases hw
end
end dP
namespace bX
open PySem PySem.Spec PyProof.Rows al
structure rx(prog:cx)(w:b0)(i l:Addr)(S:Nat->Heap->Prop)(xs:mm):Prop where
 ext:∀{k:Nat}{h h':Heap},S k h->(∀o,h.get? i=ja o->h'.get? i=ja o)->(∀o,h.get? l=ja o->h'.get? l=ja o)->S k h'
 lt:∀{k:Nat}{h:Heap},S k h->i<h.Y
 item:∀{A:et}{E:cL}{s:aS}{k:Nat}{x:a5}{Q:cL},S k s.Q->xs[k]?=ja x->(∀h',S (k+1) h'->j7 i s.heap h'->Q x {s with heap:=h'})->aQ (bj prog w) A (vT (.ref i)) Q E s
 stop:∀{A:et}{E:cL}{s:aS}{k:Nat}{Q:cL},A.handled=jp->S k s.Q->xs[k]?=jp->(∀h' e,PG i s.heap h'->(∃o,h'.get? e=ja o/\o.cls=.type "StopIteration")->E (.ref e) {s with heap:=h'})->aQ (bj prog w) A (vT (.ref i)) Q E s
theorem Θ(t:l≠i):rx prog w i l (λk h=>h.IsListIter i l k/\h.IsList l xs) xs where
 ext:=λ⟨a,b⟩f g=>#[a.at λo e=>f o e,let⟨o,e,r⟩:=b;#[o,g o e,r]]
 lt:=λ⟨⟨_,e,_⟩,_⟩=>dO e
 item:=λ⟨a,b⟩c q=>wpAny_nextOf_list_item a b c λp m d=>q p #[m,b.extBut d.extBut t] d
 stop:=λn⟨a,b⟩c q=>wpAny_nextOf_list_end n a b c q
section
variable{prog:cx}{w:b0}
def aoA{E:cL}{s:aS}{t:Addr}{i:Nat}{a:mm}{Q:cL}(b:EG s.heap it t i)(k:rC s.heap t a)(f:a[i]?=ja x)(l:∀d,EG d it t (i+1)->j7 it s.heap d->Q x {s with heap:=d}):aQ (bj prog w) A (vT (.ref it)) Q E s:=by let#[o,aY,g,c]:=id b;let#[ol,m,_,p,n]:=k;unfold vT;show-az (xY (name:=dH "__next__") b.typeIs XB (nI XB b.typeIs auO ?_ (atY _)));change aQ _ _ (uV (.ref it) 0 >>=_) _ _ s;show-az (kt aY c (x:=.ref t) rfl ?_);change aQ _ _ (if(c1 t==iA)=jx then _ else _) _ _ s;rw[bL (λz:(c1 t==iA)=jx=>hB z)];change aQ _ _ (uV (.ref it) 1 >>=_) _ _ s;show-az (kt aY c (x:=.int i 0) rfl ?_);change aQ _ _ (NO (.ref t) >>=_) _ _ s;show-az (vJ m n ?_);simp only[ug,f];show-az (DX aY c qv (bu #[x,2,bu (l _ #[_,yf _ aY (Đ (E8 c _)),(aiZ ..).trans g,4] (A' ..))]));rw[E8 c];simp[mL]
def amR{A:et}{E:cL}{s:aS}{t:Addr}{i:Nat}{b:mm}{Q:cL}(g:A.handled=jp)(c:EG s.heap it t i)(l:rC s.heap t b)(k:b[i]?=jp)(n:∀d e,PG it s.heap d->(∃o,d.get? e=ja o/\o.cls=.type "StopIteration")->E (.ref e) {s with heap:=d}):aQ (bj prog w) A (vT (.ref it)) Q E s:=by
 let#[o,aY,y,f]:=id c;let#[ol,p,_,K,r]:=l;unfold vT;show-az (xY (name:=dH "__next__") c.typeIs XB (nI XB c.typeIs auO ?_ (atY _)));change aQ _ _ (uV (.ref it) 0 >>=_) _ _ s;show-az (kt aY f (x:=.ref t) rfl ?_);change aQ _ _ (if(c1 t==iA)=jx then _ else _) _ _ s;rw[bL (λz:(c1 t==iA)=jx=>hB z)];change aQ _ _ (uV (.ref it) 1 >>=_) _ _ s;show-az (kt aY f (x:=.int i 0) rfl ?_);change aQ _ _ (NO (.ref t) >>=_) _ _ s;show-az (vJ p r ?_);simp only[ug,k];show-az (xZ (az (DX aY f qv ?_)));change aQ _ _ (Hc (.type "StopIteration") [] >>=_) _ _ _;show-az ?_;simp only[Hc,newTuple];show-az (pC (az (m:=F8 _ _) (II (a:=iA) (by first|rfl|(simp only[F8];rfl)) (pC ?_ (by size_fits)))) (by size_fits));simp only[raiseNew];show-az (afl ?_)
 first|rw[show A.in1.handled=jp from g]|rw[g]
 show-az (bu (YG (n _ _ (((A' ..).extBut.push _).push _) #[_,g4 _ rfl,2])))
theorem amS{t:Addr}(A:t≠i):rx prog w i t (λk h=>EG h i t k/\rC h t xs) xs where
 ext:=λ⟨⟨o,e,r⟩,⟨o2,f,p⟩⟩g l=>#[#[o,g o e,r],#[o2,l o2 f,p]]
 lt:=λ⟨⟨_,e,_⟩,_⟩=>dO e
 item:=λ⟨a,b⟩c q=>aoA a b c λy m d=>q y #[m,let⟨o,e,r⟩:=b;#[o,d.extBut _ _ A e,r]] d
 stop:=λn⟨a,b⟩c q=>amR n a b c q
variable{A:et}{E:cL}{s:aS}{z eG gi gS iY dX dr:Addr}{nU yO:Nat->Heap->Prop}{xs ys:mm}{k1 k2:Nat}{a b:a5}
def rx.out{S:Nat->Heap->Prop}{k:Nat}(D:rx prog w i l S ks)(st:S k h)(d:j7 c h j)(f:i≠c)(g:l≠c):S k j:=(D.ext st (λo e=>d.extBut _ _ f e) λo e=>d.extBut _ _ g e)
def amT{Q:cL}(Z:Rk z eG gi gS iY dX dr)(g:rx prog w gS dX nU xs)(k:rx prog w iY dr yO ys)(r:nN s.heap z eG gi .none)(l3:j8 s.heap eG (.ref gS) (.ref iY))(nk:j8 s.heap gi a b)(ai:nU k1 s.Q)(ak:yO k2 s.Q)(aq:xs[k1]?=ja x)(cc:ys[k2]?=ja y)(fw:∀f,nN f z eG gi (mL s.L)->j8 f gi x y->nU (k1+1) f->yO (k2+1) f->j8 f s.heap.objs.size x y->(∀c o,c≠z->c≠gi->c≠gS->c≠iY->s.heap.get? c=ja o->f.get? c=ja o)->Q (.ref s.L) {s with heap:=f}):
  aQ (bj prog w) A (Builtin.«zip.__next__» #[[.ref z],[]]) (λD s'=>∃v,D=.done (.ret v)/\Q v s') E s:=by
 change aQ _ _ (uV (.ref z) 2 >>=_) _ _ _;show-az (kt r rfl (x:=.bool jA) rfl ?_);change aQ _ _ (uV (.ref z) 3 >>=_) _ _ _;show-az (kt r rfl (x:=.ref eG) rfl (az (vJ l3 rfl ?_)));change aQ _ _ (O5 (.ref z) >>=_) _ _ _;show-az ?_;unfold O5;show-az (kt r rfl (x:=.none) rfl (bu ?_));simp only[if_true];show-az (xZ (az (kt r rfl (x:=.ref gi) rfl (az (vK r qv λg1 u t=>az ?_)))));let u:nN g1 z eG gi .ellipsis:=u;simp only[aih,aij,JS,Ï];show-az (az (afs ?_));change aQ _ _ (vT (.ref gS) >>=_) _ _ _;show-az (g.item (g.out ai t Z.i1z Z.l1z) aq λg2 gY K=>bu ?_);let O:j8 g2 gi a b:=K.extBut _ _ Z.TOi1 (t.extBut _ _ Z.TOz nk);show-az (vJ O rfl (az (aAi O λg3 H L=>az (AF (bu ?_)))));let H:j8 g3 gi x b:=H;show-az (az (afs ?_));change aQ _ _ (vT (.ref iY) >>=_) _ _ _;show-az (k.item (k.out (k.out (k.out ak t Z.i2z Z.l2z) K Z.i12.symm Z.l2i1) L Z.TOi2.symm Z.l2TO) cc λqG gG m=>bu ?_);let I:j8 qG gi x b:=m.extBut _ _ Z.TOi2 H;show-az (vJ I rfl (az (aAi I λd j p=>az (AF (bu (bu ?_))))));let j:j8 d gi x y:=j;show-az (vJ j rfl (az (afq ?_)));let U:d.Y=s.L:=by rw[p.1,m.1,L.1,K.1,t.1]
 let M:nN d z eG gi .ellipsis:=p.extBut _ _ Z.TOz.symm (m.extBut _ _ Z.i2z.symm (L.extBut _ _ Z.TOz.symm (K.extBut _ _ Z.i1z.symm u)));let F:∀c o,c≠z->c≠gi->c≠gS->c≠iY->s.heap.get? c=ja o->d.get? c=ja o:=λc o i h G q e=>p.extBut _ _ h (m.extBut _ _ q (L.extBut _ _ h (K.extBut _ _ G (t.extBut _ _ i e))));let X:nU (k1+1) d:=g.out (g.out (g.out gY L Z.TOi1.symm Z.l1TO) m Z.i12 Z.l1i2) p Z.TOi1.symm Z.l1TO;let Y:yO (k2+1) d:=k.out gG p Z.TOi2.symm Z.l2TO;let T:z<d.Y:=dO M;change aQ _ _ (aga (.ref z) (.ref d.Y) >>=_) _ _ _;show-az ?_;unfold aga;let d_:nN (d.push {cls:=.type "tuple",data:=.seq (List.toArray [x,y])}) z eG gi .ellipsis:=d8 _ M;show-az (vK d_ qv λB C R=>?_);let C:nN B z eG gi (mL d.Y):=C;show-vK C qv λN V P=>?_;let V:nN N z eG gi (mL d.Y):=V;let l:∀c o,c≠z->d.get? c=ja o->N.get? c=ja o:=λc o n e=>P.extBut _ _ n (R.extBut _ _ n (d8 _ e));let J:j8 N d.objs.size x y:=P.extBut _ _ (wq T) (R.extBut _ _ (wq T) (g4 _ rfl));rw[U]at V J;show-bu #[1,4];change Q (.ref d.Y) _;rw[U];show-fw N V (l _ _ Z.TOz j) (g.ext X (λo e=>l _ o Z.i1z e) λo e=>l _ o Z.l1z e) (k.ext Y (λo e=>l _ o Z.i2z e) λo e=>l _ o Z.l2z e) J λc o i h G q e=>l c o i (F c o i h G q e)
def aoB{Q:Fin->aS->Prop}(V:A.handled=jp)(Z:Rk z eG gi gS iY dX dr)(p:rx prog w gS dX nU xs)(f:nN s.heap z eG gi .none)(B:j8 s.heap eG (.ref gS) (.ref iY))(F:j8 s.heap gi a b)(L:nU k1 s.Q)(N:xs[k1]?=jp)(q:∀m e,(∀c o,c≠z->c≠gS->s.heap.get? c=ja o->m.get? c=ja o)->(∃o,m.get? e=ja o/\o.cls=.type "StopIteration")->E (.ref e) {s with heap:=m}):
  aQ (bj prog w) A (Builtin.«zip.__next__» #[[.ref z],[]]) Q E s:=by
 change aQ _ _ (uV (.ref z) 2 >>=_) _ _ _;show-az (kt f rfl (x:=.bool jA) rfl ?_);change aQ _ _ (uV (.ref z) 3 >>=_) _ _ _;show-az (kt f rfl (x:=.ref eG) rfl (az (vJ B rfl ?_)));change aQ _ _ (O5 (.ref z) >>=_) _ _ _;show-az ?_;unfold O5;show-az (kt f rfl (x:=.none) rfl (bu ?_));simp only[if_true];show-az (xZ (az (kt f rfl (x:=.ref gi) rfl (az (vK f qv λh k t=>az ?_)))));let k:nN h z eG gi .ellipsis:=k;simp only[aih,aij,JS,Ï];show-az (az (afs ?_));change aQ _ _ (vT (.ref gS) >>=_) _ _ _;show-az (p.stop V (p.out L t Z.i1z Z.l1z) N λi e y u=>?_);let#[C,g,d]:=u;let n:nN i z eG gi .ellipsis:=y _ _ Z.i1z.symm k;let l:e≠z:=λx=>by subst x;rw[n]at g;cases g;simp at d
 show-vK n qv λj _ K=>q j e (λc o r D x=>K.extBut _ _ r (y _ _ D (t.extBut _ _ r x))) #[C,K.extBut _ _ l g,d]
def amU{Q:Option a5->aS->Prop}(Z:Rk z eG gi gS iY dX dr)(N:rx prog w gS dX nU xs)(V:rx prog w iY dr yO ys)(f:nN s.heap z eG gi .none)(h:j8 s.heap eG (.ref gS) (.ref iY))(i:j8 s.heap gi a b)(p:nU k1 s.Q)(r:yO k2 s.Q)(t:xs[k1]?=ja x)(K:ys[k2]?=ja y)(L:∀d,nN d z eG gi (mL s.L)->j8 d gi x y->nU (k1+1) d->yO (k2+1) d->j8 d s.heap.objs.size x y->(∀c o,c≠z->c≠gi->c≠gS->c≠iY->s.heap.get? c=ja o->d.get? c=ja o)->Q (ja (.ref s.L)) {s with heap:=d}):
  aQ (bj prog w) A (kE (.ref z)) Q E s:=by
 let g:s.TypeIs (.ref z) "zip":=#[_,f,2]
 unfold kE;show-az (AA (xY (name:=dH "__next__") g F.slot_zip_next (nI F.slot_zip_next g F.entry_zip_next
   (amT Z N V f h i p r t K λd m n e j k l=>bu (L d m n e j k l)) (F.args_zip_next_1 _))))
def amV{Q:Option a5->aS->Prop}(p:A.handled=jp)(Z:Rk z eG gi gS iY dX dr)(y:rx prog w gS dX nU xs)(f:nN s.heap z eG gi .none)(K:j8 s.heap eG (.ref gS) (.ref iY))(L:j8 s.heap gi a b)(l:nU k1 s.Q)(m:xs[k1]?=jp)(r:∀d,(∀c o,c≠z->c≠gS->s.heap.get? c=ja o->d.get? c=ja o)->Q jp {s with heap:=d}):aQ (bj prog w) A (kE (.ref z)) Q E s:=by
 let g:s.TypeIs (.ref z) "zip":=#[_,f,2]
 unfold kE;show-az (AA (xY (name:=dH "__next__") g F.slot_zip_next (nI F.slot_zip_next g F.entry_zip_next (aoB p Z y f K L l m λd e k t=>?_) (F.args_zip_next_1 _))));let#[o,aY,n]:=t;show-az (YD (T:="StopIteration") (b:=jx) #[o,aY,n] adw (bu (r _ k)))
abbrev I_(t:Addr):Obj:={cls:=.type "tuple_iterator",data:=.fields (List.toArray [.ref t,.int 0 0])}
abbrev aAE(l:Addr):Obj:={cls:=.type "list_iterator",data:=.fields (List.toArray [.ref l,.int 0 0])}
abbrev I8(h:Heap)(t l:Addr):Heap:=(h.push (I_ t)).push (aAE l)
abbrev I9(h:Heap)(t l:Addr):Heap:=(I8 h t l).push {cls:=.type "tuple",data:=.seq (List.toArray [.ref h.Y,.ref (h.push (I_ t)).objs.size])}
abbrev I'(h:Heap)(t l:Addr):Heap:=(I9 h t l).push {cls:=.type "tuple",data:=.seq (List.toArray [.none,.none])}
abbrev Ee(h:Heap)(t l:Addr):Heap:=(I' h t l).push {cls:=.type "zip",data:=.fields (List.toArray [.none,.bool jA,.bool jA,.ref (I8 h t l).objs.size,.ref (I9 h t l).objs.size])}
end
theorem aoS(t l:Addr)(m n:mm):
  Meets (Builtin.«zip.__new__» #[[.type "zip",.ref t,.ref l],[]]) (λ_ R s=>rC s.heap t m/\s.heap.IsList l n/\R (.ok (.ret (.ref (I' s.heap t l).objs.size))) {s with heap:=Ee s.heap t l}):=
 .of_wp λk w A R s h=>by
  let#[c,g,d,f,os]:=s;let#[o,p,h]:=h;let r:=sub_zip;let a:rC (Shared.heap #[c,g,d,f,os]) t m:=o;let b:Heap.IsList (Shared.heap #[c.push (I_ t),g,d,f,os]) l n:=Heap.IsList.push p _
  wp_walk using iter_tuple a,DW b
  show#[1,h]
section
variable{prog:cx}{w:b0}{A:et}{E:cL}{s:aS}
def ai8{t:Addr}{Q:cL}(L:rC s.heap t xs)(N:s.heap.IsList l i)(h:∀a,nN a (s.L+4) (s.L+2) (s.L+3) .none->j8 a (s.L+2) (.ref s.L) (.ref (s.L+1))->
   j8 a (s.L+3) .none .none->EG a s.heap.objs.size t 0->a.IsListIter (s.L+1) l 0->(∀c o,s.heap.get? c=ja o->a.get? c=ja o)->Q (.ref (s.L+4)) {s with heap:=a}):
  aQ (bj prog w) A (call (.type "zip") [.ref t,.ref l]) Q E s:=by
 show-callType_new F.called_zip qc (F.typeCall_zip_2 _ _) (F.newCall_zip_2 _ _) (λm=>F.args_object_init_3 m _ _) F.entry_zip_new (aoS t l xs i) #[L,N,4];let g:(s.heap.push (I_ t)).objs.size=s.L+1:=uc ..;let f:(I8 s.heap t l).objs.size=s.L+2:=by rw[uc,g]
 let d:(I9 s.heap t l).objs.size=s.L+3:=by rw[uc,f]
 let n:(I' s.heap t l).objs.size=s.L+4:=by rw[uc,d]
 let b:=λ{c:Addr}{o:Obj}(e:(I' s.heap t l).get? c=ja o)=>d8 {cls:=.type "zip",data:=.fields (List.toArray [.none,.bool jA,.bool jA,.ref (I8 s.heap t l).objs.size,.ref (I9 s.heap t l).objs.size])} e;let k:(Ee s.heap t l).get? (I' s.heap t l).objs.size=ja _:=g4 _ rfl;let y:(Ee s.heap t l).get? (I9 s.heap t l).objs.size=ja _:=b (g4 _ rfl);let r:(Ee s.heap t l).get? (I8 s.heap t l).objs.size=ja _:=b (d8 _ (g4 _ rfl));let p:(Ee s.heap t l).get? (s.heap.push (I_ t)).objs.size=ja _:=b (d8 _ (d8 _ (g4 _ rfl)));let K:(Ee s.heap t l).get? s.L=ja _:=b (d8 _ (d8 _ (d8 _ (g4 _ rfl))));show _/\_;rw[f,d,n]at k;rw[g,f]at r;rw[d]at y;rw[g]at p;rw[n];show#[#[_,k,2],h _ k r y #[_,K,2,2] #[_,p,2,2] λc o x=>b (d8 _ (d8 _ (d8 _ (d8 _ x))))]
abbrev AM(n:Nat):List Addr:=[n+4,n+2,n+3,n,n+1]
def Eh{n b:Nat}:b∈AM n↔b=n+4\/b=n+2\/b=n+3\/b=n\/b=n+1:=by simp[AM]
def amW:i9 "zip"=ja (.type "zip"):=by left
def yP(t:Bool)(K:aI)(H:af)(a:Addr)(b:aL):Prop:=match t with
 |true=>cH K H a b
 |false=>aM K H a b
def v7(t:Bool)(h:Heap)(n l i:Nat):Prop:=match t with
 |true=>EG h n l i
 |false=>h.IsListIter n l i
def Ek(t:Bool)(h:Heap)(l:Addr)(a:mm):Prop:=match t with
 |true=>rC h l a
 |false=>h.IsList l a
def v7.ext{t:Bool}{h a:Heap}{n l i:Nat}(q:v7 t h n l i)(k:∀o,h.get? n=ja o->a.get? n=ja o):v7 t a n l i:=by
 cases t
 .exact Heap.IsListIter.at q k
 let#[o,e,r]:=q;show#[o,k o e,r]
def v7.obj{t:Bool}{h:Heap}{n l i:Nat}(q:v7 t h n l i):∃o,h.get? n=ja o/\∀v,o.data≠.cell v:=by
 cases t
 .let#[o,e,_,d]:=q;show#[o,e,λv z=>by rw[d]at z;cases z]
 let#[o,e,_,d]:=q;show#[o,e,λv z=>by rw[d]at z;cases z]
def Ek.lt{t:Bool}{h:Heap}(q:Ek t h l xs):l<h.Y:=by
 cases t
 .let#[_,e,_]:=q;show-dO e
 let#[_,e,_]:=q;show-dO e
end
def aa2(t:Bool)(a:l≠i):rx prog w i l (λk h=>v7 t h i l k/\Ek t h l xs) xs:=by
 cases t
 .exact Θ a
 show-amS a
def RF{X:bA}{t:Bool}{s:aS}(I:Inv X pins U H s)(h:yP t X.K H a xs):∃b:List a5,dM xs b/\Ek t s.heap a b.toArray:=by
 cases t
 .let#[b,r,p,_]:=I.list h;show#[b,r,p.isList]
 let#[b,r,p,_]:=I.tuple h;show#[b,r,p]
def asV{X:bA}{t:Bool}{b:aL}(I:Inv X pins U H s)(h:yP t X.K H a xs)(g:yP t X.K H a b):xs=b:=by
 cases t
 .exact I.MT h g
 show-I.ae8 h g
def ai9{E:cL}{s:aS}{t:Addr}{Q:cL}(b:Ek e s.heap t xs)(d:s.heap.IsList l i)(h:∀a,nN a (s.L+4) (s.L+2) (s.L+3) .none->j8 a (s.L+2) (.ref s.L) (.ref (s.L+1))->
   j8 a (s.L+3) .none .none->v7 e a s.heap.objs.size t 0->a.IsListIter (s.L+1) l 0->(∀c o,s.heap.get? c=ja o->a.get? c=ja o)->Q (.ref (s.L+4)) {s with heap:=a}):
  aQ (bj prog w) A (call (.type "zip") [.ref t,.ref l]) Q E s:=by
 cases e
 .exact call_zip_2 b d λa m k n p f _ g=>h a m k n p f g
 show-ai8 b d h
structure FK(t:Bool)(n dX dr:Nat)(i:Nat)(f0:a5)(h:Heap):Prop where
 hz:nN h (n+4) (n+2) (n+3) f0
 l3:j8 h (n+2) (.ref n) (.ref (n+1))
 nk:∃a b,j8 h (n+3) a b
 ai:v7 t h n dX i
 ak:h.IsListIter (n+1) dr i
def FK.keep{t:Bool}{n c d:Nat}{i:Nat}{h f:Heap}(z:FK t n c d i f0 h)(k:∀b∈AM n,∀o,h.get? b=ja o->f.get? b=ja o):FK t n c d i f0 f:=by let#[m,p,#[a,b,r],g,l]:=z;show#[k _ qv _ m,k _ qv _ p,#[a,b,k _ qv _ r],g.ext λo e=>k _ qv o e,l.at λo e=>k _ qv o e]
def PL(t:Bool)(K:aI)(a b:Nat):ff:=
 #[λi H=>∃c d x y,yP t K H a c/\aM K H b d/\c[i]?=ja x/\d[i]?=ja y,
 λi H u H'=>∃p x y,H p=jp/\u=.ref p/\(∀c,yP t K H a c->c[i]?=ja x)/\(∀d,aM K H b d->d[i]?=ja y)/\H'=upd H p (.tup [x,y]),
 λi H=>∃c d,yP t K H a c/\aM K H b d/\c.Z<=i]
def ak1(t:Bool){K:aI}{k:Nat}(n a b:Nat)(u:a<n)(G:b<n):
  Turn P w K (.Tuple elts k pos) (PL t K a b) (AM n) (n+4) (λi h=>FK t n a b i .none h)where
 mem:=by simp
 obj:=λi h st d f=>by
  let#[D,r,#[cu,bH,L],A,#[o2,aP,kz,gG]]:=st;rcases Eh.mp f with rfl|rfl|rfl|rfl|rfl
  .show#[_,D,λv z=>by
    let j:Pb _=Ew v:=z;cases j]
  .show#[_,r,λv z=>by
    let j:Data.seq _=Ew v:=z;cases j]
  .show#[_,L,λv z=>by
    let j:Data.seq _=Ew v:=z;cases j]
  .exact A.obj
  show#[o2,aP,λv z=>by rw[gG]at z;cases z]
 keep:=λi h h' st dm=>st.keep dm
 item:=by
  intro X gR hw gw m i g s U H E I B st hg;subst gR hw gw;let#[xs,ys,x,y,ts,F,O,C]:=hg;let#[axl,M,fM]:=RF I ts;let#[tA,Xi,fz,_]:=I.list F;let#[lM,U5,Y]:=M.get O;let#[oC,U6,Z]:=Xi.get C;let#[D,r,#[cu,bH,L],A,g2]:=id st;show-amU (zipApart_new u G) (aa2 t (fH u)) (Θ (fH (wo G))) D r L #[A,fM] #[g2,fz.isList] (x:=lM) (y:=oC) (by simpa using U5) (by simpa using U6) λai ig gb wI yW kp aU=>#[1,4]
  let wI:=wI.1;let yW:=yW.1;show-wpAny_letOwnedTupleGo_zip (s:={s with heap:=ai}) ig λV J l=>?_;let l:j7 (n+4) ai V:=l;let hn:H s.L=jp:=I.fresh;let sf:∀d o,d∉AM n->s.heap.get? d=ja o->V.get? d=ja o:=λd o f q=>by let f:=λz=>f (Eh.mpr z);exact(l.2 d (λz=>f (.inl z))).trans (aU d o (λz=>f (.inl z)) (λz=>f (.inr (.inr (.inl z)))) (λz=>f (.inr (.inr (.inr (.inl z))))) (λz=>f (.inr (.inr (.inr (.inr z))))) q)
  let N:n+4<s.L:=dO D;let zl:V.get? s.L=ja {cls:=.type "tuple",data:=.seq (List.toArray [lM,oC])}:=(l.2 _ (wq N)).trans kp;let DE:FK t n a b (i+1) .none V:=#[J,(l.2 _ (by show @Ne Nat _ _;lia)).trans (aU _ _ (by show @Ne Nat _ _;lia) (by show @Ne Nat _ _;lia) (by show @Ne Nat _ _;lia) (by show @Ne Nat _ _;lia) r),#[6,(l.2 _ (by show @Ne Nat _ _;lia)).trans gb],wI.ext λo q=>(l.2 _ (by show @Ne Nat _ _;lia)).trans q,yW.at λo q=>(l.2 _ (by show @Ne Nat _ _;lia)).trans q]
  show#[.ref s.L,upd H s.heap.objs.size (.tup [x,y]),4,2,#[s.L,x,y,hn,2,(λys C=>by rwa[asV I C ts]),(λOw Va=>by rwa[I.MT Va F]),2],DE,λd f=>?_]
  .show Inv X g U (upd H s.heap.objs.size (.tup [x,y])) {s with heap:=V,gens:=s.gens,drawn:=s.drawn,toks:=s.toks};show-Zf I B sf zl (.cons Y (.cons Z .nil))
  let dl:d≠s.L:=λz=>by
   let R:d<s.L:=by
    rcases Eh.mp f with rfl|rfl|rfl|rfl|rfl
    .exact N
    .exact dO r
    .exact dO L
    .let#[_,q,_]:=A.obj;show-dO q
    let#[_,q,_]:=g2;show-dO q
   show-bk z (fH R)
  rw[aJ dl];exact(B d f).1
 done:=by
  intro X gR hw gw m i g s U H E I B st hg;subst gR hw gw;let#[xs,ys,bp,F,O]:=hg;let#[its,cZ,p]:=RF I bp;let#[tA,Xi,fz,_]:=I.list F;let au:=cZ.Z;let#[T,r,#[cu,bH,L],A,g2]:=id st;show-amV (I.ok.hd m) (zipApart_new u G) (aa2 t (fH u)) T r L #[A,p] (by simp;lia) λh' Q=>#[2,4]
  let dx:∀c o,c∉AM n->s.heap.get? c=ja o->h'.get? c=ja o:=λc o m e=>by let m:=λz=>m (Eh.mpr z);show-Q c o (λz=>m (.inl z)) (λz=>m (.inr (.inr (.inr (.inl z))))) e
  show Inv X g U H {s with heap:=h',gens:=s.gens,drawn:=s.drawn,toks:=s.toks};exact amk I B dx
 self:=λ_ _ _ _ _ st h=>aAg st.hz h
section
variable{X:bA}{elts:hO}{k:Nat}{Ap:Pos}
def asW(t:Bool)(K:aI)(f:fR):eG:=λU H R=>f U H λvs c=>∃a b,vs=[.ref a,.ref b]/\(∃d,yP t K c a d)/\(∃d,aM K c b d)/\R (PL t K a b) c
def aoT{t:Bool}{f:Expr}{m:fR}{p:Pos}(J:jR X "zip")(hm:X.mg "zip"=jp)(V:fI X [aG,f] m)(G:dh [aG,f] X.env=(jA,eval aG X.env)::dh [f] X.env:=by rfl)(fV:(hE pos (dh [f] X.env)).any (·.1)=jA:=by rfl):
  m1 X (.Tuple elts k Ap) (.Call (.Name "zip" p) [aG,f] [] pos) (asW t X.K m):=by
 intro l s U H R I h;show-Call_ (As I J hm amW (Qw (bT (V pos l s U H _ I h) λus c M=>?_) G fV));let#[vs,A,g,B,z]:=M;let#[a,b,e,#[xs,P],#[ys,O],q]:=z;subst e;cases B with
 |cons r i=>
  cases i with
  |cons C i=>
   cases i;cases r;cases C;let#[x,u,n]:=RF g P;let#[tA,Y,w,j]:=g.list O;let L:a<c.L:=n.lt;let N:b<c.L:=by let#[_,e,_]:=w.isList;show-dO e
   show-ai9 n w.isList λZ y E Q T K D=>?_;show-aAg y ?_;show#[c.L+4,AM c.L,6,A,2,g.kept (t':=c.toks) λb o e=>D b o e,ak1 t _ a b L N,#[y,E,#[6,Q],T,K],λd F=>?_,q];let le:c.L<=d:=by rcases Eh.mp F with rfl|rfl|rfl|rfl|rfl<;>first|exact cy _|show-ü _ _
   show-g.tm le (g.bC.fresh le)
abbrev PK(K:aI)(a b:Nat):ff:=PL jx K a b
end
end bX
namespace dP
open PySem al bX
inductive ahg(H1:af)(D:Addr)(rest:al.St)(us:aL)(G:Nat->Prop)(i m:Nat)(zs:aL)(U:al.St)(H:af):Prop where
 |mk(o cN:lh)(_:m=us.Z-i)(_:i<=us.Z)(_:zs=us.take i)(_:U=o::cN::rest)(_:av H1 H)(_:H D=ja (.lst zs))(_:∀j,j<i->G j)
def ak2{K:aI}{wi:eG}{a b:Nat}{d k f:aL}{c:al.St}{A:TE}{Q:aO}{H1:af}(G:Nat->Prop)(hw:∀R:ff->af->Prop,R (PK K a b) H1->wi U H R)(Z:hG cs U=jp::jp::c)(J:cH K H1 a d)(M:aM K H1 b k)(O:d.Z<sizeLine)(dr:k.Z=d.Z)(VL:f.Z=d.Z)(N:∀(i:Nat)(x y u:al.V)(n:af)(R:aO),d[i]?=ja x->k[i]?=ja y->f[i]?=ja u->av H1 n->(∀L,G i->av n L->R u L)->A (ja x::ja y::c) n R)(V:∀(D:Addr)(H':af),(∀j,j<f.Z->G j)->H1 D=jp->H' D=ja (.lst f)->av H1 H'->Q (.ref D) H'):
  jf wi cs (vU K 2 (p9 (hR 0) (p9 (hR 1) yo))) oE A U H Q:=by
 show-hw _ λD a8=>?_;show#[ahg H1 D c f G,#[f.Z,#[jp,jp,by simp,ei _,by simp,Z,b7 a8,aN,λ_ h=>nomatch h]],4];rintro i m zs bq H' ⟨o,cN,rfl,hi,rfl,rfl,l,p,F⟩;let s:cH K H' a d:=bX.av.tup l J;let w:aM K H' b k:=l.seq M;show#[p,qq (by rw[yA];lia) O,4];by_cases T:i<d.Z
 .let Y:d[i]?=ja d[i]:=ew T;let X:k[i]?=ja (k[i]'(by lia)):=ew jQ;let E:f[i]?=ja (f[i]'(by lia)):=ew jQ;show-.inr #[#[d,k,6,s,w,Y,X],λx n y=>?_];let#[q,t,r,P,2,gm,I,2]:=y;let B:av H' (upd H' q (.tup [t,r])):=b7 P;show#[q,1,cH.of aN,2,#[_,1,#[3,4]]];show A (ja t::ja r::c) _ _;show-N i t r _ _ _ (gm d s) (I k w) E (l.trans B) λL g C=>#[C _ _ (B _ _ p),f.Z-(i+1),9,ja t,ja r,2,9,4,2,gE a8 ((l.trans B).trans C),aN,λj bJ=>?_]
  .rw[Bj,E];rfl
  by_cases z:j=i
  .rwa[z]
  show-F j jQ
 let e:i=f.Z:=by lia
 subst e;rw[ui]at p;show-.inl #[#[d,k,s,w,9],V D H' F a8 p l]
theorem ak3{K:aI}{wi:eG}{a:Nat}{xs ys us:aL}{rest:al.St}{l:TE}{Q:aO}{H:af}(G:Nat->Prop)(z:∀R:ff->af->Prop,(∀p H1,H p=jp->av H H1->H1 p=ja (.lst ys)->R (PK K a p) H1)->wi U H R)(s:hG cs U=jp::jp::rest)(t:cH K H a xs)(w:xs.Z<sizeLine)(V:ys.Z=xs.Z)(r:us.Z=xs.Z)(f:∀(i:Nat)(x y u:al.V)(b:af)(R:aO),xs[i]?=ja x->ys[i]?=ja y->us[i]?=ja u->av H b->(∀m,G i->av b m->R u m)->l (ja x::ja y::rest) b R)(k:∀(D:Addr)(H':af),(∀j,j<us.Z->G j)->H D=jp->H' D=ja (.lst us)->av H H'->Q (.ref D) H'):
  jf wi cs (vU K 2 (p9 (hR 0) (p9 (hR 1) yo))) oE l U H Q:=
 z _ λp H1 C c A=>ak2 (wi:=λ_ _ R=>R (PK K a p) H1) (H:=H) (H1:=H1) G (λ_ h=>h) s (bX.av.tup c t) (aM.of A) w V r (λi x y u b R q L B d N=>f i x y u b R q L B (c.trans d) N) λD H' g n a8 d=>k D H' g (by
  cases e:H D with
  |none=>rfl
  |some o=>rw[c _ _ e]at n;cases n) a8 (c.trans d)
end dP
namespace bX
open PySem PySem.Spec PyProof.Rows al
inductive aoU(cs:Addr->fu->Prop)(v:V)(R:fu->Prop):Prop where
 |mk(f:Addr)(sp:fu)(_:v=.ref f)(_:cs f sp)(_:R sp)
def aoV(d:Addr->fu->Prop)(E:bF)(b:TE)(t:fR):TE:=λU H Q=>b U H λv a=>aoU d v λsp=>t U a λvs c=>sp (vs++[]) c Q E
inductive By(P:cx)(w:b0)(K:aI)(mg:b6)(base:Heap)(CX:oJ)(k:Nat)(f:Addr)(sp:fu):Prop where
 |mk(fd:nM)(ps:bY)(_:-aA CX k f fd ps sp)(_:Binds K fd ps [])(_:m4 K (.ref f)=jx)
section
variable{X:bA}{CX:oJ}{k:Nat}{cs:Addr->fu->Prop}{E:bF}{uU e:Expr}{es:hO}{NV:TE}{t:fR}{pos:Pos}
def Iv(A:a' X uU NV)(V:∀f sp,cs f sp->By X.prog X.w X.K X.mg X.base CX k f sp)(p:gU k X.A)(w:om CX X E)(m:fI X (e::es) t)(y:eval (.Call uU (e::es) [] pos) X.env=(do y1 pos (<-eval uU X.env) [] (hE pos (dh (e::es) X.env)) (n3 pos (ot [] X.env))):=by rfl)(i:dh (e::es) X.env=(jA,eval e X.env)::dh es X.env:=by rfl)(fV:(hE pos (dh es X.env)).any (·.1)=jA:=by rfl):
  a' X (.Call uU (e::es) [] pos) (aoV cs E NV t):=by intro a s U H Q I h;rw[y];show-az (bT (A a s U H _ I h) λu j b=>?_);let#[v,l,d,K,f,sp,N,c,q]:=b;subst N;obtain rfl:u=c1 f:=K;let#[z,B,F,o,n]:=V f sp c;show-BC (h₀:=X.base) d.ok.mod.tF n (bT (m pos a j U l _ d q) λD C b=>?_) i fV;let#[vs,x,g,r,L]:=b;show#[g.e1,Jl F p o .nil w g r L]
end
inductive TopD(w:b0)(K:aI)(a:Addr):Prop where
 |mk(es:Array pG)(n:Nat)(_:K.lookup a=ja ⟨.type "dict",jp,.dict es n,#[]⟩)(_:ajy w.params es.G)(_:(a==k7)=jA)
inductive asX(w:b0)(K:aI)(neg:Bool)(y x:V)(H:af)(Q:aO):Prop where
 |mk(k:Str)(a:Addr)(r:yT)(_:y=.str k)(_:x=.ref a)(_:TopD w K a)(_:dw K a k=ja r)(_:Q (.aX (cond neg (!r.isSome) r.isSome)) H)
inductive aqE(w:b0)(K:aI)(x y:V)(H:af)(Q:aO):Prop where
 |mk(k:Str)(a f:Addr)(_:y=.str k)(_:x=.ref a)(_:TopD w K a)(_:dw K a k=ja (ja (.ref f)))(_:Q (.ref f) H)
def aa3(w:b0)(K:aI)(a:Bool)(ty d:TE):TE:=λU H Q=>ty U H λy b=>d U b λx c=>asX w K a y x c Q
def aqF(w:b0)(K:aI)(c ty:TE):TE:=λU H Q=>c U H λx a=>ty U a λy b=>aqE w K x y b Q
section
variable{X:bA}{o i:Expr}{pos:Pos}{eU ty:TE}
def ŕ(j:a' X i ty)(aY:a' X o eU):E' X .In i o (aa3 X.w X.K jA ty eU):=by
 intro b s U H Q I h;show-bT (j b s U H _ I h) λq z c=>?_;let#[y,g,l,K,A]:=c;show-bT (aY b z U g _ l A) λu C c=>?_;let#[x,p,f,w,k,a,r,N,V,#[B,n,d,m,lo],e,L]:=c;subst N V;obtain rfl:u=c1 a:=w;let#[t,2]:=(show∃t,q=wD k t from K)
 show-wpAny_in_of (aeY X.prog X.w k t) lo (Ĭ (prog:=X.prog) f.e1 d m) ?_;rw[Ĩ d e];show#[.aX _,p,f.tok _,2,L]
def aja(j:a' X i ty)(aY:a' X o eU):E' X .NotIn i o (aa3 X.w X.K jx ty eU):=by
 intro b s U H Q I h;show-bT (j b s U H _ I h) λq z c=>?_;let#[y,g,l,K,A]:=c;show-bT (aY b z U g _ l A) λu C c=>?_;let#[x,p,f,w,k,a,r,N,V,#[B,n,d,m,lo],e,L]:=c;subst N V;obtain rfl:u=c1 a:=w;let#[t,2]:=(show∃t,q=wD k t from K)
 show-aAe (aeY X.prog X.w k t) lo (Ĭ (prog:=X.prog) f.e1 d m) ?_;rw[Ĩ d e];show#[.aX _,p,f.tok _,2,L]
def ID(aY:a' X o eU)(j:a' X i ty)(q:Rq i):a' X (.Subscript o i pos) (aqF X.w X.K eU ty):=by
 intro b s U H Q I h;show-ê ajt.lookup q (bT (aY b s U H _ I h) λu B c=>?_);let#[x,l,m,w,A]:=c;show-bT (j b B U l _ m A) λz D c=>?_;let#[y,r,g,K,k,a,f,N,V,#[C,n,d,p,lo],e,L]:=c;subst N V;obtain rfl:u=c1 a:=w;let#[t,2]:=(show∃t,z=wD k t from K)
 let hm:=Ĭ (prog:=X.prog) g.e1 d p;show#[hm.typeIs,az6 (aeY X.prog X.w k t) hm (Ĩ d e) #[.ref f,r,g.tok _,2,L]]
end
end bX
namespace dP
open PySem al bX
inductive fl where
 |t|n|r|f
def PP:Str:=dH "-"
def fl.fN:fl->Str->al.V->Prop
 |.t,w,v=>v=.str w
 |.n,w,v=>∃m:Nat,m<10 ^ 10/\w=S (b_ m)/\v=.int (m:Int)
 |.r,w,v=>(w=PP/\v=.cw)\/∃m:Nat,m<10 ^ 10/\w=S (b_ m)/\v=.int (m:Int)
 |.f,w,v=>∃m:Nat,m<=1000000000/\w=S (b_ m)/\v=.int (m:Int)
def fl.no:fl->List Nat->Prop
 |.t,_=>False
 |.n,w=>hU w=jA
 |.r,w=>S w≠PP/\hU w=jA
 |.f,w=>hU w=jA\/∃m:Nat,m<10 ^ 10/\1000000000<m/\w=b_ m
inductive nT:List fl->List Str->List al.V->Prop
 |nil:nT [] [] []
 |cons{k:fl}{w:Str}{v:al.V}{ks:List fl}{ws:bY}{vs:aL}(_:k.fN w v)(_:nT ks ws vs):nT (k::ks) (w::ws) (v::vs)
def nT.len{a:List fl}{b:bY}{vs:aL}(h:nT a b vs):b.Z=a.Z/\vs.Z=a.Z:=by
 induction h with
 |nil=>show#[2,2]
 |cons _ _ e=>show#[by rw[e5,e5,e.1],by rw[e5,e5,e.2]]
def nT.get{d:List fl}{f:bY}{vs:aL}(h:nT d f vs):∀{i:Nat}{k:fl}{w:Str}{v:al.V},d[i]?=ja k->f[i]?=ja w->vs[i]?=ja v->k.fN w v:=by
 induction h with
 |nil=>intro i k w v e;exact nomatch e
 |cons h _ j=>
  intro i k w v a b c;cases i with
  |zero=>cases a;cases b;cases c;show-h
  |succ i=>show-j a b c
def aoW{m n:Nat}(hm:m<10 ^ 10)(c:n<10 ^ 10)(e:b_ m=b_ n):m=n:=by let a:=Oh hm;let b:=Oh c;rw[e,b]at a;exact(agU (gN a)).symm
theorem ahz(m:Nat):S (b_ m)≠PP:=λz=>by
 let e:PP=S [45]:=by left
 rw[e]at z;have:=qU (m:=m) (c:=45) (by rw[kX z];show-.head _)
 lia
def QM(h:hU w=jA){m:Nat}(hm:m<10 ^ 10)(e:S w=S (b_ m)):False:=by rw[kX e,EB hm]at h;cases h
def fl.ayV{k:fl}(h:k.fN (S w) v)(n:k.no w):False:=by
 cases k with
 |t=>show-n
 |n=>
  let#[m,hm,e,_]:=h;show-QM n hm e
 |r=>
  rcases h with⟨e,_⟩|⟨m,hm,e,_⟩
  .exact n.1 e
  show-QM n.2 hm e
 |f=>
  let#[m,hm,e,_]:=h;rcases n with n|⟨s,q,i,j⟩
  .exact QM n jQ e
  have:=aoW jQ q ((kX e).symm.trans j)
  lia
def fl.ayW(k:fl)(w:bg):(∃v,k.fN (S w) v)\/k.no w:=by
 let a:(∃m:Nat,m<10 ^ 10/\w=b_ m)\/hU w=jA:=by
  cases h:hU w with
  |true=>show-.inl (Ů h)
  |false=>exact .inr rfl
 cases k with
 |t=>show-.inl #[1]
 |n=>
  rcases a with⟨m,hm,rfl⟩|h
  .exact .inl #[_,m,hm,2,2]
  show-.inr h
 |r=>
  by_cases z:S w=PP
  .exact .inl #[_,.inl #[z,2]]
  rcases a with⟨m,hm,rfl⟩|h
  .exact .inl #[_,.inr #[m,hm,2,2]]
  show-.inr #[z,h]
 |f=>
  rcases a with⟨m,hm,rfl⟩|h
  .by_cases z:m<=1000000000
   .exact .inl #[_,m,z,2,2]
   show-.inr (.inr #[m,hm,9,2])
  show-.inr (.inl h)
theorem aA.wide{K:aI}{l:b6}{a:Heap}{d CX':oJ}{j k:Nat}{f:Addr}(F:aA P w K l a d j f fd i sp)(h:∀g H s E e c,d g H s E e c->CX' g H s E e c)(p:j<=k):aA P w K l a CX' k f fd i sp:=
 #[F.len,λA b s H args L vs Q E o t n m y=>by
  show-qy ((F.mono p).run A b s H args L vs Q E o t n m y) λr c q=>?_;cases r with
  |ok v=>cases v<;>show-q
  |error e=>show-h _ _ _ _ _ _ q]
section
variable{P:cx}{w:b0}{K:aI}{mg:b6}{base:Heap}
structure aaR(mg:b6):Prop where
 Ql:sY mg "MOST_TURN" 1000000000
inductive ry(k:fl)(dR:Addr)(vs:aL)(H:af)(Q:aO)(E:bF):Prop where
 |good(l:bg)(v:al.V)(_:vs=[.str (S l)])(_:l.Z<=50000)(_:k.fN (S l) v)(_:∀H',av H H'->Q v H')
 |bad(l:bg)(_:vs=[.str (S l)])(_:l.Z<=50000)(_:k.no l)(_:∀H',av H H'->E (.ref dR) jp H')
def ry.one{k:fl}{Q:aO}{E:bF}(h:ry k dR vs H Q E):∃l:List Nat,vs=[.str (S l)]/\l.Z<=50000/\((∃v,k.fN (S l) v/\∀H',av H H'->Q v H')\/(k.no l/\∀H',av H H'->E (.ref dR) jp H')):=by
 rcases h with⟨l,v,c,b,a,d⟩|⟨l,c,b,a,d⟩
 .show#[l,c,b,.inl #[v,a,d]]
 show#[l,c,b,.inr #[a,d]]
abbrev Xt:Stmt:=top 88
def asY:cp iN iN (bW Xt):=({})
def aoX{f:Addr}(F:b1 K "as_text" "as_text" Xt f fd):-aA a6 1 f fd iN (ry .t dR):=by
 show-F.ok asY (λ_ A _ s H vs Q E a h=>?_);obtain⟨l,rfl,_,⟨v,e,q⟩|⟨no,_⟩⟩:=h.one
 .let e:v=.str (S l):=e;subst e;show#[_,(a9 (ct (aa 0))),1,q H (av.refl _)]
 show-no.elim
abbrev HS:Stmt:=top 89
def asZ:cp iN iN (bW HS):=({})
def aoY{f:Addr}(F:b1 K "as_number" "as_number" HS f fd)(B:fc mg)(n:oK x j u bm)(g:Exc K mg "NoRow" dR bm j)(k:bO K mg "is_written_number" H3 k_ f1 i)(b:-aA a6 1 f1 i k_ QL):-aA (dn P w) 2 f fd iN (ry .n dR):=by
 show-iH F asZ (λ_ A _ s H vs Q E c h=>?_);show#[_,(a3 (eu (jF (jE (dp b k c.mono cd (aj (aa 0) ay)))) (a9 (oZ n g rfl (aj cF ay))) eH)
  (a9 (ct (iP Z1 B.int I6 (aj (aa 0) ay))))),4]
 ac_rfl
 let#[l,2,d,h]:=h.one;show#[1,l,2,d,λH' a=>#[1,4]];rcases h with⟨v,⟨m,hm,e,rfl⟩,q⟩|⟨no,q⟩
 .let e:=kX e;subst e;let o:=pa hm;rw[EB hm];show-gV #[1,_,1,Oh hm,by rw[eY];lia,q H' a]
 let no:hU l=jA:=no;rw[no];show-hb #[by show 1<=sizeLine;decide,q H' a]
abbrev RG:Stmt:=top 91
def aqg:cp iN iN (bW RG):=({})
def aoZ{f:Addr}(F:b1 K "as_road_or_none" "as_road_or_none" RG f fd)(d:bO K mg "as_number" HS iN f1 i)(b:-aA (dn P w) 2 f1 i iN (ry .n dR)):-aA (dn P w) 3 f fd iN (ry .r dR):=by
 show-iH F aqg (λ_ A _ s H vs Q E c h=>?_);show#[_,(a3 (eu (gs q7 (aa 0) cF (e9 _)) (a9 (ct kn)) eH)
  (a9 (ct (dp b d c.mono jn (aj (aa 0) ay))))),4]
 ac_rfl
 let#[l,2,a,h]:=h.one;rcases h with⟨v,⟨e,rfl⟩|⟨m,hm,e,rfl⟩,q⟩|⟨⟨j,u⟩,q⟩
 .rw[e];show#[1,7,ey (cQ rfl) (q H (av.refl _))]
 .rw[e];show#[1,7,fv (dJ λy=>ahz m (V.str.inj y)) #[1,.good _ _ rfl (by rwa[<-kX e]) #[m,hm,2,2] q]]
 show#[1,7,fv (dJ λy=>j (V.str.inj y)) #[1,.bad _ rfl a u q]]
abbrev Xs:Stmt:=top 90
def aaS:cp ["word","turn"] iN (bW Xs):=({})
def acl{f:Addr}(F:b1 K "as_first_turn" "as_first_turn" Xs f fd)(c:aaR mg)(o:oK z j x bm)(k:Exc K mg "NoRow" dR bm j)(n:bO K mg "as_number" HS iN f1 i)(d:-aA (dn P w) 2 f1 i iN (ry .n dR)):-aA (dn P w) 3 f fd iN (ry .f dR):=by
 show-iH F aaS (λ_ A _ s H vs Q E g h=>?_);show#[_,(a3 (dg 1 aaS.aC (dp d n g.mono jn (aj (aa 0) ay)))
  (a3 (eu (gs AQ (aa 1) (vi qF c.Ql) (e9 _)) (a9 (oZ o k rfl (aj cF ay))) eH)
  (a9 (ct (aa 1))))),4]
 ac_rfl
 let#[l,2,a,h]:=h.one;rcases h with⟨v,⟨m,hm,e,rfl⟩,q⟩|⟨no|⟨m,hm,u,rfl⟩,q⟩
 .show#[1,.good _ _ rfl a #[m,9,e,2] λH' b=>#[1,3,1,fv (dJ jQ) #[1,q H' b]]]
 .show#[1,.bad _ rfl a no q]
 show#[1,.good _ _ rfl a #[m,hm,2,2] λH' b=>#[1,3,1,ey (cQ jQ) #[by show 1<=sizeLine;decide,q H' b]]]
end
inductive eQ(K:aI)(cv:Addr)(kw:Str)(fs:b5):Prop where
 |mk(bc:Addr)(dd:Option Addr)(n:Nat)(bz:ml)(_:dw K cv kw=ja (ja (.ref bc)))(_:K.lookup bc=ja ⟨.type "tuple",dd,.seq (fs.map c1).toArray n,bz⟩)
structure m6 where
 (t n r tl:Addr)
def m6.f(R:m6):fl->Addr
 |.t=>R.t
 |.n=>R.n
 |.r=>R.r
 |.f=>R.tl
inductive QF(R:m6)(dR:Addr):Addr->fu->Prop
 |mk(k:fl):QF R dR (R.f k) (ry k dR)
theorem NZ:∀a:List Addr,dM (bw a) (a.map c1)
 |[]=>.nil
 |_::a=>.cons rfl (NZ a)
def ak4(x:al.V)(a:aL):rh (x::a) (ja 1) jp=a:=by unfold rh;let g:fe.dS (x::a).length 0 (ja ((1:Nat):Int))=min 1 (x::a).Z:=fe.NC _ _ 1;rw[show(ja (1:Int))=ja ((1:Nat):Int)from rfl,g,fe.aeG,e5,aiJ jQ];show(a.take (a.Z+1-1))=a;rw[Nat.add_sub_cancel,ui]
section
variable{P:cx}{w:b0}{K:aI}{mg:b6}{base:Heap}
def nF(a:bY):List al.V:=a.map V.str
def asa(a:List fl)(b:ba):Prop:=∃(i:Nat)(k:fl)(p:bg),a[i]?=ja k/\b[i]?=ja p/\k.no p
inductive t8(K:aI)(R:m6)(cv:Addr)(kw:Str)(ps:ba)(good:List al.V->Prop)(bad:Prop):Prop where
 |good(ks:List fl)(us:aL)(_:eQ K cv kw (ks.map R.f))(_:ks.Z<=10)(_:nT ks (ps.map S) us)(_:good us)
 |no(_:dw K cv kw=ja jp)(_:bad)
 |len(ks:List fl)(_:eQ K cv kw (ks.map R.f))(_:ks.Z<=10)(_:ps.Z≠ks.Z)(_:bad)
 |word(ks:List fl)(_:eQ K cv kw (ks.map R.f))(_:ks.Z<=10)(_:ps.Z=ks.Z)(_:asa ks ps)(_:bad)
def t8.imp{K:aI}{R:m6}{m:ba}{good o:List al.V->Prop}{bad n:Prop}(h:t8 K R cv kw m good bad)(g:∀a k,eQ K cv kw (a.map R.f)->a.Z<=10->nT a (m.map S) k->good k->o k)(b:bad->n):t8 K R cv kw m o n:=by
 rcases h with⟨a,k,d,c,f,l⟩|⟨d,c⟩|⟨a,d,c,f,l⟩|⟨a,d,c,f,l,e⟩
 .exact .good a k d c f (g a k d c f l)
 .exact .no d (b c)
 .exact .len a d c f (b l)
 show-.word a d c f l (b e)
inductive QN(K:aI)(R:m6)(cv dR:Addr)(vs:aL)(H:af)(Q:aO)(E:bF):Prop where
 |mk(a:Addr)(kw:Str)(ps:ba)(_:vs=[.ref a])(_:H a=ja (.lst (nF (kw::ps.map S))))(_:∀p∈ps,p.Z<=50000)(_:ps.Z<=10)(_:t8 K R cv kw ps (λus=>∀l H',H l=jp->av H H'->H' l=ja (.lst us)->Q (.ref l) H') (∀H',av H H'->E (.ref dR) jp H'))
abbrev Fm:Stmt:=top 94
def Ų:cp ["words","form"] ["words"] (bW Fm):=({})
theorem ã:∀(a:List fl)(b:ba),b.Z=a.Z->∃c:List al.V,c.Z=a.Z/\∀(i:Nat)(k:fl)(p:bg)(u:al.V),a[i]?=ja k->b[i]?=ja p->c[i]?=ja u->k.fN (S p) u\/k.no p
 |[],[],_=>#[[],2,λi k p u e=>nomatch e]
 |k::a,p::b,h=>by
  let#[c,l,n]:=ã a b (rG h);obtain⟨u,m⟩:∃u,k.fN (S p) u\/k.no p:=by
   rcases k.ayW p with⟨u,z⟩|z
   .show#[u,.inl z]
   show#[.cw,.inr z]
  show#[u::c,gF Nat.succ l,λi t o r d f g=>?_];cases i with
  |zero=>
   cases d;cases f;cases g;show-m
  |succ i=>show-n i t o r d f g
 |[],_::_,h=>nomatch h
 |_::_,[],h=>nomatch h
def t8.two{K:aI}{R:m6}{m:ba}{good:List al.V->Prop}{bad:Prop}(h:t8 K R cv kw m good bad):(dw K cv kw=ja jp/\bad)\/∃b:List fl,eQ K cv kw (b.map R.f)/\b.Z<=10/\((m.Z≠b.Z/\bad)\/(m.Z=b.Z/\∃c:List al.V,c.Z=b.Z/\(∀(i:Nat)(k:fl)(p:bg)(u:al.V),b[i]?=ja k->m[i]?=ja p->c[i]?=ja u->k.fN (S p) u\/(k.no p/\bad))/\((∀i,i<c.Z->∀k p,b[i]?=ja k->m[i]?=ja p->¬k.no p)->good c))):=by
 rcases h with⟨b,c,g,f,d,r⟩|⟨g,f⟩|⟨b,g,f,d,r⟩|⟨b,g,f,d,⟨i,k,p,e,q,s⟩,j⟩
 .let#[y,L]:=d.len;rw[bQ]at y;show-.inr #[b,g,f,.inr #[y,c,L,λi k p u n o t=>.inl (d.get n (by rw[ea,o];rfl) t),λ_=>r]]
 .exact .inl #[g,f]
 .exact .inr #[b,g,f,.inl #[d,r]]
 let#[c,l,A]:=ã b m d;show-.inr #[b,g,f,.inr #[d,c,l,λi k p u n o t=>(A i k p u n o t).imp id λz=>#[z,j],λa=>bk s (a i (by rw[l];exact(gM.mp e).1) k p e q)]]
def ao0{f:Addr}{R:m6}(F:b1 K "values_of" "values_of" Fm f fd)(B:fc mg)(T:mg "FORMS"=ja (.ref cv))(O:TopD w K cv)(xk:oK rp fy nt bm)(pZ:Exc K mg "NoRow" dR bm fy)(fb:∀g sp,QF R dR g sp->By P w K mg base (dn P w) 3 g sp):-aA (dn P w) 4 f fd ["words"] (QN K R cv dR):=by
 show-iH F Ų (λ_ A _ s H vs Q E ao h=>?_);show#[_,(a3 (eu (Ja (aja (ck e4 (aa 0) bt) (kU T))) (a9 (oZ xk pZ rfl (aj cF ay))) eH)
  (a3 (dg 1 Ų.aC (ID (kU T) (ck e4 (aa 0) bt) (λ_ _=>rfl)))
  (a3 (eu (gs AP (c5 Jk (d4 jC B.len iT (aj (aa 0) ay)) bt) (d4 jC B.len iT (aj (aa 1) ay)) (e9 _)) (a9 (oZ xk pZ rfl (aj cF ay))) eH)
  (a9 (ct (P5 (N':=["read","word"]) (cs:=[jp,jp]) rfl rfl (aoT (t:=jx) rfl B.zip (aj (aa 1) (aj (z2 Pf (aa 0) (Ac bt) Ab) ay))) rfl qL rfl qL (hv (λp aw=>bk aw (ee))) rfl
   (.own (.own .nil))
   (λC s3 aK bP de=>#[(IB (K:=K) (n:=2) rfl rfl (ng (ed 0 (by show(["read","word"]:bY).Nodup;decide+kernel)) (ng (ed 1 (by show(["read","word"]:bY).Nodup;decide+kernel)) xx))),iQ,(Iv (aa 0) fb ao.mono ON (aj (aa 1) ay))]))))))),4]
 ac_rfl
 show-cut λdf cS=>?_;let#[a,d,c,2,l,pl,Nj,h]:=h;let M:al.hZ (nF (d::c.map S)) 0=ja (.str d):=jV (j:=0) rfl;let one:1<=sizeLine:=by decide
 rcases h.two with⟨m,q⟩|⟨ks,⟨e,dd,n,bz,m,iC⟩,GO,h⟩
 .show#[1,a,_,3,aM.of l,M,d,cv,1,2,O,m,1,ey rfl #[one,q H (av.refl _)]]
 let N:∀{Γ:af},cH K Γ e (bw (ks.map R.f)):=λ{Γ}=>.inr #[6,_,iC,2,2,by simp;show-eh GO qc,NZ _];show#[1,a,_,3,aM.of l,M,d,cv,1,2,O,m,1,fv rfl ?_];subst cS;show#[1,a,_,3,aM.of l,M,d,cv,e,2,2,O,m,4];show#[1,a,1,.inl (aM.of l),3,1,e,1,.inr N,7,4];let le:(nF (d::c.map S)).Z=c.Z+1:=by unfold nF;rw[bQ,e5,bQ]
 let Y:(bw (ks.map R.f)).Z=ks.Z:=by rw[gX,bQ]
 rw[le,Y];rcases h with⟨ne,q⟩|⟨lw,us,VL,cq,q⟩
 .exact ey (show(!decide (V.int (((c.Z+1:Nat):Int)-1)=V.int (ks.Z:Int)))=jx by rw[dJ (λz=>ne (by have:=V.int.inj z;lia))];rfl) #[one,q H (av.refl _)]
 show-fv (show(!decide (V.int (((c.Z+1:Nat):Int)-1)=V.int (ks.Z:Int)))=jA by rw[cQ (by congr 1;lia)];rfl) ?_;dsimp only[tV,t4];refine ak3 (K:=K) (a:=e) (xs:=bw (ks.map R.f)) (ys:=nF (c.map S)) (us:=us) (rest:=[]) (λi=>∀k p,ks[i]?=ja k->c[i]?=ja p->¬k.no p) (λRr h=>#[5,1,a,1,aM.of l,λp np=>#[e,p,2,#[_,N],#[_,aM.of aN],h p _ np (b7 np) (by rw[aN];congr 2;show-ak4 _ _)]]) rfl N (e8 jQ) (by rw[Y];unfold nF;rw[bQ,bQ,lw]) jQ (λi x y u ag Rr J G oX o dm=>?_) (λD H' g h6 a8 o=>q g D H' h6 o a8);unfold bw at J;rw[hp,ea]at J;let#[k,U,2]:=hN.mp J;unfold nF at G;rw[hp,ea]at G;let#[z,I,2]:=hN.mp G;show#[1,R.f k,ry k dR,2,.mk k,1,4];let Z:=pl z (eX I);rcases cq i k z u U I oX with X|⟨no,b⟩
 .exact .good z u rfl Z X λr L=>dm r (λxh gn aG aP=>by cases U.symm.trans aG;cases I.symm.trans aP;show-fl.ayV X) L
 exact .bad z rfl Z no λr L=>b r (o.trans L)
end
end dP
namespace bX
open PySem PySem.Spec PyProof.Rows al
inductive ak5(x:al.V)(xs:aL)(H:af)(Q:aO):Prop where
 |mk(z y:Str)(_:x=.str z)(_:xs=[.str y])(_:Q (.aX (Fn z y)) H)
def ajb:Bt X "str.startswith" ak5:=by intro a s U H x f v d Q I b rs h;let#[z,y,2,2,q]:=h;let#[t,2]:=b;let#[u,2,c,2]:=vals1 rs;show-SC.startswith #[.aX _,H,I,2,q]
end bX
namespace dP
open PySem al bX
structure vZ(ps:ba):Prop where
 ne:ps≠[]
 dy:ps.Z<=6
 ok:∀p∈ps,32∉p/\p.Z<=20/\∀c∈p,c<256
 mK:Fn (S (cM [32] ps)) (dH "check ")=jA
theorem P6{y:bg}{c:Nat}:∀{a:ba},c∈cM y a->c∈y\/∃p∈a,c∈p
 |[],h=>nomatch h
 |[p],h=>.inr #[p,.head _,h]
 |p::q::r,h=>by
  rcases iM.mp h with h|h
  .rcases iM.mp h with h|h
   .exact .inr #[p,.head _,h]
   show-.inl h
  rcases P6 h with h|⟨e,ai,ak⟩
  .exact .inl h
  show-.inr #[e,.tail _ ai,ak]
theorem ä(y:bg)(k:Nat):∀a:List bg,(∀p∈a,p.Z<=k)->(cM y a).Z<=a.Z*(k+y.Z)
 |[],_=>ei _
 |[p],h=>by
  have:=h p (.head _);show p.Z<=1*(k+y.Z)
  lia
 |p::q::r,h=>by
  let f:=h p (.head _);let b:=ä y k (q::r) λc d=>h c (.tail _ d);show(p++y++cM y (q::r)).Z<=(r.Z+1+1)*(k+y.Z);rw[dT,dT,Kb];rw[e5]at b
  lia
def vZ.split{d:ba}(h:vZ d):pO (S (cM [32] d)) (dH " ")=d.map S:=by
 let e:dH " "=S [32]:=by left
 rw[e];show-Yj h.ne (λp b=>(h.ok p b).1) (λc a=>?_) (λc a=>?_)
 .rcases P6 a with z|⟨p,b,z⟩
  .rw[d2.mp z];decide
  exact(h.ok p b).2.2 c z
 rw[d2.mp a];decide
def vZ.len(h:vZ e):(cM [32] e).Z<=126:=by
 let d:=ä [32] 20 e λp b=>(h.ok p b).2.1;let a:=h.dy;let c:e.Z*(20+[32].Z)<=6*21:=J' a (cy _)
 lia
def rT:List Nat:=[99,104,101,99,107,32]
def D_:List Nat:=[99,104,101,99,107]
inductive pB:Str->List Nat->List bg->Prop
 |pl(kw:bg)(ps:ba)(_:vZ (kw::ps))(_:[]∉kw::ps):pB (S (cM [32] (kw::ps))) kw ps
 |n9(l:bg)(_:l.Z<=50000):pB (S (rT++l)) D_ [l]
def pB.adE{b:ba}(h:pB row kw b):(∀p∈b,p.Z<=50000)/\b.Z<=10:=by
 cases h with
 |n9 l h=>show#[λp a=>by rwa[d2.mp a],hM rfl]
 |pl _ _ h _=>
  have:=h.dy;rw[e5]at this;show#[λp a=>eh (h.ok p (.tail _ a)).2.1 qc,9]
inductive uD(row:Str)(good:List Nat->List bg->Prop)(bad:Prop):Prop where
 |good(kw:bg)(ps:ba)(_:pB row kw ps)(_:good kw ps)
 |bad(ps:ba)(_:row=S (cM [32] ps))(_:vZ ps)(_:[]∈ps)(_:bad)
def uD.imp{good l:List Nat->List bg->Prop}{bad k:Prop}(h:uD row good bad)(g:∀c a,pB row c a->good c a->l c a)(b:bad->k):uD row l k:=by
 rcases h with⟨c,a,d,f⟩|⟨a,d,f,e,i⟩
 .exact .good c a d (g c a d f)
 show-.bad a d f e (b i)
def uD.two{good:List Nat->List bg->Prop}{bad:Prop}(h:uD row good bad):(∃l:List Nat,row=S (rT++l)/\l.Z<=50000/\good D_ [l])\/∃a:List bg,row=S (cM [32] a)/\vZ a/\([]∈a->bad)/\([]∉a->∃b c,a=b::c/\good b c):=by
 rcases h with⟨b,a,ok,q⟩|⟨a,e,ok,aX,q⟩
 .cases ok with
  |n9 l h=>show-.inl #[l,2,h,q]
  |pl _ _ h nn=>show-.inr #[1,h,λz=>bk z nn,λ_=>#[b,a,2,q]]
 show-.inr #[a,e,ok,λ_=>q,λz=>bk aX z]
def ao1:dH "check "=S rT:=by left
def ao2(l:bg):sM (S (rT++l)) (ja ((6:Nat):Int)) jp=S l:=by
 unfold sM;let f:fe.dS (S (rT++l)).cps.size 0 (ja ((6:Nat):Int))=6:=by
  rw[fe.NC];have:(S (rT++l)).cps.size=l.Z+6:=by
   show(S (rT++l)).Z=_;rw[eY,dT];show 6+l.Z=_
   lia
  rw[this]
  lia
 rw[f,fe.aeG];show(⟨(aie ((rT++l).Z-6) l).toArray⟩:Str)=_;rw[Ú (by rw[dT];show l.Z<=6+l.Z-6;lia)]
def ak6{a:ba}:pY (.str (dH "")) ((a.map S).map V.str)=decide ([]∈a):=by
 let g:dH ""=S []:=by left
 rw[g];unfold pY;by_cases z:[]∈a
 .rw[cQ z,oN];show#[.str (S []),cD.mpr #[S [],cD.mpr #[[],z,2],2],abD (S [])]
 rw[dJ z,rt];intro y;let#[v,b,e]:=oN.mp y;let#[y,f,2]:=cD.mp b;let#[x,c,2]:=cD.mp f;let d:(S x==S [])=jx:=e;show-z (kX (eq_of_beq d)▸c)
section
variable{P:cx}{w:b0}{K:aI}{mg:b6}{base:Heap}
inductive RH(dR:Addr)(vs:aL)(H:af)(Q:aO)(E:bF):Prop where
 |mk(row:Str)(_:vs=[.str row])(_:uD row (λkw ps=>∀l H',av H H'->H' l=ja (.lst (nF (S kw::ps.map S)))->Q (.ref l) H') (∀H',av H H'->E (.ref dR) jp H'))
abbrev H2:Stmt:=top 93
def aaT:cp ["row","words"] ["row"] (bW H2):=({})
def aqh{f:Addr}(F:b1 K "words_of" "words_of" H2 f fd)(B:fc mg)(r:oK x i u bm)(o:Exc K mg "NoRow" dR bm i):-aA (dn P w) 1 f fd ["row"] (RH dR):=by
 show-iH F aaT (λ_ A _ s H vs Q E t h=>?_);show#[_,(a3 (eu (jE (kV yM PySem.F.slot_str_startswith PySem.F.type_str_startswith ajb (aa 0) (aj cF ay))) (a9 (ct (gc (aj cF (aj (z2 Ń (aa 0) (Ac (d4 Xy B.len iT (aj cF ay))) Ab) ay))))) eH)
  (a3 (dg 1 aaT.aC (kV yM Ģ Ĥ OJ (aa 0) (aj cF ay)))
  (a3 (eu (gs ZK cF (aa 1) qF) (a9 (oZ r o rfl (aj cF ay))) eH)
  (a9 (ct (aa 1)))))),4]
 ac_rfl
 show-cut λy c=>?_;let#[row,2,h]:=h;rcases h.two with⟨l,rfl,le,q⟩|⟨e,rfl,ok,j,q⟩
 .show#[1,2,3,1,ey (by rw[ao1,<-q'];show-aBh _ _) ?_];let k:(((dH "check ").Z:Nat):Int)=((6:Nat):Int):=by left
  show#[5,qL,5,(by rw[eY,dT];show 6+l.Z<=16777216;lia),4];let m:dH "check"=S D_:=by left
  rw[k,ao2,m];show-sJ q
 let le:=ok.len;show#[1,2,3,1,fv ok.mK ?_];subst c;show#[1,2,3,qL,mZ (e8 (by rw[eY];lia)),λp n=>?_];rw[ok.split];let a:upd H p (.lst (nF (e.map S))) p=ja (.lst (nF (e.map S))):=aN;let sp:av H (upd H p (.lst (nF (e.map S)))):=b7 n;show h4 _ _ _ _ (upd H p (.lst (nF (e.map S))));generalize upd H p (.lst (nF (e.map S)))=b at a sp⊢;let d:((e.map S).map V.str).all ul=jx:=YP _;show#[1,p,1,.inl (aM.of a),2,d,1,4];rw[show pY (.str (dH "")) (nF (e.map S))=_ from ak6];by_cases z:[]∈e
 .exact ey (cQ z) #[by show 1<=sizeLine;decide,j z b sp]
 let#[L,N,2,g]:=q z;show-fv (dJ z) #[1,g p b sp a]
def Dn{n:Nat}(h:n<10 ^ 10):((n:Int)).natAbs.log2<1920:=by
 rw[agS];by_cases a:n=0
 .subst a;decide
 have:n.log2<40:=(aiI a).mpr (ÿ h qc)
 lia
def lL:Option Nat->List Nat
 |none=>[45]
 |some m=>b_ m
def rj:Option Nat->al.V
 |none=>.cw
 |some m=>.int (m:Int)
inductive RI(vs:aL)(H:af)(Q:aO)(E:bF):Prop where
 |mk(o:Option Nat)(_:vs=[rj o])(_:∀m,o=ja m->m<10 ^ 10)(_:Q (.str (S (lL o))) H)
abbrev HW:Stmt:=top 95
def asb:cp oQ oQ (bW HW):=({})
def aqi{f:Addr}(F:b1 K "number_or_dash" "number_or_dash" HW f fd)(B:fc mg):-aA a6 1 f fd oQ RI:=by
 show-F.ok asb (λ_ A _ s H vs Q E a h=>?_);let#[o,2,hm,q]:=h;show#[_,(a9 (ct (ajS (gs vy (aa 0) kn (e9 _)) cF (iP qA B.str o_ (aj (aa 0) ay))))),4];cases o with
 |none=>
  let e:dH "-"=S (lL jp):=by left
  rw[e];show#[1,7,ey (cQ rfl) q]
 |some m=>
  show#[1,7,fv (dJ (by intro z;cases z)) #[1,(m:Int),2,Dn (hm m rfl),4]];rwa[si]
theorem å{c:Type}(f:c->Nat)(k:Nat):∀l:List c,(∀a∈l,f a<=k)->(l.map f).sum<=l.Z*k
 |[],_=>ei _
 |a::l,h=>by
  let g:=h a (.head _);let m:=å f k l λb d=>h b (.tail _ d);rw[hL,Bi,e5,Kb]
  lia
def ak7{o:Option Nat}(h:∀m,o=ja m->m<10 ^ 10):(lL o).Z<=10:=by
 cases o with
 |none=>show 1<=10;decide
 |some m=>show-pa (h m rfl)
inductive RJ(K:aI)(vs:aL)(H:af)(Q:aO)(E:bF):Prop where
 |mk(a:Addr)(ns:Fo)(_:vs=[.ref a])(_:aM K H a (ns.map rj))(_:ns.Z<=40)(_:∀n∈ns,∀m,n=ja m->m<10 ^ 10)(_:∀H',av H H'->Q (.str (S (cM [32] (ns.map lL)))) H')
abbrev H0:Stmt:=top 96
def asd:cp wk wk (bW H0):=({})
def aqj{f:Addr}(F:b1 K "with_blanks" "with_blanks" H0 f fd)(B:fc mg)(j:bO K mg "number_or_dash" HW oQ f1 e)(o:-aA a6 1 f1 e oQ RI):-aA a6 2 f fd wk (RJ K):=by
 show-F.ok asd (λ_ A _ s H vs Q E r h=>?_);let#[a,b,2,d,T,ok,q]:=h;show#[_,(a9 (ct (kV yM ġ ģ Po cF (aj (j0 (N':=oQ) (cs:=[jp]) rfl (hF (aa 0)) rfl qL rfl qL (hv (λp c=>bk c (ee))) rfl
   (.own .nil)
   (λC X G M O=>#[(ed 0 (by show(oQ:bY).Nodup;decide+kernel)),iQ,(dp o j r.mono cd (aj (aa 0) ay))])) ay)))),4]
 ac_rfl
 let y:(b.map rj).Z=b.Z:=bQ _;show#[2,4];dsimp only[js];refine xB (J:=j9 K a) (H1:=H) (xs:=b.map rj) (rest:=[]) (λR h=>#[1,a,2,#[_,d],h]) rfl (oj d) (e8 jQ) (λi=>.str (S (lL (b.getD i jp)))) (λi v g R l I k=>?_) (λD g U a8 N=>?_)
 .rw[ea]at l;let#[n,m,2]:=hN.mp l;have:=k g (av.refl _);rw[gL,m]at this;show#[1,n,2,ok n (eX m),this]
 let z:(fk (b.map rj).Z).map (λi=>V.str (S (lL (b.getD i jp))))=((b.map lL).map S).map V.str:=by rw[y,range_getD (λn=>V.str (S (lL n))) jp b,hp,hp];rfl
 rw[z]at a8;let u:dH " "=S [32]:=by left
 rw[u];show#[S [32],D,(b.map lL).map S,2,2,aM.of a8,4,4]
 .have:=å (λx:Str=>x.Z) 10 ((b.map lL).map S) λx t=>by let#[p,c,2]:=cD.mp t;let#[n,L,2]:=cD.mp c;rw[eY];show-ak7 (ok n L)
  rw[bQ,bQ,eY]at *;simp only[e5,rD]
  lia
 rw[Og];show-q _ N
end
end dP
namespace cE
open PySem
def hsz(c:Int):Nat:=(1+c%8).toNat
def fV(c:Int):Nat:=(c/8%(1+c%8)).toNat
def jZ(c:Int)(k j:Nat):Nat:=97+((c/64+5*(j:Int)*(j:Int)+2*(k:Int)*(if j=fV c then 1 else 0))%26).toNat
def u5(c:Int)(k:Nat):List Nat:=(fk (hsz c)).map (jZ c k)
def vt(c:Int)(m:Nat):List bg:=(fk m).map (u5 c)
def Ŗ(c:Int):1<=hsz c/\hsz c<=8:=by unfold hsz;lia
def amX(c:Int):(1+c%8)=(hsz c:Int):=by unfold hsz;lia
def ao3(c:Int):fV c<hsz c:=by
 let a:0<1+c%8:=by lia
 let d:=PJ (c/8) a;let b:=A_ (c/8) (by lia:1+c%8≠0);unfold fV hsz
 lia
def amY(c:Int):c/8%(1+c%8)=(fV c:Int):=by
 let a:=A_ (c/8) (by lia:1+c%8≠0);unfold fV
 lia
def ao4(c:Int)(k j:Nat):97<=jZ c k j/\jZ c k j<=122:=by unfold jZ;lia
def ao5(c:Int)(k:Nat):f3 (u5 c k):=by let h:=Ŗ c;show#[by simp[u5];lia,by simp[u5];lia,λx a=>?_];let#[j,1]:=cD.mp a;show-ao4 c k j
def amZ{c:Int}{k l:Nat}(f:k<13)(g:l<13)(e:u5 c k=u5 c l):k=l:=by
 let h:=ao3 c;let b:(u5 c k)[fV c]?=(u5 c l)[fV c]?:=by rw[e]
 unfold u5 at b;rw[ea,ea,ah0 h]at b;let a:jZ c k (fV c)=jZ c l (fV c):=by simpa using b
 unfold jZ at a;rw[b2 rfl]at a;generalize c/64+5*(fV c:Int)*(fV c:Int)=z at a;rw[Ο,Ο]at a;let d:(z+2*(k:Int))%26=(z+2*(l:Int))%26:=by rw[<-rB (A_ (z+2*(k:Int)) (by decide:(26:Int)≠0)),Nat.add_left_cancel a,rB (A_ _ qc)]
 let#[q,m]:=Int.dvd_of_emod_eq_zero (Int.emod_eq_emod_iff_emod_sub_eq_zero.mp d);clear a d e h
 lia
def agv{k:Type}{f:Nat->k}{m:Nat}(h:∀i j,i<m->j<m->f i=f j->i=j):((fk m).map f).Nodup:=by show-Qh.mpr ?_;show-List.Pairwise.imp_of_mem ?_ (List.nodup_range (n:=m));intro a b d g c e;show-c (h a b (Bf.mp d) (Bf.mp g) e)
def ahA{c:Int}{m:Nat}(h:m<=12):(vt c m).Nodup:=(agv λi j b a e=>amZ jQ jQ e)
def Ya(c:Int)(m:Nat):(vt c m).Z=m:=by simp[vt]
end cE
namespace dP
open PySem al bX cE
inductive Z5(vs:aL)(H:af)(Q:aO)(fE:bF):Prop where
 |mk(c:Int)(m:Nat)(_:vs=[.int c,.int m])(_:m<=12)(_:∀(p:Addr)(H':af),H p=jp->av H H'->H' p=ja (.lst (dK (vt c m)))->Q (.ref p) H')
theorem agw{c:Int}{m:Nat}(h:m<=12):Good (vt c m):=#[λx a=>by
 let#[k,1]:=cD.mp a;show-ao5 c k,ahA h,by rwa[Ya]]
def Bz(c:Int)(k j:Nat):Int:=c/64+5*(0+(j:Int))*(0+(j:Int))+2*(0+(k:Int))*(if decide (V.int (0+(j:Int))=V.int (c/8%(1+c%8)))=jx then 1 else 0)
def aqk(c:Int)(k j:Nat):97+(Bz c k j%26).toNat=jZ c k j:=by
 unfold Bz jZ;rw[amY c];by_cases h:j=fV c
 .subst h;rw[b2 rfl,b2 (cQ (by rw[yh])),yh,yh]
 rw[bL h,bL (by rw[dJ (λz=>h (by have:=V.int.inj z;lia))];show-hB),yh,yh]
def afa{a:Type}(f:Nat->a)(n:Nat):(fk (n+1)).map f=(fk n).map f++[f n]:=by rw[Bh,fP];rfl
section
variable{P:cx}{w:b0}{K:aI}{mg:b6}{base:Heap}
abbrev Nx:Stmt:=top 122
def ase:cp Bl Bl (bW Nx):=({})
def aql{f:Addr}(F:b1 K "_law_cell_at" "_law_cell_at" Nx f fd)(len:mg "len"=jp):-aA a6 1 f fd Bl (aaZ K):=by
 show-F.ok ase (λ_ A _ s H vs Q E l h=>?_);let#[a,d,k,2,c,g,q]:=h;show#[_,a3 (eu (gs vG (aa 1) (d4 jC len PySem.boot_len (aj (aa 0) ay)) (e9 _)) (a9 (ct (ck e4 (aa 0) (aa 1)))) eH) (a9 (ct bt)),4];show#[5,a,1,.inl c,3,1,4];show-asJ (λh=>?_) (λh=>?_)
 .let b:=j2 h;show#[5,a,_,k,1,2,c,amv g b,q]
 let b:¬k<((d.map V.int).Z:Int):=λz=>h (cQ z);rw[bQ]at b;let e:d.getD k.toNat 0=0:=by rw[gL,Ð jQ];rfl
 rwa[e]at q
abbrev Oi:Stmt:=top 123
abbrev ak8:List Str:=["_law_cell","_law_many","_law_letters","_law_size","_law_at","_law_names","_law_k","_law_name","_law_j","_law_place"]
def tE:cp ak8 EZ (bW Oi):=({})
def ahB{f:Addr}(F:b1 K "_law_houses" "_law_houses" Oi f fd)(B:fc mg):-aA a6 1 f fd EZ Z5:=by
 show-F.ok tE (λ_ A _ s H vs Q E u h=>?_);let#[c,m,2,hm,q]:=h;show#[_,(a3 (dg 2 tE.aC cF)
  (a3 (dg 3 tE.aC (c5 p3 bt (c5 tK (aa 0) bt)))
  (a3 (dg 4 tE.aC (c5 tK (c5 Iz (aa 0) bt) (aa 3)))
  (a3 (dg 5 tE.aC (gc ay))
  (a3 (l6 lT rfl (Hx rfl B.range (aj (aa 1) ay)) (ed 6 tE.aC)
   (a3 (dg 7 tE.aC cF)
  (a3 (l6 lT rfl (Hx rfl B.range (aj (aa 3) ay)) (ed 8 tE.aC)
   (a3 (dg 9 tE.aC (c5 p3 (c5 p3 (c5 Iz (aa 0) bt) (c5 D2 (c5 D2 bt (aa 8)) (aa 8))) (c5 D2 (c5 D2 bt (aa 6)) (iP ZF B.int I6 (aj (oi q7 (aa 8) (aa 4) (e9 _)) ay)))))
  (a9 (dg 7 tE.aC (c5 hP (aa 7) (ck ň (aa 2) (c5 tK (aa 9) bt)))))))
  (a9 (gD (kV rH ur uu r6 (aa 5) (aj (aa 7) ay)))))))
  (a9 (ct (aa 5)))))))),4]
 let e:=Ŗ c;let V:=amX c;show#[1,3,(by show(0:Int)<8;decide),3,4];show#[1,3,#[8,8],1,3,(by show(0:Int)<1+c%8;lia),4];show#[ei _,λp y=>#[5,jQ,jQ,4]];show-YN (lo:=0) (n:=m) (λk U o=>o=upd H p (.lst (dK (vt c k)))/\∃d g a b,U=[ja (.int c),ja (.int m),ja (.str (dH "abcdefghijklmnopqrstuvwxyz")),ja (.int (1+c%8)),ja (.int (c/8%(1+c%8))),ja (.ref p),d,g,a,b]) #[2,jp,jp,jp,jp,2] ?_ ?_
 .rintro k U o i ⟨rfl,d,g,a,b,rfl⟩;show#[5,jQ,jQ,4];show-YN (lo:=0) (n:=hsz c) (λj U l=>l=upd H p (.lst (dK (vt c k)))/\∃t r,U=[ja (.int c),ja (.int m),ja (.str (dH "abcdefghijklmnopqrstuvwxyz")),ja (.int (1+c%8)),ja (.int (c/8%(1+c%8))),ja (.ref p),ja (.int (0+(k:Int))),ja (.str (S ((fk j).map (jZ c k)))),t,r]) #[2,a,b,2] ?_ ?_
  .rintro j U l x ⟨rfl,t,r,rfl⟩;show#[1,3,#[8,8],1,3,.inl #[8,8],1,3,.inr #[by show -(2 ^ 64)<0+(j:Int);lia,by show 0+(j:Int)<2 ^ 64;lia],3,1,3,.inl #[8,8],5,2,.inr #[1,3,.inl #[by show -(2 ^ 64)<2*(0+(k:Int));lia,by show 2*(0+(k:Int))<2 ^ 64;lia],3,4]];let L:0<=Bz c k j%26:=A_ _ qc;let N:Bz c k j%26<26:=PJ _ qc;let z:(⟨#[97+(Bz c k j%26).toNat]⟩:Str).Z=1:=rfl;show#[5,1,3,(by show(0:Int)<26;decide),_,3,qL,akq L N,3,4,2,ja (.int (0+(j:Int))),ja (.int (Bz c k j)),4]
   .rw[eY,bQ,s6];show j+1<=sizeLine;show-mZ (e8 jQ)
   rw[afa,<-q',<-aqk];rfl
  rintro U l ⟨rfl,t,r,rfl⟩;show#[1,.inl #[2,_,aM.of aN],1,p,3,aN,e8 (by rw[DN,Ya];lia),4,6,_,1];rw[Ou];unfold vt;rw[afa];unfold dK;rw[fP];rfl
 rintro U o ⟨rfl,d,g,a,b,rfl⟩;show#[1,q p _ y (b7 y) aN]
end
def am0{t:fJ}{D:Ends}(P:Ends->Prop)(b:P D)(c:∀a,P a->t a U H):t D U H:=(c D b)
section
variable{P:cx}{w:b0}{K:aI}{mg:b6}{base:Heap}
abbrev Ei:Stmt:=top 15
abbrev IE:Stmt:=top 16
abbrev Av:Stmt:=top 17
abbrev DK:Stmt:=top 19
abbrev JY:Stmt:=top 51
abbrev ED:Stmt:=top 52
abbrev JZ:Stmt:=top 53
abbrev EE:Stmt:=top 54
def am1:cp j' j' (bW Ei):=({})
def akW:cp wg wg (bW IE):=({})
def Ý:cp rE rE (bW Av):=({})
def akX:cp s7 s7 (bW DK):=({})
def ao6:cp j' j' (bW JY):=({})
def ao7:cp wm wm (bW ED):=({})
def aoC:cp ql ql (bW JZ):=({})
def aoD:cp wh wh (bW EE):=({})
abbrev x9:Stmt:=gT (top 57) 0
abbrev xl:Stmt:=gT (top 57) 1
abbrev Ak:Stmt:=gT (top 57) 2
def Ŕ:cp rF rF (bW x9):=({})
def ai7:cp eg eg (bW xl):=({})
def akY:cp eg eg (bW Ak):=({})
def ahC{f:Addr}(F:b1 K "houses" "Net.houses" xl f fd)(B:fc mg)(a:sN K C):-aA a6 1 f fd eg (C9 C):=by
 show-F.ok ai7 (λ_ A _ s H vs Q E g h=>?_);let#[x,d,k,l,m,2,n,q]:=h;let#[b,c]:=n.ins;show#[_,(a9 (ct (iP zv B.list vr (aj (dE (aa 0)) ay)))),4]
 ac_rfl
 show#[1,x,C,b,_,1,c,a.cl,a.xo,2,d,1,.inl (aM.of n.u7),q]
def aj6{f:Addr}(F:b1 K "roads" "Net.roads" Ak f fd)(B:fc mg)(a:sN K C):-aA a6 1 f fd eg (Ir C):=by
 show-F.ok akY (λ_ A _ s H vs Q E g h=>?_);let#[x,k,d,l,m,2,n,q]:=h;let#[b,c]:=n.ins;show#[_,(a9 (ct (iP zv B.list vr (aj (dE (aa 0)) ay)))),4]
 ac_rfl
 show#[1,x,C,b,_,1,c,a.cl,a.iq,2,d,1,.inl (aM.of n.oA),q]
def IA(i j:Int):decide (V.int i=V.int j)=decide (i=j):=by
 by_cases h:i=j
 .rw[cQ h,cQ (gF V.int h)]
 rw[dJ h,dJ λz=>h (V.int.inj z)]
def Fj(n:Int):PyData->Bool
 |.tuple ds=>decide ((ds.Z:Int)=n)
 |_=>jA
inductive TupAt(H:af)(v:al.V)(d:PyData):Prop where
 |mk(a:Addr)(xs:aL)(ds:f_)(_:v=.ref a)(_:d=.tuple ds)(_:H a=ja (.tup xs))(_:xs.Z<=100)(_:eP H xs ds)
def aoE{d:PyData}(h:b8 H v d)(t:isTup d=jx):TupAt H v d:=by
 cases h with
 |tup x y z=>show#[_,3,x,y,z]
 |_=>cases t
inductive asf(H:af)(xs:aL)(d9 gY gG:PyData):Prop where
 |mk(v0 v1 v2:al.V)(_:xs=[v0,v1,v2])(_:b8 H v0 d9)(_:b8 H v1 gY)(_:b8 H v2 gG)
def aaU{d9 f d:PyData}(h:eP H xs [d9,f,d]):asf H xs d9 f d:=by
 cases h with
 |cons a h=>
  cases h with
  |cons b h=>
   cases h with
   |cons c h=>
    cases h;show#[6,1,a,b,c]
inductive ash(H:af)(v:al.V)(d:PyData):Prop where
 |mk(a:Addr)(v0 v1 v2:al.V)(d9 gY gG:PyData)(_:v=.ref a)(_:d=.tuple [d9,gY,gG])(_:H a=ja (.tup [v0,v1,v2]))(_:b8 H v0 d9)(_:b8 H v1 gY)(_:b8 H v2 gG)
def am2{d:PyData}(h:b8 H v d)(t:isTup d=jx)(l:∀ds,d=.tuple ds->ds.Z=3):ash H v d:=by
 let#[a,p,ds,2,2,c,_,b]:=aoE h t;let l:=l _ rfl
 match ds,l,b with
 |[d9,i,e],_,b=>
  let#[m,n,o,2,g,k,f]:=aaU b;show#[a,m,n,o,d9,i,e,2,2,c,g,k,f]
def aaV{d:PyData}(h:Fj 3 d=jx):isTup d=jx/\∀ds,d=.tuple ds->ds.Z=3:=by
 cases d with
 |tuple ds=>
  show#[2,λa e=>?_];cases e;let e:Fj 3 (.tuple ds)=decide ((ds.Z:Int)=3):=rfl;rw[e,decide_eq_true_eq]at h;show-agU h
 |_=>cases h
def am3{f:PyData->Bool}(a:∀ds,ds.Z≠3->f (.tuple ds)=jA)(b:∀d,isTup d=jA->f d=jA){d:PyData}(h:Fj 3 d=jA):f d=jA:=by
 cases d with
 |tuple ds=>show-a ds λy=>by let e:Fj 3 (.tuple ds)=decide ((ds.Z:Int)=3):=rfl;rw[e,y]at h;cases h
 |_=>exact b _ rfl
inductive Oj(vs:aL)(H:af)(Q:aO)(fE:bF):Prop where
 |mk(v:al.V)(d:PyData)(_:vs=[v])(_:b8 H v d)(_:Q (.aX (akT d)) H)
inductive Y9(vs:aL)(H:af)(Q:aO)(fE:bF):Prop where
 |mk(v:al.V)(d:PyData)(lo hi:Int)(_:vs=[v,.int lo,.int hi])(_:b8 H v d)(_:Q (.aX (qR lo hi d)) H)
inductive OU(vs:aL)(H:af)(Q:aO)(fE:bF):Prop where
 |mk(v:al.V)(d:PyData)(n:Int)(_:vs=[v,.int n])(_:b8 H v d)(_:Q (.aX (Fj n d)) H)
inductive N4(vs:aL)(H:af)(Q:aO)(fE:bF):Prop where
 |mk(a:Addr)(hs:f_)(v u:al.V)(d e:PyData)(_:vs=[.ref a,v,u])(_:b8 H (.ref a) (.list hs))(_:b8 H v d)(_:b8 H u e)(_:d.depth<=60)(_:e.depth<=60)(_:Q (.aX (h0 hs d e)) H)
inductive Þ(vs:aL)(H:af)(Q:aO)(fE:bF):Prop where
 |mk(v:al.V)(d:PyData)(_:vs=[v])(_:b8 H v d)(_:∀H',av H H'->Q (.aX (p1 d)) H')
inductive Ps(vs:aL)(H:af)(Q:aO)(fE:bF):Prop where
 |mk(v:al.V)(d:PyData)(_:vs=[v])(_:b8 H v d)(_:∀H',av H H'->Q (.aX (xe d)) H')
inductive ß(vs:aL)(H:af)(Q:aO)(fE:bF):Prop where
 |mk(a:Addr)(hs:f_)(v:al.V)(d:PyData)(_:vs=[.ref a,v])(_:b8 H (.ref a) (.list hs))(_:b8 H v d)(_:d.depth<=61)(_:Q (.aX (qS hs d)) H)
inductive Pt(vs:aL)(H:af)(Q:aO)(fE:bF):Prop where
 |mk(a:Addr)(hs:f_)(v:al.V)(d:PyData)(_:vs=[.ref a,v])(_:b8 H (.ref a) (.list hs))(_:b8 H v d)(_:d.depth<=62)(_:∀H',av H H'->Q (.aX (It hs d)) H')
def ay5:dH "a"=⟨#[97]⟩:=by left
def ay6:dH "z"=⟨#[122]⟩:=by left
def C_{ds:f_}{d:PyData}(h:d∈ds):d.depth<=pK ds:=by
 induction ds with
 |nil=>cases h
 |cons x r e=>
  simp only[pK];rcases dQ.mp h with rfl|h
  .exact Nat.le_max_left _ _
  show-eh (e h) (Nat.le_max_right _ _)
def aj7{f:Addr}(F:b1 K "is_whole" "is_whole" Ei f fd)(B:fc mg):-aA a6 1 f fd j' Oj:=by
 show-F.ok am1 (λ_ A _ s H vs Q E a h=>?_);let#[v,d,2,h,q]:=h;show#[_,(a9 (ct (kT (d4 vf B.isinstance kg (aj (aa 0) (aj (tL qF B.int I6) ay))) (qV (aom (d4 vf B.isinstance kg (aj (aa 0) (aj (tL qF B.bool amu) ay)))))))),4]
 ac_rfl
 show#[1,6,6,1,#[2,h.ty,x3 K (an8 d)],1,4];cases d with
 |int i=>show-hb #[1,6,6,1,#[2,h.ty,x3 K (ò _)],1,q]
 |bool b=>show-hb #[1,6,6,1,#[2,h.ty,x3 K (ò _)],1,q]
 |_=>show-gV q
def ahD{f:Addr}(F:b1 K "is_whole_within" "is_whole_within" IE f fd)(k:bO K mg "is_whole" Ei j' e j)(b:-aA a6 1 e j j' Oj):-aA a6 2 f fd wg Y9:=by
 show-F.ok akW (λ_ A _ s H vs Q E c h=>?_);let#[v,d,lo,g,2,h,q]:=h;show#[_,(a9 (ct (kT (dp b k c.mono cd (aj (aa 0) ay)) (qV (Ze q8 q8 (aa 1) (aa 0) (aa 2)))))),4]
 ac_rfl
 show#[1,v,d,2,h,1,4];cases h with
 |int i=>
  let q:Q (.aX (decide (lo<=i)&&decide (i<=g))) H:=q;show-hb #[5,3,1,4];by_cases a:lo<=i
  .rw[cQ a,qi]at q;show-ey (cQ a) #[1,3,q]
  rw[dJ a,sP]at q;show-fv (dJ a) q
 |_=>show-gV q
def aj8{f:Addr}(F:b1 K "is_tuple_of" "is_tuple_of" Av f fd)(B:fc mg):-aA a6 1 f fd rE OU:=by
 show-F.ok Ý (λ_ A _ s H vs Q E b h=>?_);let#[v,d,n,2,h,q]:=h;show#[_,(a9 (ct (kT (d4 vf B.isinstance kg (aj (aa 0) (aj (tL qF B.tuple Du) ay))) (qV (oi q7 (d4 jC B.len iT (aj (aa 0) ay)) (aa 1) (e9 _)))))),4]
 ac_rfl
 show#[1,6,6,1,#[2,h.ty,x3 K (akS d)],1,4];cases h with
 |@tup a xs ds aB z t=>
  show-hb #[1,a,1,.inr (cH.of aB),1,2,4];show Q (.aX (decide (V.int (xs.Z:Int)=V.int n))) H;rwa[IA,t.len]
 |_=>show-gV q
def ahE{f:Addr}(F:b1 K "are_unlike_houses" "are_unlike_houses" DK f fd):-aA a6 1 f fd s7 N4:=by
 show-F.ok akX (λ_ A _ s H vs Q E k h=>?_);let#[a,b,v,u,d,e,2,c,g,l,r,p,q]:=h;show#[_,(a9 (ct (kT (oi (Ļ (aaY k)) (aa 1) (aa 0) qF) (kT (oi (Ļ (aaY k)) (aa 2) (aa 0) qF) (qV (oi (PV k.units) (aa 1) (aa 2) (e9 _))))))),4]
 ac_rfl
 let o:ta b=jx:=c.wL;let n:wB d=jx:=N1 g.wL r qc;let m:wB e=jx:=N1 l.wL p qc;let q:Q (.aX (inD d b&&inD e b&&!kx d e)) H:=q;show#[5,d,b,g.uM,c.uM,n,o,1,4];show if inD d b=jx then _ else _
 cases ai:inD d b with
 |false=>
  rw[ai]at q;show-gV q
 |true=>
  rw[ai]at q;show-hb #[5,e,b,l.uM,c.uM,m,o,1,4];show if inD e b=jx then _ else _
  cases ak:inD e b with
  |false=>
   rw[ak]at q;show-gV q
  |true=>
   rw[ak]at q;show-hb #[5,d,e,g.uM,l.uM,n,m,q]
def alf{f:Addr}(F:b1 K "is_name" "is_name" JY f fd)(B:fc mg)(j:Ff mg):-aA a6 1 f fd j' Þ:=by
 show-F.ok ao6 (λ_ A _ s H vs Q E I h=>?_);let#[v,d,2,h,q]:=h;show#[_,(a3 (eu (lS.pt (x2 (jF (jE (d4 vf B.isinstance kg (aj (aa 0) (aj (tL qF B.str o_) ay))))) (xS (jF (z5 q8 q8 bt (d4 Xy B.len iT (aj (aa 0) ay)) (vi qF j.aiy)))))) (a9 (ct nv)) eH)
  (a9 (ct (d4 (Dl rfl) B.BU D6 (aj (j0 (N':=["sign"]) (cs:=[jp]) rfl (ł (aa 0)) rfl qL rfl qL (hv (λp t=>bk t (ee))) rfl
   (.own .nil)
   (λC X u O T=>#[(ed 0 (by show(["sign"]:bY).Nodup;decide+kernel)),iQ,(Ze N0 N0 cF (aa 0) cF)])) ay))))),4]
 ac_rfl
 show#[1,6,6,1,#[2,h.ty,x3 K (an7 d)],1,4];cases h with
 |str x z ok=>
  let q:∀H',av H H'->Q (.aX (decide (1<=x.Z)&&decide (x.Z<=8)&&x.cps.toList.all t7)) H':=q;show-gV #[5,mZ (e8 jQ),3,1,4];by_cases m:1<=x.Z
  .refine ey (cQ jQ) #[3,1,4];by_cases o:x.Z<=8
   .let g:(x.Z:Int)<=8:=by lia
    show-A2 g ?_;rw[cQ m,cQ o]at q;dsimp only[tV,t4,JM,pq,js];refine DM (J:=EH x) (H1:=H) (xs:=signs x) (rest:=[]) (λR h=>#[5,h]) rfl (Ł _) (e8 ?_) (λv=>.aX (match v with|.str y=>t7 (y.cps.toList.getD 0 0)|_=>jA)) (λi v b R N M a=>?_) (λD H' U L V=>?_)
    .have:(signs x).Z=x.cps.size:=by simp[signs]
     rw[this];show-eh z qc
    .let#[k,G,2]:=cD.mp (eX N);let a:∀n,av b n->R (.aX (decide (97<=k)&&decide (k<=122))) n:=a;let l:(!decide ((⟨#[k]⟩:Str).cps.G<(dH "a").cps.G))=decide (97<=k):=by rw[ay5];show-Jm k 97
     let r:(!decide ((dH "z").cps.G<(⟨#[k]⟩:Str).cps.G))=decide (k<=122):=by rw[ay6];show-Jm 122 k
     show#[1,3,1,4];by_cases c:97<=k
     .rw[cQ c,qi]at a;show-ey (l.trans (cQ c)) #[3,4];show R (.aX (!decide ((dH "z").cps.G<(⟨#[k]⟩:Str).cps.G))) b;rw[r];show-a b (av.refl _)
     rw[dJ c,sP]at a;show-fv (l.trans (dJ c)) (a b (av.refl _))
    show#[D,x.cps.toList.map t7,2,aM.of (L.trans ?_),4]
    .unfold signs;rw[hp,hp];rfl
    let e:(x.cps.toList.map t7).all id=x.cps.toList.all t7:=by rw[P'];rfl
    rw[e];show-q H' V
   let g:¬(x.Z:Int)<=8:=by lia
   show-ey (by rw[dJ g];rfl) ?_;rw[dJ o,afY,sP]at q;show-q H (av.refl _)
  show-fv (dJ jQ) #[1,hb ?_];rw[dJ m,sP,sP]at q;show-q H (av.refl _)
 |_=>show-hb (q H (av.refl _))
theorem afG:∀{c:aL}{ds:f_},eP H c ds->ds.all p1=jx->c=(ko ds).map V.str/\(ko ds).Z=ds.Z
 |_,_,.nil,_=>#[2,2]
 |_,_,.cons (v:=v) (d:=d) a b,h=>by
  rw[JN,cJ]at h;let#[f,g]:=afG b h.2;cases a with
  |str x z ok=>
   simp only[ko,hL,e5];rw[<-f,g];show#[2,2]
  |cw=>cases h.1
  |aX b=>cases h.1
  |int i=>cases h.1
  |lst _ _ _=>cases h.1
  |tup _ _ _=>cases h.1
def aj9(a:bY):decide (V.int ((mb (λi=>a.getD i pN) a.Z:Nat):Int)=V.int (a.Z:Int))=decide a.Nodup:=by
 rw[IA];by_cases h:a.Nodup
 .let e:=ω (λi=>a.getD i pN) a.length λi j d b z=>by
   let c:i<a.Z:=by lia
   let f:a.getD i pN=a.getD j pN:=z;rw[gL,gL,ew c,ew b]at f;show-aia.mp h i j c b d f
  rw[e,cQ h,cQ rfl]
 let e:mb (λi=>a.getD i pN) a.Z<a.Z:=by
  let g:∃i j,∃(c:i<a.Z)(b:j<a.Z),i<j/\a[i]=a[j]:=by show-ZM λk=>h (aia.mpr λi j c b d z=>k #[i,j,c,b,d,z])
  let#[i,j,c,b,d,z]:=g;show-ZV _ _ i j d b ?_;show a.getD i pN=a.getD j pN;rw[gL,gL,ew c,ew b,z]
 rw[dJ h,dJ jQ]
def alg{f:Addr}(F:b1 K "are_houses" "are_houses" ED f fd)(B:fc mg)(Y:Ff mg)(L:bO K mg "is_name" JY j' u j)(k:-aA a6 1 u j j' Þ):
  -aA a6 2 f fd wm Ps:=by
 show-F.ok ao7 (λ_ A _ s H vs Q E I h=>?_);let#[v,d,2,h,q]:=h;show#[_,(a3 (eu (lS.pt (x2 (jF (jE (d4 vf B.isinstance kg (aj (aa 0) (aj (tL qF B.list vr) ay))))) (xS (gs AQ (d4 jC B.len iT (aj (aa 0) ay)) (vi qF Y.aiu) (e9 _))))) (a9 (ct nv)) eH)
  (a9 (ct (kT (d4 (Dl rfl) B.BU D6 (aj (j0 (N':=j') (cs:=[jp]) rfl (hF (aa 0)) rfl qL rfl qL (hv (λp l=>bk l (ee))) rfl
   (.own .nil)
   (λC s3 Z bP de=>#[(ed 0 (by show(j':bY).Nodup;decide+kernel)),iQ,(dp k L I.mono cd (aj (aa 0) ay))])) ay)) (qV (oi q7 (d4 afT B.len iT (aj (iP (aks rfl) B.azf an5 (aj (aa 0) ay)) ay)) (d4 jC B.len iT (aj (aa 0) ay)) (e9 _))))))),4]
 ac_rfl
 show#[1,6,6,1,#[2,h.ty,x3 K (ñ d)],1,4];cases h with
 |@lst a xs ds aB z t=>
  let au:=t.len;let q:∀H',av H H'->Q (.aX (decide (ds.Z<=12)&&ds.all p1&&decide (ko ds).Nodup)) H':=q;show-gV #[1,a,1,.inl (aM.of aB),3,1,4];by_cases r:ds.Z<=12
  .rw[cQ r,qi]at q;show-fv (dJ jQ) ?_;dsimp only[tV,t4,JM,pq,js];refine DM (J:=j9 K a) (H1:=H) (xs:=xs) (rest:=[]) (λR h=>#[1,a,2,#[_,aM.of aB],h]) rfl (oj (aM.of aB)) (e8 jQ) (λv=>.aX (p1 (uL H v))) (λi x N R m M c=>?_) (λD H' ai G g=>?_)
   .let#[d,dc,n]:=t.get m;let c:∀b,av N b->R (.aX (p1 (uL H x))) b:=c;rw[ut n]at c;show#[1,x,d,2,n.same M,λb O=>c b O]
   let U:(ds.map p1).all id=ds.all p1:=by rw[P'];rfl
   show#[D,ds.map p1,2,aM.of (G.trans (by rw[Z0 p1 t])),1,4];rw[U];cases e:ds.all p1 with
   |false=>
    rw[e]at q;show-gV (q H' g)
   |true=>
    rw[e,qi]at q;let#[m,iV]:=afG t e;let y:H' a=ja (.lst ((ko ds).map V.str)):=by rw[<-m];show-g _ _ aB
    show-hb #[1,a,ko ds,2,aM.of y,jQ,λp l=>?_];let o:av H' (upd H' p (KI P w p (mb (λi=>(ko ds).getD i pN) (ko ds).Z))):=b7 l;show#[p,1,aN,1,a,1,.inl (aM.of (o _ _ y)),2,4];let T:=aj9 (ko ds);let X:((ko ds).map V.str).Z=(ko ds).Z:=bQ ..;rw[<-T]at q;rw[X];show-q _ (g.trans o)
  rw[dJ r,sP,sP]at q;show-ey (cQ jQ) (q H (av.refl _))
 |_=>show-hb (q H (av.refl _))
def ahF{ds:f_}(h:ds.Z≠4):qS hs (.tuple ds)=jA:=by rcases ds with _|⟨a,_|⟨b,_|⟨c,_|⟨d,_|⟨e,r⟩⟩⟩⟩⟩<;>first|rfl|(simp at h)
def alh{f:Addr}(F:b1 K "is_road" "is_road" JZ f fd)(j:Ff mg)(T:bO K mg "is_tuple_of" Av rE f1 G)(B:-aA a6 1 f1 G rE OU)(U:bO K mg "are_unlike_houses" DK s7 f2 I)(x:-aA a6 1 f2 I s7 N4)(u:bO K mg "is_whole_within" IE wg D M)(N:-aA a6 2 D M wg Y9):
  -aA a6 3 f fd ql ß:=by
 show-F.ok aoC (λ_ A _ s H vs Q E m h=>?_);let#[a,o,v,d,2,C,h,J,q]:=h;show#[_,(a9 (ct (kT (dp B T m.mono cd (aj (aa 1) (aj bt ay))) (kT (dp x U m.mono cd (aj (aa 0) (aj (ck eN (aa 1) bt) (aj (ck eN (aa 1) bt) ay)))) (kT (dp N u m.mono cd (aj (ck eN (aa 1) bt) (aj bt (aj (vi qF j.aiz) ay)))) (qV (dp N u m.mono cd (aj (ck eN (aa 1) bt) (aj bt (aj (vi qF j.aix) ay)))))))))),4]
 ac_rfl
 show#[1,v,d,1,h,1,4];cases h with
 |@tup r xs ds i z t=>
  show if decide ((ds.Z:Int)=4)=jx then _ else _
  by_cases V:ds.Z=4
  .refine ey (cQ jQ) ?_;let X:xs.Z=4:=by rw[t.len];show-V
   obtain⟨L,n,p,y,rfl⟩:∃L n p y,xs=[L,n,p,y]:=by rcases xs with _|⟨a,_|⟨b,_|⟨c,_|⟨d,_|⟨e,r⟩⟩⟩⟩⟩<;>first|exact⟨_,_,_,_,rfl⟩|(simp at X)
   cases t with
   |cons t0 t=>
    cases t with
    |cons t1 t=>
     cases t with
     |cons fq t=>
      cases t with
      |cons t3 t=>
       cases t;rename_i d9 g k l;let q:Q (.aX (h0 o d9 g&&qR 1 9 k&&qR 1 1000000000 l)) H:=q;let Y:pK [d9,g,k,l]+1<=61:=J;let R:d9.depth<=60:=eh (C_ (by simp:d9∈[d9,g,k,l])) jQ;let O:g.depth<=60:=eh (C_ (by simp:g∈[d9,g,k,l])) jQ;show#[5,r,_,3,cH.of i,7,r,_,3,cH.of i,2,a,o,L,n,d9,g,2,C,t0,t1,R,O,1,4];cases ai:h0 o d9 g with
       |false=>
        rw[ai]at q;show-gV q
       |true=>
        rw[ai,qi]at q;show-hb #[1,r,_,3,cH.of i,2,p,k,_,1,fq,1,4];cases ak:qR 1 9 k with
        |false=>
         rw[ak]at q;show-gV q
        |true=>
         rw[ak,qi]at q;show-hb #[1,r,_,3,cH.of i,2,y,l,_,1,t3,q]
  show-fv (dJ jQ) ?_;rwa[ahF V]at q
 |_=>show-gV q
def ali{f:Addr}(F:b1 K "are_roads" "are_roads" EE f fd)(B:fc mg)(U:Ff mg)(y:bO K mg "is_road" JZ ql j e)(k:-aA a6 3 j e ql ß):
  -aA a6 4 f fd wh Pt:=by
 show-F.ok aoD (λ_ A _ s H vs Q E u h=>?_);let#[a,c,v,d,2,L,h,I,q]:=h;show#[_,(a3 (eu (lS.pt (x2 (jF (jE (d4 vf B.isinstance kg (aj (aa 1) (aj (tL qF B.list vr) ay))))) (xS (gs AQ (d4 jC B.len iT (aj (aa 1) ay)) (vi qF U.aiw) (e9 _))))) (a9 (ct nv)) eH)
  (a9 (ct (d4 (Dl rfl) B.BU D6 (aj (j0 (N':=["thing","houses"]) (cs:=[jp,ja 0]) rfl (hF (aa 1)) rfl qL rfl qL (hv (c'.mpr #[2,(λp G=>bk G (ee))])) rfl
   (.own (.mu rfl (.inl rfl) (.inl rfl) rfl .nil))
   (λC s3 Y bP de=>#[(ed 0 (by show(["thing","houses"]:bY).Nodup;decide+kernel)),iQ,(dp k y u.mono cd (aj (aa 1) (aj (aa 0) ay)))])) ay))))),4]
 ac_rfl
 show#[1,6,6,1,#[2,h.ty,x3 K (ñ d)],1,4];cases h with
 |@lst b xs ds ae z t=>
  let au:=t.len;let q:∀H',av H H'->Q (.aX (decide (ds.Z<=40)&&ds.all (qS c))) H':=q;show-gV #[1,b,1,.inl (aM.of ae),3,1,4];by_cases l:ds.Z<=40
  .rw[cQ l,qi]at q;show-fv (dJ jQ) ?_;dsimp only[tV,t4,JM,pq,js];refine DM (J:=j9 K b) (H1:=H) (xs:=xs) (rest:=[ja (.ref a)]) (λR h=>#[1,b,2,#[_,aM.of ae],h]) rfl (oj (aM.of ae)) (e8 jQ) (λv=>.aX (qS c (uL H v))) (λi x m R O n g=>?_) (λD H' Z V N=>?_)
   .let#[d,dc,r]:=t.get O;let g:∀o,av m o->R (.aX (qS c (uL H x))) o:=g;rw[ut r]at g;let X:pK ds+1<=62:=I;let T:d.depth<=61:=eh (C_ (eX dc)) jQ;show#[5,a,c,x,d,2,L.same n,r.same n,T,g m (av.refl _)]
   let M:(ds.map (qS c)).all id=ds.all (qS c):=by rw[P'];rfl
   show#[D,ds.map (qS c),2,aM.of (V.trans (by rw[Z0 (qS c) t])),4];rw[M];show-q H' N
  rw[dJ l,sP]at q;show-ey (cQ jQ) (q H (av.refl _))
 |_=>show-hb (q H (av.refl _))
def aoF(b c:PyData):Prop:=xe b=jA\/∃a,b=.list a/\It a c=jA
inductive Pl(C la:Addr)(vs:aL)(H:af)(Q:aO)(E:bF):Prop where
 |mk(x ah:Addr)(v u:al.V)(wM lx:PyData)(_:vs=[.ref x,v,u])(_:H x=ja (.ins C ah []))(_:b8 H v wM)(_:b8 H u lx)(_:lx.depth<=62)(_:aoF wM lx)(_:∀H',av H H'->E (.ref la) jp H')
def alj{f:Addr}(F:b1 K "__init__" "Net.__init__" x9 f fd)(B:fc mg)(U:sN K C)(m:oK Y G X bm)(c:Exc K mg "NoNet" la bm G)(J:bO K mg "are_houses" ED wm i q)(o:-aA a6 2 i q wm Ps)(M:bO K mg "are_roads" EE wh j e)(p:-aA a6 4 j e wh Pt):
  -aA (dn P w) 5 f fd rF (Pl C la):=by
 show-iH F Ŕ (λ_ A _ s H vs Q E g h=>?_);let#[x,R,v,u,l,N,2,T,d,y,L,V,k]:=h;show#[_,a3 (eu (jF (jE (dp o J g.mono cd (aj (aa 1) ay)))) (a9 (oZ m c rfl (aj cF ay))) eH)
  (a3 (eu (jF (jE (dp p M g.mono cd (aj (aa 1) (aj (aa 2) ay))))) (a9 (oZ m c rfl (aj cF ay))) eH) zP),4]
 show#[1,v,l,2,d,λn b=>#[1,4]];cases D:xe l with
 |false=>show-hb #[by show 1<=sizeLine;decide,k n b]
 |true=>
  rcases V with z|⟨hs,rfl,O⟩
  .rw[D]at z;cases z
  cases d with
  |@lst a xs _ aB z t=>
   show-gV #[5,a,hs,u,N,2,(b8.lst aB z t).same b,y.same b,L,λr I=>#[1,4]];rw[O];show-hb #[by show 1<=sizeLine;decide,k r (b.trans I)]
def Zv{a:bY}{x:Str}(h:x∉a):pY (.str x) (a.map V.str)=jA:=by unfold pY;rw[rt];intro z;let#[v,b,e]:=oN.mp z;let#[y,d,2]:=cD.mp b;let c:(y==x)=jx:=e;show-h (eq_of_beq c▸d)
def xE{a:Type}{l:List a}{i:Nat}{d x:a}(h:l[i]?=ja x):l.getD i d=x:=by rw[gL,h];rfl
inductive Jo(C R:Addr)(vs:aL)(H:af)(Q:aO)(E:bF):Prop where
 |mk(x bb bh:Addr)(hs:ba)(zs:aL)(h:Str)(_:vs=[.ref x,.str h])(_:ih C H x bb bh (dK hs) zs)(_:(h∈hs.map S->Q .cw H))(_:(h∉hs.map S->E (.ref R) jp H))
abbrev A6:Stmt:=gT (top 57) 7
def aoG:cp lR lR (bW A6):=({})
def am4{f:Addr}(F:b1 K "need_house" "Net.need_house" A6 f fd)(b:sN K C)(g:oK j e i bm)(d:Exc K mg "NoHouse" R bm e):
  -aA (dn P w) 1 f fd lR (Jo C R):=by
 show-iH F aoG (λ_ A _ s H vs Q E r h=>?_);let#[x,a,t,c,y,p,2,n,q,o]:=h;let#[k,l]:=n.ins;show#[_,(a9 (eu (gs aff (aa 1) (dE (aa 0)) qF) (a9 (oZ g d rfl (aj cF ay))) eH)),4]
 ac_rfl
 let m:aM K H a ((c.map S).map V.str):=by rw[<-amw];show-aM.of n.u7
 show#[5,x,C,k,_,1,l,b.cl,b.xo,2,a,1,.inl m,2,YP _,1,4];by_cases hm:p∈c.map S
 .exact fv (by rw[î hm];rfl) (q hm)
 show-ey (by rw[Zv hm];rfl) #[by show 1<=sizeLine;decide,o hm]
def akc{b c:Type}(a:List b)(q:Nat->Bool)(g:Nat->c):(a.zipIdx.filter λz=>q z.2).map (λz=>g z.2)=((fk a.Z).filter q).map g:=by
 let e:a.zipIdx.map (·.2)=fk a.Z:=by rw[aii,aic]
 rw[<-e,Î,hp];rfl
def d9:cE.f9:=#[0,0,0,0]
def Jr(a:ba)(ds:cY)(b:cE.f9->Nat)(h:Str):List Nat:=(fk ds.Z).filter λi=>decide (V.str (S (a.getD (b (ds.getD i d9)) []))=V.str h)
def mc(a:ba)(ds:cY)(b:cE.f9->Nat)(h:Str):List Int:=(Jr a ds b h).map λi:Nat=>(i:Int)
def akd(a:ba)(ds:cY)(b:cE.f9->Nat)(h:Str):(mc a ds b h).Z<=ds.Z:=by unfold mc Jr;rw[bQ];show-eh (Qe _ _) (by rw[s6];show-cy _)
inductive QV(C R:Addr)(z6:cE.f9->Nat)(vs:aL)(H:af)(Q:aO)(E:bF):Prop where
 |mk(x bb bh:Addr)(hs:ba)(rs:b5)(ds:cY)(h:Str)(_:vs=[.ref x,.str h])(_:ih C H x bb bh (dK hs) (bw rs))(_:gO H hs rs ds)(_:rs.Z<=40)(_:(h∈hs.map S->∀(p:Addr)(H':af),H p=jp->av H H'->H' p=ja (.lst ((mc hs ds z6 h).map V.int))->Q (.ref p) H'))(_:(h∉hs.map S->E (.ref R) jp H))
abbrev Fq:Stmt:=gT (top 57) 4
def aqm:cp lR lR (bW Fq):=({})
def aoH{f N:Addr}(F:b1 K "out_of" "Net.out_of" Fq f fd)(B:fc mg)(k:sN K C)(e:cR K C "need_house" "Net.need_house" A6 lR N j)(rP:-aA (dn P w) 1 N j lR (Jo C R)):
  -aA (dn P w) 2 f fd lR (QV C R (·.a)):=by
 let U:=k.cl;show-iH F aqm (λ_ A _ s H vs Q E I h=>?_);let#[x,O,y,l,rs,ds,b,2,n,L,dy,q,X]:=h;let#[m,o]:=n.ins;show#[_,(a3 (gD (fg (aa 0) U e.d5 rP I.mono e.bd .nil jn (aj (aa 1) ay)))
  (a9 (ct (j0 (N':=["number","road","house"]) (cs:=[jp,jp,ja 1]) rfl (OA rfl B.enumerate (aj (dE (aa 0)) ay)) rfl qL rfl qL (hv (c'.mpr #[2,(λp M=>bk M (ee))])) rfl
   (.own (.own (.mu rfl (.inl rfl) (.inl rfl) rfl .nil)))
   (λC s3 aK bP de=>#[(IB (K:=K) (n:=2) rfl rfl (ng (ed 0 (by show(["number","road","house"]:bY).Nodup;decide+kernel)) (ng (ed 1 (by show(["number","road","house"]:bY).Nodup;decide+kernel)) xx))),(DL (gs q7 (ck (Ae (K:=K) rfl) (aa 1) bt) (aa 2) (e9 _))),(aa 0)]))))),4]
 ac_rfl
 let J:=gX rs;let w7:=L.len;show#[1,x,m,1,o,7,x,O,y,l,_,b,2,n,λhm=>?_,X];show#[1,x,C,m,_,1,o,k.cl,k.iq,2,y,2,#[_,aM.of n.oA],4];refine é (rest:=[ja (.str b)]) rfl (aM.of n.oA) (e8 jQ) (λi _=>decide (V.str (S (l.getD (ds.getD i d9).a []))=V.str b)) (λi _=>.int i) (λi v g R a t c=>?_) (λi v g R a _ t c=>#[1,c g (av.refl _)]) (λD H' z G u=>q hm D H' z u ?_)
 .unfold bw at a;rw[ea]at a;let#[r,Y,2]:=hN.mp a;let#[d,dc,ok,Z]:=L.get Y;let T:ds.getD i d9=d:=xE dc;rw[T]at c;show#[1,r,_,3,cH.of (t _ _ Z),7,7,c g (av.refl _)]
 rw[G,akc (bw rs) (λi=>decide (V.str (S (l.getD (ds.getD i d9).a []))=V.str b)) (λi=>V.int i),J,w7];unfold mc;rw[hp];rfl
abbrev xM:Stmt:=gT (top 57) 3
def à:cp dv dv (bW xM):=({})
def alk{f:Addr}(F:b1 K "road" "Net.road" xM f fd)(B:fc mg)(c:sN K C)(r:oK j e i bm)(p:Exc K mg "NoRoad" R bm e):
  -aA (dn P w) 1 f fd dv (Pd C R):=by
 show-iH F à (λ_ A _ s H vs Q E L h=>?_);let#[x,N,m,V,y,k,2,n,q,o]:=h;let#[g,l]:=n.ins;show#[_,(a3 (eu (jF (z5 q8 vG bt (aa 1) (d4 jC B.len iT (aj (dE (aa 0)) ay)))) (a9 (oZ r p rfl (aj cF ay))) eH)
  (a9 (ct (ck e4 (dE (aa 0)) (aa 1))))),4]
 ac_rfl
 show#[1,3,1,4];by_cases b:0<=k
 .refine ey (cQ b) #[1,x,C,g,_,1,l,c.cl,c.iq,2,m,1,.inl (aM.of n.oA),3,1,4];by_cases a:k<y.Z
  .let#[v,t,d]:=q #[b,a];show-A2 a ?_;show#[1,x,C,g,_,1,l,c.cl,c.iq,7,m,_,3,aM.of n.oA,t,d]
  show-ey (by rw[dJ a];rfl) ?_;show#[by show 1<=sizeLine;decide,o λz=>a z.2]
 show-fv (dJ b) #[1,4];show-hb #[by show 1<=sizeLine;decide,o λz=>b z.1]
abbrev gq:=List (List bU×al.V)
def h7(h g:Str):List bU:=[.inr h,.inr g]
def lE(n t:Addr):List (Str×al.V):=[("net",.ref n),("told",.ref t)]
structure oq(C aD:Addr)(H:af)(x n t bb bh:Addr)(xs ys:aL)(kvs:gq):Prop where
 ins:∃ah,H x=ja (.ins C ah (lE n t))
 fo:ih aD H n bb bh xs ys
 told:H t=ja (.dA kvs)
theorem oq.same{t:Addr}{a:gq}(W:oq C aD H x n t bb bh xs e a)(b:av H H'):oq C aD H' x n t bb bh xs e a:=
 let⟨c,h⟩:=W.ins
 #[#[c,b _ _ h],W.fo.same b,b _ _ W.told]
end
structure tS(K:aI)(C:Addr):Prop where
 cl:ef K C
 nn:cK K (.ref C) "net"=ja jp
 eT:cK K (.ref C) "told"=ja jp
inductive KV(C:Addr)(vs:aL)(H:af)(Q:aO)(fE:bF):Prop where
 |mk(x ah:Addr)(v:al.V)(_:vs=[.ref x,v])(_:H x=ja (.ins C ah []))(_:∀t,H t=jp->Q .cw (upd (upd H t (.dA [])) x (.ins C ah [("net",v),("told",.ref t)])))
inductive KW(C aD fQ:Addr)(vs:aL)(H:af)(Q:aO)(E:bF):Prop where
 |mk(x n t bb bh:Addr)(hs:ba)(ys:aL)(kvs:gq)(v u:al.V)(d e:PyData)(_:vs=[.ref x,v,u])(_:oq C aD H x n t bb bh (dK hs) ys kvs)(_:Good hs)(_:b8 H v d)(_:b8 H u e)(_:d.depth<=60)(_:e.depth<=60)(_:(h0 (a8 hs) d e=jx->∀H',av H H'->Q .cw H'))(_:(h0 (a8 hs) d e=jA->∀H',av H H'->E (.ref fQ) jp H'))
inductive KX(C aD fQ ic:Addr)(vs:aL)(H:af)(Q:aO)(E:bF):Prop where
 |mk(x n t bb bh:Addr)(hs:ba)(rs:b5)(ds:cY)(kvs:gq)(h g:Str)(i:Int)(_:vs=[.ref x,.str h,.str g,.int i])(_:oq C aD H x n t bb bh (dK hs) (bw rs) kvs)(_:Good hs)(_:gO H hs rs ds)(_:rs.Z<=40)(_:b8 H (.str h) (.str h))(_:b8 H (.str g) (.str g))(_:kvs.Z<sizeLine)(_:(h0 (a8 hs) (.str h) (.str g)=jx->i∈mc hs ds (·.a) h->∀H',av H H'->Q .cw (upd H' t (.dA (gy kvs (h7 h g) (.int i))))))(_:(h0 (a8 hs) (.str h) (.str g)=jA->∀H',av H H'->E (.ref fQ) jp H'))(_:(h0 (a8 hs) (.str h) (.str g)=jx->i∉mc hs ds (·.a) h->∀H',av H H'->E (.ref ic) jp H'))
def ake(b:kd):(b.map V.int).all ul=jx:=by rw[iw];intro x a;let#[y,1]:=cD.mp a;rfl
def am5{a:kd}{x:Int}(h:x∈a):pY (.int x) (a.map V.int)=jx:=by unfold pY;rw[oN];show#[.int x,cD.mpr #[x,h,2],by show(x==x)=jx;show-abD x]
def ahG{a:kd}{x:Int}(h:x∉a):pY (.int x) (a.map V.int)=jA:=by unfold pY;rw[rt];intro z;let#[v,b,e]:=oN.mp z;let#[y,d,2]:=cD.mp b;let c:(y==x)=jx:=e;show-h (eq_of_beq c▸d)
def ahq{a:ba}{h g:Str}(c:h0 (a8 a) (.str h) (.str g)=jx):h∈a.map S/\g∈a.map S:=by unfold h0 at c;simp only[cJ]at c;show#[ZM λn=>by rw[Jv n]at c;show-hB c.1.1,ZM λn=>by rw[Jv n]at c;show-hB c.1.2]
section
variable{P:cx}{w:b0}{K:aI}{mg:b6}{base:Heap}
abbrev DB:Stmt:=gT (top 59) 0
def asi:cp mj mj (bW DB):=({})
def aqn{f:Addr}(F:b1 K "__init__" "Ways.__init__" DB f fd)(d:tS K C):-aA a6 1 f fd mj (KV C):=by
 show-F.ok asi (λ_ A _ s H vs Q E o h=>?_);let#[x,a,v,2,n,q]:=h;show#[_,(a3 (jo (aa 0) (aa 1) rfl)
  (a9 (jo (aa 0) akx rfl))),4]
 ac_rfl
 show#[5,x,C,a,1,n,d.cl,d.nn,(by show 0<1000;decide),4];intro t g;let l:t≠x:=λe=>by rw[e,aN]at g;cases g
 rw[aJ l]at g;show#[1,x,C,a,1,(by rw[aJ (dG l)];show-aN),d.cl,d.eT,(by show 1<1000;decide),4];let m:upd (upd (upd H x (.ins C a [("net",v)])) t (.dA [])) x (.ins C a [("net",v),("told",.ref t)])=upd (upd H t (.dA [])) x (.ins C a [("net",v),("told",.ref t)]):=by
  funext b;by_cases c:b=x
  .rw[c,aN,aN]
  rw[aJ c,aJ c];by_cases k:b=t
  .rw[k,aN,aN]
  rw[aJ k,aJ k,aJ c]
 show Q .cw (upd (upd (upd H x (.ins C a [("net",v)])) t (.dA [])) x (.ins C a [("net",v),("told",.ref t)]));rw[m];show-q t g
abbrev Dz:Stmt:=gT (top 59) 6
def asj:cp gh gh (bW Dz):=({})
def aqo{f:Addr}(F:b1 K "need_pair" "Ways.need_pair" Dz f fd)(g:tS K C)(O:ef K aD)(y:oK rp R nt bm)(m:Exc K mg "NoHouse" fQ bm R)(k:cR K aD "houses" "Net.houses" xl eg f1 B)(Y:-aA a6 1 f1 B eg (C9 aD))(qw:bO K mg "are_unlike_houses" DK s7 f2 I)(p:-aA a6 1 f2 I s7 N4):
  -aA (dn P w) 2 f fd gh (KW C aD fQ):=by
 show-iH F asj (λ_ A _ s H vs Q E c h=>?_);let#[x,n,t,j,z,b,ys,X,v,u,d,e,2,W,G,L,D,J,r,q,T]:=h;let#[N,V]:=W.ins;show#[_,(a9 (eu (jF (jE (dp p qw c.mono cd (aj (oa (dE (aa 0)) O k.d5 Y c.mono k.bd .nil cd) (aj (aa 1) (aj (aa 2) ay)))))) (a9 (oZ y m rfl (aj cF ay))) eH)),4]
 ac_rfl
 let#[M,U]:=W.fo.ins;show#[1,x,C,N,_,1,V,g.cl,g.nn,2,n,M,1,U,2,n,j,z,_,1,W.fo,λl Z=>?_];let a:=b7 (o:=.lst (dK b)) Z;show#[5,l,a8 b,v,u,d,e,2,EA G aN,L.same a,D.same a,J,r,1,4];cases i:h0 (a8 b) d e with
 |true=>show-q i _ a
 |false=>show#[by show 1<=sizeLine;decide,T i _ a]
abbrev DA:Stmt:=gT (top 59) 1
def asl:cp s9 s9 (bW DA):=({})
def aqp{f:Addr}(F:b1 K "set_way" "Ways.set_way" DA f fd)(b:tS K C)(eW:ef K aD)(T:oK rp fy nt bm)(R:Exc K mg "NoRoad" ic bm fy)(J:cR K aD "out_of" "Net.out_of" Fq lR f1 Z)(O:-aA (dn P w) 2 f1 Z lR (QV aD fQ (·.a)))(I:cR K C "need_pair" "Ways.need_pair" Dz gh f2 dY)(uG:-aA (dn P w) 2 f2 dY gh (KW C aD fQ)):
  -aA (dn P w) 3 f fd s9 (KX C aD fQ ic):=by
 let iR:=b.cl;show-iH F asl (λ_ A _ s H vs Q E y h=>?_);let#[x,n,t,B,D,u,rs,ds,z,a,g,i,2,W,G,Y,dy,U,cq,e,q,gp,j]:=h;let#[m,L]:=W.ins;let#[eR,hn]:=W.fo.ins;show#[_,(a3 (gD (fg (aa 0) iR I.d5 uG y.mono I.bd .nil jn (aj (aa 1) (aj (aa 2) ay))))
  (a3 (eu (gs aff (aa 3) (fg (dE (aa 0)) eW J.d5 O y.mono J.bd .nil jn (aj (aa 1) ay)) qF) (a9 (oZ T R rfl (aj cF ay))) eH)
  (a9 (Ph (kW y) (dE (aa 0)) (qW (aj (aa 1) (aj (aa 2) ay))) (aa 3) rfl)))),4]
 ac_rfl
 show#[1,x,m,1,L,7,1,x,n,t,B,D,u,_,z,.str a,.str g,.str a,.str g,2,W,G,U,cq,(by show 0<=60;decide),(by show 0<=60;decide),λN H1 c=>?_,gp];let hm:=ahq N;show#[5,x,C,m,_,1,c _ _ L,b.cl,b.nn,2,n,eR,1,c _ _ hn,7,n,B,D,u,rs,ds,a,2,W.fo.same c,Y.same c,dy,λ_ p ag np s2 X=>?_,λmE=>bk hm.1 mE];let d:=c.trans s2;show#[p,1,.inl (aM.of X),2,ake _,1,4];by_cases l:i∈mc u ds (·.a) a
 .refine fv (by rw[am5 l];rfl) ?_;show#[5,x,C,m,_,1,d _ _ L,b.cl,b.eT,7,1,sz_,λr iq=>?_];let M:=b7 (o:=.tup [V.str a,V.str g]) iq;show#[t,1,t6.t (k:=h7 a g) ((d.trans M) _ _ W.told) aN e,q N l _ (d.trans M)]
 show-ey (by rw[ahG l];rfl) #[by show 1<=sizeLine;decide,j N l _ d]
inductive Ry(C:Addr)(vs:aL)(H:af)(Q:aO)(fE:bF):Prop where
 |mk(e s:Addr)(v:al.V)(zs:aL)(_:vs=[.ref e,v,.ref s])(_:H e=ja (mw e C))(_:H s=ja (.lst zs))(_:∀(ah l:Addr)(H':af),H ah=jp->H l=jp->ah≠l->(∀b o,H b=ja o->b≠e->H' b=ja o)->H' e=ja (mv e C ah)->H' ah=ja (mS ah [("reason",v),("seen",.ref l)])->H' l=ja (.lst zs)->Q .cw H')
inductive Out where
 |ok(_:bg)
 |no(rg:Str)(_:bY)
def sy(a:gq)(h g:Str):Option Nat:=match dV a (h7 h g)with|some (.int k)=>ja k.X|_=>jp
def px(a:ba)(ds:cY)(k:Nat):Str:=S (a.getD (ds.getD k d9).b [])
def kY(b:gq)(a:ba)(ds:cY)(g:Str):Nat->Str->List Str->List Nat->Out
 |0,_,_,e=>.ok e
 |n+1,h,sn,e=>if h=g then .ok e else match sy b h g with
  |none=>.no "none" sn
  |some k=>if px a ds k∈sn then .no "round" (sn++[px a ds k])else kY b a ds g n (px a ds k) (sn++[px a ds k]) (e++[k])
structure yS(kvs:gq)(m:Nat):Prop where
 val:∀k v,dV kvs k=ja v->∃i:Nat,v=.int (i:Int)/\i<m
def yS.get{a:gq}{m:Nat}(t:yS a m)(h g:Str):(dV a (h7 h g)=jp/\sy a h g=jp)\/∃i:Nat,dV a (h7 h g)=ja (.int (i:Int))/\sy a h g=ja i/\i<m:=by
 cases e:dV a (h7 h g)with
 |none=>show-.inl #[2,by unfold sy;rw[e]]
 |some v=>
  let#[i,2,b]:=t.val _ _ e;show-.inr #[i,2,by unfold sy;rw[e];simp,b]
def nats(a:bg):List al.V:=a.map λk:Nat=>V.int (k:Int)
def rk(a:bY):List al.V:=a.map V.str
def Rz(b:Addr)(o:Out)(H:af)(Q:aO)(E:bF):Prop:=match o with
 |.ok e=>∀l H',H l=jp->av H H'->H' l=ja (.lst (nats e))->Q (.ref l) H'
 |.no h sn=>∀a l H',H a=jp->H l=jp->a≠l->av H H'->H' a=ja (mS a [("reason",.str h),("seen",.ref l)])->H' l=ja (.lst (rk sn))->E (.ref b) (ja a) H'
inductive RA(C aD fQ dR:Addr)(vs:aL)(H:af)(Q:aO)(E:bF):Prop where
 |mk(x n t bb bh:Addr)(hs:ba)(rs:b5)(ds:cY)(kvs:gq)(h g:Str)(_:vs=[.ref x,.str h,.str g])(_:oq C aD H x n t bb bh (dK hs) (bw rs) kvs)(_:Good hs)(_:gO H hs rs ds)(_:yS kvs ds.Z)(_:(h∈hs.map S->g∈hs.map S->Rz dR (kY kvs hs ds g 13 h [h] []) H Q E))(_:(h∉hs.map S\/g∉hs.map S->E (.ref fQ) jp H))
theorem HH{c:Type}[DecidableEq c]:∀{sn L:List c},sn.Nodup->(∀y∈sn,y∈L)->sn.Z<=L.Z
 |[],_,_,_=>ei _
 |x::r,L,aC,h=>by
  let a:=h x (.head _);let d:=HH (sn:=r) (L:=L.erase x) (jj.mp aC).2 (λy b=>(List.mem_erase_of_ne (show y≠x fromλe=>(jj.mp aC).1 (by rwa[<-e]))).mpr (h y (.tail _ b)));rw[List.length_erase_of_mem a]at d;have:=List.length_pos_of_mem a;rw[e5]
  lia
def Zw{c:Type}{l:List c}{x:c}(f:l.Nodup)(h:x∉l):(l++[x]).Nodup:=by rw[Bg];show#[f,jj.mpr #[ee,pI],λa d b g e=>h (by rwa[<-d2.mp g,<-e])]
def getD_mem'{a:Type}{l:List a}{i:Nat}{d:a}(h:i<l.Z):l.getD i d∈l:=by rw[gL,ew h];show-uh h
def δ(b:bY)(c:Str):al.hZ (rk (b++[c])) (-1)=ja (.str c):=by
 unfold rk;rw[fP];generalize b.map V.str=a;unfold al.hZ al.tB;rw[dT,bL qc,b2 (by show -((a.Z+1:Nat):Int)<=-1;lia)];show(a++[V.str c])[((-1:Int)+((a.Z+1:Nat):Int)).toNat]?=_;let e:((-1:Int)+((a.Z+1:Nat):Int)).toNat=a.Z:=by lia
 rw[e];simp
def none_of{H b:af}(c:av H b)(h:b a=jp):H a=jp:=by
 cases e:H a with
 |none=>rfl
 |some o=>rw[c _ _ e]at h;cases h
end
def ų{d:af}{E:bF}{e:Addr}(q:Rz dR (.no h sn) H Q E)(k:av H d)(N:d p=ja (.lst (rk sn)))(w:d e=jp):
  Ry dR (V.ref e::[.str h,.ref p]) (upd d e (mw e dR)) (λv t=>v=.cw/\∃a,t e=ja (mv e dR a)/\E (.ref dR) (ja a) (del t e)) dZ:=by
 show#[e,p,.str h,rk sn,2,aN,b7 w _ _ N,λa l H' f g j c i A L=>#[2,a,i,4]];let y:a≠e:=λz=>by rw[z,aN]at f;cases f
 let r:l≠e:=λz=>by rw[z,aN]at g;cases g
 rw[aJ y]at f;rw[aJ r]at g;show-q a l (del H' e) (none_of k f) (none_of k g) j (λb o K=>?_) ?_ ?_
 .let m:=k _ _ K;let n:b≠e:=λz=>by rw[z,w]at m;cases m
  rw[q0 n];exact c b o (by rwa[aJ n]) n
 .rwa[q0 y]
 rw[q0 r];show-L
end dP
namespace bX
open PySem PySem.Spec PyProof.Rows al PySem.W
def aaW(a:Addr)(h c:Heap):Prop:=∀b o,b≠a->h.get? b=ja o->c.get? b=ja o
def KO(h a:Heap):Prop:=∀b o,h.get? b=ja o->a.get? b=ja o
def alm(x y:Str):kx (.str x) (.str y)=decide (x=y):=by
 by_cases h:x=y
 .subst h;rw[cQ rfl];simp[kx]
 rw[dJ h];simp[kx,h]
theorem NZ:∀{a:b5}{b:en},dM (a.map V.ref) b->b=a.map c1
 |[],_,.nil=>rfl
 |t::a,_,.cons r q=>by cases r;rw[NZ q];rfl
section
variable{X:bA}
def N5:i9 "sorted"=ja (.builtin "sorted"):=by left
def nL(h:Heap)(d:Addr)(b:Array pG)(a:Nat):Prop:=∃o,h.get? d=ja o/\o.ExactDict/\o.data=.dict b a
end
section
variable{prog:cx}{w:b0}{A:et}{E:cL}{s:aS}{it d:Addr}{i ep:Nat}{es:Array pG}{ok g7:a5}
def amC{Q:Option a5->aS->Prop}(a:yi s.heap it d i es.size ep ok g7)(X:nL s.heap d es ep)(Y:i<es.size)(U:∀y,Υ y it d (i+1) es.size ep es[i].key es[i].val s.L->y.get? s.L=ja {cls:=.type "tuple",data:=.seq (List.toArray [es[i].key,es[i].val])}->
   (∀b o,b≠it->s.heap.get? b=ja o->y.get? b=ja o)->Q (ja (.ref s.L)) {s with heap:=y}):aQ (bj prog w) A (kE (.ref it)) Q E s:=by
 let#[G,n,m,l,os]:=s;let#[o,aY,_,T]:=X;let g:ŏ #[G,n,m,l,os] (.ref it) "dict_itemiterator":=#[_,a,2]
 let Z:¬((c1 d==iA)=jx):=hB;let own:Jf "dict_itemiterator"=jx:=by decide
 let H:it<G.Y:=dO a;unfold kE;show-az (AA (xY (name:=dH "__next__") g F.slot_dict_itemiterator_next (nI F.slot_dict_itemiterator_next g F.entry_dict_itemiterator_next ?_ (F.args_dict_itemiterator_next_1 _))));show-az (bu (az (az ?_)))
 first
 |show-az (YH g (bu (az (AE a rfl ?_))))
 |show-az (YJ g (bu (az (AE a rfl ?_))))
 simp only[own,if_true];change aQ _ _ (ite ((c1 d==iA)=jx) _ _) _ _ _;rw[bL Z];show-az (bu (az (AB aY T ?_)));rw[bL qv];show-az (bu (az (IH aY T ?_)));rw[bL qv];show-bu ?_;simp only[show¬((i:Int)<0)from by lia,if_false,ug,Zs Y];show-az ?_
 first
 |show-az (YH g (bu (az (YE g ?_))))
 |show-az (YJ g (bu (az (YE g ?_))))
 show aQ _ _ (DC (.ref it) 3 (mL ((i:Int)+1)) >>=_) _ _ #[G,n,m,l,os];show-az (vK a qv λc r t=>?_);let t:j7 it G c:=t;let r:yi c it d (i+1) es.size ep ok g7:=by
  let z:((i+1:Nat):Int)=(i:Int)+1:=by lia
  unfold yi;rw[z];simpa[mL]using r
 let M:ŏ #[c,n,m,l,os] (.ref it) "dict_itemiterator":=#[_,r,2]
 show-az (mR (az (YE M (az (YE M ?_)))));show aQ _ _ (af5 (.ref it) 6 es[i].key es[i].val) _ _ #[c,n,m,l,os];simp only[af5];show-az (afq ?_);let O:c.Y=G.Y:=t.1;let k:yi (c.push {cls:=.type "tuple",data:=.seq (List.toArray [es[i].key,es[i].val])}) it d (i+1) es.size ep ok g7:=d8 _ r;let P:(c.push {cls:=.type "tuple",data:=.seq (List.toArray [es[i].key,es[i].val])}).get? G.Y=ja {cls:=.type "tuple",data:=.seq (List.toArray [es[i].key,es[i].val])}:=by rw[<-O];exact g4 _ rfl
 let R:∀b u,b≠it->G.get? b=ja u->(c.push {cls:=.type "tuple",data:=.seq (List.toArray [es[i].key,es[i].val])}).get? b=ja u:=λb u f q=>d8 _ (t.extBut b u f q);show aQ _ _ (af4 (.ref it) >>=_) _ _ #[c.push {cls:=.type "tuple",data:=.seq (List.toArray [es[i].key,es[i].val])},n,m,l,os];rw[O];generalize c.push {cls:=.type "tuple",data:=.seq (List.toArray [es[i].key,es[i].val])}=J at k P R⊢;show-az ?_;unfold af4;show-az (kt k rfl (x:=.none) rfl (bu ?_));simp only[if_true];show-az (kt k rfl (x:=ok) rfl (az (kt k rfl (x:=g7) rfl ?_)));show-az (vK k qv λV j I=>?_);let I:j7 it J V:=I;let j:yi V it d (i+1) es.size ep es[i].key g7:=j;show-az (vK j qv λe B K=>?_);let K:j7 it V e:=K;let B:yi e it d (i+1) es.size ep es[i].key es[i].val:=B;show-az (vK B qv λh C L=>?_);let L:j7 it e h:=L;let C:Υ h it d (i+1) es.size ep es[i].key es[i].val G.Y:=C;show-az (vK C qv λp D N=>?_);let N:j7 it h p:=N;let D:Υ p it d (i+1) es.size ep es[i].key es[i].val G.Y:=D;let all:∀b u,b≠it->J.get? b=ja u->p.get? b=ja u:=λb u f q=>N.extBut b u f (L.extBut b u f (K.extBut b u f (I.extBut b u f q)));show-az (AF (bu (bu #[1,bu (U p D (all _ _ (wq H) P) λb u f q=>all b u f (R b u f q))])))
def amD{Q:Option a5->aS->Prop}(l:A.handled=jp)(c:yi s.heap it d i es.size ep ok g7)(p:nL s.heap d es ep)(r:es.size<=i)(n:∀g,PG it s.heap g->Q jp {s with heap:=g}):
  aQ (bj prog w) A (kE (.ref it)) Q E s:=by
 let#[o,aY,_,k]:=p;let f:s.TypeIs (.ref it) "dict_itemiterator":=#[_,c,2]
 let y:¬((c1 d==iA)=jx):=hB;let own:Jf "dict_itemiterator"=jx:=by decide
 unfold kE;show-az (AA (xY (name:=dH "__next__") f F.slot_dict_itemiterator_next (nI F.slot_dict_itemiterator_next f F.entry_dict_itemiterator_next ?_ (F.args_dict_itemiterator_next_1 _))));show-az (bu (az (az ?_)))
 first
 |show-az (YH f (bu (az (AE c rfl ?_))))
 |show-az (YJ f (bu (az (AE c rfl ?_))))
 simp only[own,if_true];change aQ _ _ (ite ((c1 d==iA)=jx) _ _) _ _ _;rw[bL y];show-az (bu (az (AB aY k ?_)));rw[bL qv];show-az (bu (az (IH aY k ?_)));rw[bL qv];show-bu ?_;simp only[show¬((i:Int)<0)from by lia,if_false,ug,OQ r];show-az ?_
 first
 |show-az (YH f (bu ?_))
 |show-az (YJ f (bu ?_))
 change aQ _ _ (DC (.ref it) 2 iA >>=_) _ _ s;show-az (DX c rfl qv ?_);change aQ _ _ (Hc (.type "StopIteration") [] >>=_) _ _ _;show-az ?_;simp only[Hc,newTuple];show-az (pC ?_ (by size_fits));show-az (m:=F8 _ _) (II (a:=iA) (by first|rfl|(simp only[F8];rfl)) (pC ?_ (by size_fits)));let t:A.in1.handled=jp:=l;simp only[raiseNew];show-az (afl ?_);rw[t];show-az (bu (YG ?_));show-az (YD (b:=jx) (T:="StopIteration") #[_,g4 _ rfl,2] adw ?_);show-bu (n _ (PH (PH (agI (A' ..)) _) _))
def aln{Q:cL}(b:s.heap.IsItemsView v d)(l:nL s.heap d es ep)(g:Q (.ref s.L) {s with heap:=s.heap.push {cls:=.type "dict_itemiterator",data:=.fields (List.toArray [.none,.bool jA,.ref d,.int 0 0,.int es.size 0,.int ep 0,.none,.none])}}):aQ (bj prog w) A (Hu (.ref v)) Q E s:=by
 let#[o1,f,_,k]:=id b;let#[o,aY,_,c]:=l;let m:¬((c1 d==iA)=jx):=hB;let own:Jf "dict_itemiterator"=jx:=by decide
 let a:=b.typeIs;show-aft a F.slot_dict_items_iter (nI F.slot_dict_items_iter a F.entry_dict_items_iter ?_ (F.args_dict_items_iter_1 _));unfold Builtin.«dict_items.__iter__» aAJ;show-az (bu (az ?_));show-az (kt f k (x:=.ref d) rfl (bu (az ?_)));unfold aAK;show-az (AB aY c (az (IH aY c ?_)));simp only[own,if_true];show-pC ?_ (by simp only[vA,sizeOk,af3,dT,hY,e5,rD];lia);show-bu #[1,"dict_itemiterator",_,#[_,g4 _ rfl,2],F.slot_dict_itemiterator_next.lookup,4];simpa[mL,af3]using g
def ahr{Q:cL}(g:(d==k7)=jA)(f:nL s.heap d es ep)(c:Q (.ref s.L) {s with heap:=s.heap.push {cls:=.type "dict_items",data:=.fields #[.ref d]}}):
  aQ (bj prog w) A (call (.builtin "dict.items") ([.ref d]:en)) Q E s:=by
 let#[o,aY,b,k]:=f;let a:s.TypeIs (.ref d) "dict":=#[o,aY,b.1]
 show-nI F.slot_dict_items a F.entry_dict_items ?_ (F.args_dict_items_1 _);unfold Builtin.«dict.items»;show-az ?_;unfold aAI;show-az (afr a ?_);show aQ _ _ (pure d) _ _ s;show-bu ?_;change aQ _ _ (O2 d >>=_) _ _ s;unfold O2;rw[bL (by rw[g];show-hB)];show-az (bu (az (pC (bu #[1,c]))))
end
section
variable{X:bA}{pins:dU}{U:al.St}{H:af}{s:aS}{a:Addr}{u u':hX}
def Js(I:Inv X pins U H s)(k:H a=ja u)(h:∀f,u≠.tup f)(i:∀y,u≠.own y)(l:fh X.prog X.w (upd H a u') s.heap a u')(j:∀f,X.ho a≠ja (.tup f))(B:∀o v,X.ho a≠ja (.fi o v))(N:∀g,X.ho a≠ja (.su g)):Inv X pins U (upd H a u') s:=by
 let d:∀{b:Addr},H b=jp->upd H a u' b=jp:=λ{b}e=>by rw[aJ (λz=>by rw[z,k]at e;cases e)];show-e
 show#[I.ok,I.os,I.bare,#[I.base.keep,I.base.slot,λb o e n A=>d (I.base.free b o e n A),I.base.there,λb f e=>?_,λb o v e=>?_,λb g e=>?_],I.loc,I.cell,d I.free,λx c e=>d (I.oY x c e),λp K=>?_,λb o e=>?_,I.len]
 .rw[aJ (λz=>by rw[z]at e;show-j f e)];show-I.base.gZ b f e
 .rw[aJ (λz=>by rw[z]at e;show-B o v e)];show-I.base.jq b o v e
 .rw[aJ (λz=>by rw[z]at e;show-N g e)];show-I.base.jO b g e
 .let#[t,w,r,L,V]:=I.pin p K;show#[t,d w,r,L,V]
 by_cases m:b=a
 .subst m;rw[aN]at e;cases e;show-l
 rw[aJ m]at e;refine(I.bC b o e).pn (λc v _ q=>q) (λc q=>?_) λc f q=>?_
 .rw[aJ (λz=>by rw[z,k]at q;show-i _ (gN q))];show-q
 rw[aJ (λz=>by rw[z,k]at q;show-h _ (gN q))];show-q
inductive azC(bR:TE)(U:al.St)(H:af)(Q:aO):Prop where
 |mk(a:_)(kvs:_)(_:H a=ja (.dA kvs))(_:∀o,bR U (upd H a (.fi o (.dA kvs))) λv H'=>H' a=ja (.fi o (.dA kvs))/\Q v (upd H' a (.dA kvs)))
def aqq(T:a' X e G):a' X e (azC G):=by
 intro pins s U H Q I h;let#[a,d,f,h]:=h;let V:∀g,X.ho a≠ja (.tup g):=λg z=>by have:=I.base.gZ a g z;rw[f]at this;cases this
 let i:∀o v,X.ho a≠ja (.fi o v):=λo v z=>by have:=I.base.jq a o v z;rw[f]at this;cases this
 let N:∀A,X.ho a≠ja (.su A):=λA z=>by let#[m,e]:=I.base.jO a A z;rw[f]at e;cases e
 let#[z,y,g,r,o,R,P,e,c]:=I.bC a _ f;let xv:∀{H':af}{b:Addr}{K:aL},H b=ja (.tup K)->upd H a (.fi o (.dA d)) b=ja (.tup K):=λ{H' b K}q=>by rw[aJ (λw=>by rw[w,f]at q;cases q)];show-q
 let F:Inv X pins U (upd H a (.fi o (.dA d))) s:=Js I f (by intro _ w;cases w) (by intro _ w;cases w) #[e,z,y,g,b9.ju r λp q w=>#[w.1,xv (H':=H) w.2.1,w.2.2],o,R,P,e,c] V i N;show-bT (T pins s U _ _ F (h o)) λv s1 Y=>?_;let#[x,j,L,O,n,J]:=Y;let#[aG,D,Z,k,M,o1,C,B,E,n4]:=L.bC a _ n;show#[x,upd j a (.dA d),Js L (u':=.dA d) n (by intro _ w;cases w) (by intro _ w;cases w) #[D,Z,k,b9.ju M λp q w=>#[w.1,4,w.2.2],o1,C,B,E,n4] V i N,O,J];let l:=w.2.1;rw[aJ (λt=>by rw[t,n]at l;cases l)];show-l
end
def PM(a:Addr)(o:Obj)(c:List (List bU×V)):ff:=
 #[λi H=>H a=ja (.fi o (.dA c))/\i<c.Z,λi H v H'=>∃p b k x,H p=jp/\v=.ref p/\c[i]?=ja (k,x)/\H b=ja (.tup (k.map ec))/\H'=upd H p (.tup [.ref b,x]),λi H=>H a=ja (.fi o (.dA c))/\c.Z<=i]
def Pm{H:af}{h:Heap}{o:Obj}{d:List (List bU×V)}(ok:gK P w H h)(z:H a=ja (.fi o (.dA d))):h.get? a=ja o/\(a==k7)=jA/\o.ExactDict/\∃c g,o.data=.dict c g/\c.size=d.Z/\
  ∀(i:Nat)(k:List bU)(x:V),d[i]?=ja (k,x)->∃b v,(∃n:i<c.size,c[i].key=.ref b/\c[i].val=v)/\H b=ja (.tup (k.map ec))/\RelV x v:=by
 let#[L,_,y,u,r,J,c,g,A,E,G,e,_]:=ok a _ z;rw[L]at A;cases A;let M:d.Z=u.Z:=jz r;let O:c.size=u.Z:=by have:=gF wc e;simpa using this
 show#[L,y,E,c,g,G,9,λi k x n=>?_];let Q:i<d.Z:=(gM.mp n).1;let f:∀{l:List (List bU×V)}{m:List (List bU×Addr×a5)}{j:Nat}{p:List bU×V},b9 (λ(p:List bU×V)(q:List bU×Addr×a5)=>p.1=q.1/\H q.2.1=ja (.tup (p.1.map ec))/\RelV p.2 q.2.2) l m->l[j]?=ja p->∃q,m[j]?=ja q/\p.1=q.1/\H q.2.1=ja (.tup (p.1.map ec))/\RelV p.2 q.2.2:=λ{l m j p}R=>by
  induction R generalizing j with
  |nil=>intro h;simp at h
  |cons a t C=>
   cases j with
   |zero=>intro h;simp at h;subst h;show#[1,a]
   |succ j=>intro h;simp at h;simpa using C h
 let#[q,F,_,D,B]:=f r n;let s:i<c.size:=by lia
 let K:c[i]=F1 (xK (jD P w)) q:=by
  let N:c.G[i]?=ja (F1 (xK (jD P w)) q):=by rw[e,ea,F];rfl
  let I:c.G[i]?=ja c[i]:=by simp[s]
  rw[I]at N;show-gN N
 show#[q.2.1,q.2.2,#[s,by rw[K];rfl,by rw[K];rfl],D,B]
def ahs{K:aI}{k:Nat}{o:Obj}{n:List (List bU×V)}{Z:Array pG}{Y:Nat}(a d:Addr)(L:o.data=.dict Z Y):
  Turn P w K (.Tuple elts k pos) (PM a o n) [d] d (λi h=>∃x y,yi h d a i Z.size Y x y)where
 mem:=by simp
 obj:=λi h st b m=>by
  let#[x,y,f]:=st;let q:b=d:=by simpa using m
  subst q;show#[_,f,λv z=>by
   let C:Pb _=Ew v:=z;cases C]
 keep:=λi h h' st dm=>by let#[x,y,f]:=st;show#[x,y,dm d qv _ f]
 item:=by
  intro X F M G R i g s U H E I A st J;subst F M G;let#[x0,B,f]:=st;let#[j,hi]:=J;let#[go,_,oc,tk,qE,p,cC,ge]:=Pm I.bC j;rw[L]at p;cases p;obtain⟨l,y'⟩:∃q,n[i]?=ja q:=#[_,ew hi]
  let#[b,v,#[w9,e_,ev],m,cZ]:=ge i l.1 l.2 y';let#[D,f1,f2,T,f4,fU]:=A d qv;show-amC f #[o,go,oc,L] w9 λai aY kp aU=>#[1,4]
  show-wpAny_letOwnedTupleGo_items aY λt Gu N=>?_;let N:j7 d ai t:=N;rw[e_,ev]at kp;let hn:H s.L=jp:=I.fresh;let r:d<s.L:=dO f;let sf:∀c u,c∉[d]->s.heap.get? c=ja u->t.get? c=ja u:=λc u O q=>by let Q:c≠d:=λz=>O (by simp[z]);exact(N.2 c Q).trans (aU c u Q q)
  let zl:t.get? s.L=ja {cls:=.type "tuple",data:=.seq (List.toArray [.ref b,v])}:=(N.2 _ (wq r)).trans kp;show#[.ref s.L,upd H s.heap.objs.size (.tup [.ref b,l.2]),4,2,#[s.L,b,l.1,l.2,hn,2,y',m,2],#[6,Gu],λc O=>?_]
  .show Inv X g U (upd H s.heap.objs.size (.tup [.ref b,l.2])) {s with heap:=t,gens:=s.gens,drawn:=s.drawn,toks:=s.toks};show-Zf I A sf zl (.cons rfl (.cons cZ .nil))
  let C:c=d:=by simpa using O
  subst C;rwa[aJ (fH r)]
 done:=by intro X F M G R i g s U H E I A st J;subst F M G;let#[x0,B,f]:=st;let#[j,hi]:=J;let#[go,_,oc,tk,qE,p,cC,ge]:=Pm I.bC j;rw[L]at p;cases p;let#[D,f1,f2,T,f4,fU]:=A d qv;exact amD (I.ok.hd R) f #[o,go,oc,L] jQ λh' dx=>#[2,I.turned (t':=s.toks) (λb o m e=>dx b o m e) D f1 T f4 fU]
 self:=λ_ _ _ _ _ st h=>by let#[x,y,f]:=st;show-PySem.W.kcp_self f h
section
variable{X:bA}{elts:hO}{k:Nat}{Ap:Pos}
def aoI(d:TE):eG:=λU H R=>d U H λx c=>∃a o b,x=.ref a/\c a=ja (.fi o (.dA b))/\R (PM a o b) c
def alo{r t:Pos}(aY:a' X o j)(y:BW o "items" X.env (eval o X.env)=eval o X.env:=by rfl)(K:(r.endLine==t.line)=jx:=by rfl):
  m1 X (.Tuple elts k Ap) (.Call (.Attribute o "items" r) [] [] t) (aoI j):=by
 intro f s U H R I h;show-wpAny_Call_method0_late y K (bT (aY f s U H _ I h) λv c u=>?_);let#[x,n,p,i,a,g,B,q,L,V]:=u;subst q;cases i;let#[go,A,oc,es,ep,m,C,D]:=Pm p.bC L;show#["dict","dict.items",Qx,PySem.F.slot_dict_items,PySem.F.type_dict_items,#[g,go,oc.1],λb e=>?_,Jh rfl (PySem.evalArgs_none ?_)]
 .cases e;show#[g,go,oc.2.1]
 show-ahr A #[g,go,oc,m] ?_;let w:∀b o,c.heap.get? b=ja o->(c.heap.push {cls:=.type "dict_items",data:=.fields #[.ref a]}).get? b=ja o:=λb o e=>d8 _ e;show-aln (d:=a) (es:=es) (ep:=ep) #[_,g4 _ rfl,2,2] #[g,w _ _ go,oc,m] ?_;let l:Inv X f U n {c with heap:=c.heap.push {cls:=.type "dict_items",data:=.fields #[.ref a]}}:=p.kept (t':=c.toks) w;show#[(c.heap.push {cls:=.type "dict_items",data:=.fields #[.ref a]}).objs.size,[(c.heap.push {cls:=.type "dict_items",data:=.fields #[.ref a]}).objs.size],6,n,2,l.kept (t':=c.toks) λb o e=>d8 _ e,ahs a _ m,#[.none,.none,g4 _ rfl],λb N=>?_,V];let z:b=(c.heap.push {cls:=.type "dict_items",data:=.fields #[.ref a]}).objs.size:=by simpa using N
 subst z;show-l.tm (cy _) (l.bC.fresh (cy _))
end
section
variable{prog:cx}{w:b0}{A:et}{E:cL}{s:aS}{it d:Addr}{i ep:Nat}{es:Array pG}
def Ś{Q:Option a5->aS->Prop}(b:s.heap.IsKeyIter it d i es.size ep)(p:nL s.heap d es ep)(r:i<es.size)(n:∀g,g.IsKeyIter it d (i+1) es.size ep->j7 it s.heap g->Q (ja es[i].key) {s with heap:=g}):aQ (bj prog w) A (kE (.ref it)) Q E s:=by
 let#[m,f,l,c]:=id b;let#[o,aY,_,k]:=p;let a:=b.typeIs;let t:¬((c1 d==iA)=jx):=hB;let own:Jf "dict_keyiterator"=jA:=by decide
 unfold kE;show-az (AA (xY (name:=dH "__next__") a F.slot_dict_keyiterator_next (nI F.slot_dict_keyiterator_next a F.entry_dict_keyiterator_next ?_ (F.args_dict_keyiterator_next_1 _))));show-az (bu (az (az ?_)))
 first
 |show-az (YI a (bu (az (AE f c ?_))))
 |show-az (YK a (bu (az (AE f c ?_))))
 simp only[own,AV,if_false];change aQ _ _ (ite ((c1 d==iA)=jx) _ _) _ _ s;rw[bL t];show-az (bu (az (AB aY k ?_)));rw[bL qv];show-az (bu (az (IH aY k ?_)));rw[bL qv];show-bu ?_;simp only[show¬((i:Int)<0)from by lia,if_false,ug,Zs r];show-az ?_
 first
 |show-az (YI a (bu (az (afm a ?_))))
 |show-az (YK a (bu (az (afm a ?_))))
 change aQ _ _ (DC (.ref it) 1 (mL ((i:Int)+1)) >>=_) _ _ s;show-az (DX f c qv ?_);let next:(s.heap.update it (Bv (·.setIfInBounds 1 (mL ((i:Int)+1))))).IsKeyIter it d (i+1) es.size ep:=
  #[_,yf _ f (Đ (E8 c _)),(aiZ ..).trans l,by simp[E8 c,mL]]
 show-az (mR (az (afm (s:={s with heap:=s.heap.update it (Bv (·.setIfInBounds 1 (mL ((i:Int)+1))))}) next.typeIs ?_)));show-bu (bu #[1,bu (n _ next (A' ..))])
def ă{Q:Option a5->aS->Prop}(r:A.handled=jp)(f:s.heap.IsKeyIter it d i es.size ep)(y:nL s.heap d es ep)(K:es.size<=i)(t:∀l,PG it s.heap l->Q jp {s with heap:=l}):
  aQ (bj prog w) A (kE (c1 it)) Q E s:=by
 let#[p,k,V,g]:=id f;let#[o,aY,_,n]:=y;let c:=f.typeIs;let N:¬((c1 d==iA)=jx):=hB;let own:Jf "dict_keyiterator"=jA:=by decide
 unfold kE;show-az (AA (xY (name:=dH "__next__") c F.slot_dict_keyiterator_next (nI F.slot_dict_keyiterator_next c F.entry_dict_keyiterator_next ?_ (F.args_dict_keyiterator_next_1 _))));show-az (bu (az (az ?_)))
 first
 |show-az (YI c (bu (az (AE k g ?_))))
 |show-az (YK c (bu (az (AE k g ?_))))
 simp only[own,AV,if_false];change aQ _ _ (ite ((c1 d==iA)=jx) _ _) _ _ s;rw[bL N];show-az (bu (az (AB aY n ?_)));rw[bL qv];show-az (bu (az (IH aY n ?_)));rw[bL qv];show-bu ?_;simp only[show¬((i:Int)<0)from by lia,if_false,ug,OQ K];show-az ?_
 first
 |show-az (YI c (bu ?_))
 |show-az (YK c (bu ?_))
 change aQ _ _ (DC (.ref it) 0 iA >>=_) _ _ s;show-az (DX k g qv ?_);change aQ _ _ (Hc (.type "StopIteration") [] >>=_) _ _ _;show-az ?_;simp only[Hc,newTuple];show-az (pC ?_ (by size_fits));show-az (m:=F8 _ _) (II (a:=iA) (by first|rfl|(simp only[F8];rfl)) (pC ?_ (by size_fits)));let L:A.in1.handled=jp:=r;simp only[raiseNew];show-az (afl ?_);rw[L];show-az (bu (YG ?_));show-az (YD (b:=jx) (T:="StopIteration") #[_,g4 _ rfl,2] adw ?_);show-bu (t _ (PH (PH (agI (A' ..)) _) _))
def Ć{Q:cL}(k:(d==k7)=jA)(g:nL s.heap d es ep)(f:Q (.ref s.L) {s with heap:=s.heap.push {cls:=.type "dict_keyiterator",data:=.fields (List.toArray [.ref d,.int 0 0,.int es.size 0,.int ep 0])}}):aQ (bj prog w) A (Hu (.ref d)) Q E s:=by
 let#[o,aY,c,b]:=g;let a:s.TypeIs (.ref d) "dict":=#[o,aY,c.1]
 show-aft a F.slot_dict_iter (nI F.slot_dict_iter a F.entry_dict_iter ?_ (F.args_dict_iter_1 _));unfold Builtin.«dict.__iter__» aAG;show-az (az (afr a ?_));change aQ _ _ (pure (c1 d)) _ _ s;show-bu ?_;change aQ _ _ (O2 d >>=_) _ _ s;unfold O2;rw[bL (by rw[k];show-hB)];show-az (bu (az (AB aY b (az (IH aY b ?_)))));show-az (pC ?_);show-bu #[1,"dict_keyiterator",_,#[_,g4 _ rfl,2],F.slot_dict_keyiterator_next.lookup,4];simpa[mL]using f
def Fs{a:Type}[DecidableEq a](b:List (a×V))(k:a):List (a×V):=b.filter λp=>decide (p.1≠k)
end
theorem Z6{a d:Type}[DecidableEq a]{k:a}:∀{l:List (a×d)}{j:Nat}{v:d},(l.map (·.1)).Nodup->l[j]?=ja (k,v)->l.eraseIdx j=l.filter λp=>decide (p.1≠k)
 |[],j,v,_,h=>by simp at h
 |p::r,0,v,aC,h=>by simp only[Qd,Qr]at h;subst h;rw[hL,jj]at aC;rw[List.eraseIdx_zero,List.tail_cons,Qb];rw[bL qv];symm;rw[JR];intro q f;let b:q.1≠k:=λz=>aC.1 (cD.mpr #[q,f,z]);show-cQ b
 |p::r,j+1,v,aC,h=>by
  rw[hL,jj]at aC;let c:r[j]?=ja (k,v):=by simpa using h
  rw[List.eraseIdx_cons_succ,Qb,Z6 aC.2 c];let b:p.1≠k:=λz=>aC.1 (by rw[z];show-cD.mpr #[_,eX c,2]);rw[b2 (cQ b)]
section
variable{prog:cx}{w:b0}{K:Type}[DecidableEq K]{knd:HeapKind prog w K}{A:et}{E:cL}{s:aS}
def agP{b:List (K×Addr×a5)}{k:K}{Q:Option pG->aS->Prop}(y:knd.room A)(r:knd.is s.heap k a)(hm:s.heap.DictOfH knd d b)(hz:b.Z<=sizeLine)(V:(∀(j:Nat)(p:Addr×a5),b[j]?≠ja (k,p))->Q jp {s with toks:=s.toks+knd.draws k})(e:∀(j:Nat)(p:Addr×a5),b[j]?=ja (k,p)->∀n,n.DictOfH knd d (b.eraseIdx j)->j7 d s.heap n->Q (ja (F1 knd (k,p))) {s with heap:=n,toks:=s.toks+knd.draws k}):
  aQ (bj prog w) A (af2 d (.ref a)) Q E s:=by
 let#[o,c,C,aY,z,f,g,t,L]:=hm;let hsz:c.size=b.Z:=azh g;unfold af2
 try with_reducible show-mR ?_
 show-az (knd.pyHash y r (az (wpAny_dictFind_heap (s:={s with toks:=s.toks+knd.draws k}) y r aY f g t L (λB=>?_) λj p m=>?_)))
 .exact bu (V B)
 let D:j<b.Z:=(gM.mp m).1;let N:c[j]?=ja (F1 knd (k,p)):=by
  let h:c.G[j]?=ja (F1 knd (k,p)):=by rw[g,ea,m];rfl
  simpa using h
 show-az (AB (s:={s with toks:=s.toks+knd.draws k}) aY f ?_);rw[N];show-az (wpAny_updateDictKeys (hz:=by lia) (s:={s with toks:=s.toks+knd.draws k}) aY f (bu (e j p m _ #[6,C+1,yf _ aY (Obj.isFreed_of_dict (ai0 f _)),z.mapDictKeys _,ai0 f _,4,4,4] (A' ..))))
 .let q:(c.eraseIdxIfInBounds j).toList=c.toList.eraseIdx j:=by let#[l]:=c;simp
  rw[q,g];apply Qa;intro i;simp only[List.getElem?_eraseIdx,ea];split<;>rfl
 .intro x u;show-knd.keeps (t x (List.mem_of_mem_eraseIdx u)) aY f (A' ..)
 show-List.Nodup.sublist ((List.eraseIdx_sublist b j).map _) L
def amE{b:List (K×Addr×a5)}{k:K}{Q:cL}(n:(d==k7)=jA)(h:knd.room A.in1)(y:knd.is s.heap k a)(hm:s.heap.DictOfH knd d b)(x:b.Z<=sizeLine)(l:(∀(j:Nat)(p:Addr×a5),b[j]?≠ja (k,p))->∀t,Q r {s with toks:=t})(L:∀(j:Nat)(p:Addr×a5),b[j]?=ja (k,p)->∀c t,c.DictOfH knd d (b.eraseIdx j)->j7 d s.heap c->Q p.2 {s with heap:=c,toks:=t}):
  aQ (bj prog w) A (call (.builtin "dict.pop") [.ref d,.ref a,r]) Q E s:=by
 let#[o,g,D,aY,N,q,u,C,G]:=id hm;let m:s.TypeIs (.ref d) "dict":=#[o,aY,N.1]
 show-nI F.slot_dict_pop m F.entry_dict_pop ?_ (F.args_dict_pop_3 _ _ _);unfold Builtin.«dict.pop» aAH;show-az (az (afr m ?_));change aQ _ _ (pure (d,c1 a,ja r)) _ _ s;show-bu ?_;dsimp only;rw[bL (by simp[keyPart])];show-az (AB aY q (az (bu ?_)));let hsz:g.size=b.Z:=azh u;by_cases f:g.isEmpty=jx
 .rw[b2 f];let B:b=[]:=by
   have:g.size=0:=by simpa[Array.isEmpty]using f
   show-Bd.mp jQ
  show-az (xZ (az (bu ?_)));rw[b2 (show(jp:Option pG).isNone=jx from rfl)];show-az (aAc n (az (xZ (bu #[1,4]))));show-l (λj p=>by rw[B];simp) s.toks
 rw[bL f];show-az (agP h y hm x (λe=>?_) λj p V c i z=>?_)
 .rw[b2 (show(jp:Option pG).isNone=jx from rfl)];show-az (aAc n (az (xZ (bu #[1,l e _]))))
 rw[bL qv];show-az (AF (bu #[1,L j p V c _ i z]))
end
section
variable{X:bA}{o e f:Expr}{eU ty qe:TE}{fS gu:Pos}
def aoJ(eU ty qe:TE):TE:=λU H Q=>eU U H λx g=>∃a,x=.ref a/\EF g a/\ty U g λy l=>qe U l λz d=>∃c k b,y=.ref b/\d a=ja (.dA c)/\d b=ja (.tup (k.map ec))/\Q ((dV c k).getD z) (upd d a (.dA (Fs c k)))
def alp(cq:X.A.units+1<cLine)(aY:a' X o eU)(he:a' X e ty)(bG:a' X f qe)(m:M2 X o "pop" fS e f gu):a' X (.Call (.Attribute o "pop" fS) [e,f] [] gu) (aoJ eU ty qe):=by
 intro r s U H Q I h;show-afi m.base m.dy m.line Qx PySem.F.slot_dict_pop PySem.F.type_dict_pop (bT (aY r s U H _ I h) λu s1 B=>?_);let#[x,H1,T,bD,a,ex,d,bV]:=B;subst ex;obtain rfl:u=c1 a:=bD;let#[t1,fq,_]:=PO T d;show#[t1,fq,4];rw[m.trees];refine Jh rfl (Ji (Eu (bT (he r s1 U H1 _ T bV) λnu s2 B=>?_)));let#[y,ag,bM,cP,dj]:=B;show-Eu (bT (bG r s2 U ag _ bM dj) λacd s3 B=>?_);let#[z,A,E,Dx,g,k,b,dk,D,dx,q]:=B;show-O' ?_;subst dk;obtain rfl:nu=c1 b:=cP;let#[nJ,hs,F,n,dd]:=aam E.bC D;let G:F.Z<=sizeLine:=by rwa[<-jz n]
 let kZ:g.map (·.1)=F.map (·.1):=by
  have:∀{l:List (List bU×V)}{m:List (List bU×Addr×a5)},KT A l m->l.map (·.1)=m.map (·.1):=λ{l m}R=>by
   induction R with
   |nil=>rfl
   |cons a t i=>rw[hL,hL,i,a.1]
  show-this n
 let P:(g.map (·.1)).Nodup:=by let#[6,6,6,6,O]:=id dd;rwa[kZ]
 let C:∀{l:List (List bU×V)}{m:List (List bU×Addr×a5)}{j:Nat}{q:List bU×Addr×a5},KT A l m->m[j]?=ja q->∃p,l[j]?=ja p/\p.1=q.1/\RelV p.2 q.2.2:=λ{l m j q}R=>by
  induction R generalizing j with
  |nil=>intro h;simp at h
  |cons a t i=>
   cases j with
   |zero=>intro h;simp at h;subst h;show#[1,a.1,a.2.2]
   |succ j=>intro h;simp at h;simpa using i h
 show-amE (knd:=xK (jD X.prog X.w)) hs (NY cq) (D4 E.bC dx) dd G (λcb t=>?_) λj p bJ h' t oW r5=>?_
 .let v0:dV g k=jp:=by
   let jN:=KT.val n k;rw[atKey_none_of_get cb]at jN;cases K:dV g k with
   |none=>rfl
   |some v=>rw[K]at jN;show-jN.elim
  let Ni:Fs g k=g:=by
   unfold Fs;rw[JR];intro p aw;have:(g.any λcA=>decide (cA.1=k))=jA:=by rw[qO,v0];rfl
   let jI:p.1≠k:=λz=>by rw[ahN]at this;show-this p aw (cQ z)
   show-cQ jI
  rw[v0,Ni]at q;let dB:upd A a (.dA g)=A:=by
   funext c;by_cases Z:c=a
   .rw[Z,aN,D]
   rw[aJ Z]
  rw[dB]at q;show#[z,A,E.tok t,Dx,q]
 let#[M,UP,e_,Xh]:=C n bJ;let O:(F.map (·.1)).Nodup:=kZ▸P;let N:=KT.val n k;rw[atKey_of_get O bJ]at N;obtain⟨L,K,cZ⟩:∃L,dV g k=ja L/\RelV L p.2:=by
  cases K:dV g k with
  |none=>rw[K]at N;show-N.elim
  |some L=>rw[K]at N;show#[L,2,N]
 let ep:Fs g k=g.eraseIdx j:=(Z6 P (v:=M.2) (by rw[UP,show M=(k,M.2)from BA e_ rfl])).symm;rw[K,ep]at q;let h2:∀{l:List (List bU×V)}{m:List (List bU×Addr×a5)}(j:Nat),KT A l m->KT A (l.eraseIdx j) (m.eraseIdx j):=λ{l m}j R=>by
  induction R generalizing j with
  |nil=>show-.nil
  |cons a t i=>
   cases j with
   |zero=>show-t
   |succ j=>show-.cons a (i j)
 let#[ob,es,qE,Y,ak,aV,cT,_,eA]:=oW;show#[L,_,IC (t':=t) (ob:=.dA (g.eraseIdx j)) E (by rw[D];show-nX) r5 #[ob,Y] #[4,hs,F.eraseIdx j,b9.ju (h2 j n) λp q w=>#[w.1,4,w.2.2],ob,es,qE,Y,ak,aV,cT,eA],cZ,q]
 .exact eh (List.length_eraseIdx_le ..) nJ
 let J:=w.2.1;rw[aJ (λy=>by rw[y,D]at J;cases J)];show-J
end
section
variable{X:bA}{e:Expr}{pos:Pos}
def aqr(b:yQ)(i:Nat):tc:=λD E U H=>b (E U) U H λv a=>D.dq (U.set i (ja v)) a
def amF{i:Nat}{b:yQ}(n:X.N.Nodup)(p:X.N[i]?=ja x)(f:Loc X.env.scope x)(o:Ě X e b)(r:xH e (ja (.Name x pos')) pos.line X.env=pure jA:=by rfl)(g:X.fn x=jx\/X.env.scope.names.lookup x=ja .local:=by first|exact .inl rfl|exact .inr rfl|assumption):
  Ĝ X (.Assign [.Name x pos'] e pos) (aqr b i):=by intro a s U H D E I h;show-az0 (gB (o a s U H _ _ I h) (λv A t=>?_) λe w q=>#[U,q]) r;let#[y,c,d,m,l]:=t;show-Om d n p f m (λK k=>#[_,c,k,l]) g
end
end bX
namespace dP
open PySem al bX cE
def akf{K:aI}{E:eG}{s:TE}{rest:al.St}{H1:af}{Q:aO}{kvs:List (List bU×al.V)}(P:∀R:ff->af->Prop,R (PM a o kvs) H1->E U H R)(O:hG cs U=jp::jp::rest)(q:H1 a=ja (.fi o (.dA kvs)))(J:kvs.Z<sizeLine)(f:Nat->List al.V)(N:∀(i:Nat)(k:List bU)(x:al.V)(b:Addr)(l:af)(R:aO),kvs[i]?=ja (k,x)->av H1 l->l b=ja (.tup (k.map ec))->(∀r t,av l t->t r=ja (.tup (f i))->R (.ref r) t)->s (ja (.ref b)::ja x::rest) l R)(h:∀(D:Addr)(H':af)(rs:b5),H1 D=jp->H' D=ja (.lst (bw rs))->h5 H' rs ((fk kvs.Z).map f)->av H1 H'->Q (.ref D) H'):
  jf E cs (vU K 2 (p9 (hR 0) (p9 (hR 1) yo))) oE s U H Q:=by
 show-P _ λD a8=>?_;show#[λi m j u H'=>m=kvs.Z-i/\i<=kvs.Z/\(∃rs,j=bw rs/\h5 H' rs ((fk i).map f))/\(∃o1 o2,u=o1::o2::rest)/\av H1 H'/\H' D=ja (.lst j),#[kvs.Z,by simp,ei _,#[[],2,.nil],#[jp,jp,O],λb o e=>?_,aN],4]
 .rwa[aJ (cI e a8)]
 rintro i m j u H' ⟨rfl,Y,⟨rs,rfl,L⟩,⟨o1,o2,rfl⟩,n,A⟩;let T:=L.len;rw[bQ,s6]at T;show#[A,qq (by rw[gX];lia) J,4];by_cases B:i<kvs.Z
 .refine .inr #[#[n _ _ q,B],λx l y=>?_];let#[p,b,k,C,M,2,X,G,2]:=y;let g:=b7 (o:=.tup [V.ref b,C]) M;show#[p,1,cH.of aN,2,_,1,3,4];show-N i k C b _ _ X (n.trans g) (g _ _ G) λr t w I=>#[w _ _ (g _ _ A),kvs.Z-(i+1),9,2,B,#[rs++[r],HP rs r,4],#[_,1],λc Z e=>?_,aN]
  .rw[Bh,fP];show-h5.upd (Paired.snoc (F:=λr d=>t r=ja (.tup d)) I ((L.same g).same w)) (w _ _ (g _ _ A)) (by intro d z;cases z)
  rw[aJ (cI e a8)];show-w _ _ (g _ _ (n _ _ e))
 let e:i=kvs.Z:=by lia
 subst e;show-.inl #[#[n _ _ q,cy _],h D H' rs a8 A L n]
abbrev Row:=Str×Str×Int
def jb(rs:List Row):List (List bU×al.V):=rs.map λr=>([.inr r.1,.inr r.2.1],.int r.2.2)
def jN:Row:=(pN,pN,0)
inductive aa4(C aD fQ:Addr)(vs:aL)(H:af)(Q:aO)(E:bF):Prop where
 |mk(x n t bb bh:Addr)(hs:ba)(ys:aL)(kvs:gq)(h g:Str)(_:vs=[.ref x,.str h,.str g])(_:oq C aD H x n t bb bh (dK hs) ys kvs)(_:Good hs)(_:b8 H (.str h) (.str h))(_:b8 H (.str g) (.str g))(_:(h0 (a8 hs) (.str h) (.str g)=jx->∀H',av H H'->Q ((dV kvs (h7 h g)).getD .cw) H'))(_:(h0 (a8 hs) (.str h) (.str g)=jA->∀H',av H H'->E (.ref fQ) jp H'))
section
variable{P:cx}{w:b0}{K:aI}{mg:b6}{base:Heap}
abbrev NM:Stmt:=gT (top 59) 3
def asm:cp gh gh (bW NM):=({})
def aqH{f:Addr}(F:b1 K "way" "Ways.way" NM f fd)(d:tS K C)(y:cR K C "need_pair" "Ways.need_pair" Dz gh f2 z)(M:-aA (dn P w) 2 f2 z gh (KW C aD fQ)):
  -aA (dn P w) 3 f fd gh (aa4 C aD fQ):=by
 let I:=d.cl;show-iH F asm (λ_ A _ s H vs Q E m h=>?_);let#[x,n,t,i,j,D,R,g,b,a,2,W,G,N,u,q,B]:=h;let#[l,p]:=W.ins;show#[_,(a3 (gD (fg (aa 0) I y.d5 M m.mono y.bd .nil jn (aj (aa 1) (aj (aa 2) ay))))
  (a9 (ct (Oc (kW m) (dE (aa 0)) (qW (aj (aa 1) (aj (aa 2) ay))) #[2,2,2,2])))),4]
 ac_rfl
 show#[1,x,l,1,p,7,1,x,n,t,i,j,D,_,g,.str b,.str a,.str b,.str a,2,W,G,N,u,(by show 0<=60;decide),(by show 0<=60;decide),λe O c=>?_,B];show#[1,x,C,l,_,1,c _ _ p,d.cl,d.eT,2,t,2,.inr #[_,.inl (c _ _ W.told)],5,sz_,λr J=>?_];let L:=b7 (o:=.tup [V.str b,V.str a]) J;show#[_,j4.t (k:=h7 b a) (L _ _ (c _ _ W.told)) aN,q e _ (c.trans L)]
end
end dP
namespace d3
variable{bl:Type}[DecidableEq bl]
structure ji(bl:Type)where
 a:bl
 b:bl
 t:Int
inductive Path(rs:List (ji bl))(s:bl):bl->Int->Prop
 |nil:Path rs s s 0
 |snoc{v:Int}(e:ji bl):Path rs s e.a v->e∈rs->Path rs s e.b (v+e.t)
def Path.cons{rs:List (ji bl)}(e:ji bl)(a:e∈rs){g:bl}{w:Int}(p:Path rs e.b g w):Path rs e.a g (e.t+w):=by
 induction p with
 |nil=>
  have:=Path.snoc e (Path.nil (rs:=rs) (s:=e.a)) a
  rwa [yh,<-Int.add_zero e.t]at this
 |snoc f _ i h=>
  rw[<-Int.add_assoc];show-Path.snoc f h i
def Path.first{rs:List (ji bl)}{s g:bl}{w:Int}(p:Path rs s g w):(s=g/\w=0)\/∃e∈rs,∃u,e.a=s/\Path rs e.b g u/\w=e.t+u:=by
 induction p with
 |nil=>show-.inl #[2,2]
 |@snoc v f _ h i=>
  show-.inr ?_;rcases i with⟨rfl,rfl⟩|⟨e,he,u,aG,p,rfl⟩
  .show#[f,h,0,2,.nil,9]
  show#[e,he,u+f.t,aG,.snoc f p h,9]
def Path.nonneg{rs:List (ji bl)}(a:∀e∈rs,1<=e.t){s g:bl}{w:Int}(p:Path rs s g w):0<=w:=by
 induction p with
 |nil=>show-oL _
 |snoc e _ he h=>have:=a e he;lia
structure P7(rs:List (ji bl))(s:bl)(d:bl->Option Int):Prop where
 path:∀k v,d k=ja v->Path rs s k v
 least:∀k w,Path rs s k w->∃v,d k=ja v/\v<=w
structure qn(rs:List (ji bl))(s:bl)(ns:List bl)(d:bl->Option Int):Prop where
 start:d s=ja 0
 path:∀k v,d k=ja v->Path rs s k v
 dy:∀k v,d k=ja v->v<9*(ns.countP λk=>(d k).isSome)
def ok(d:bl->Option Int)(e:ji bl):Prop:=∀v,d e.a=ja v->∃u,d e.b=ja u/\u<=v+e.t
def qn.done{rs:List (ji bl)}{s:bl}{c:List bl}{d:bl->Option Int}(m:qn rs s c d)(h:∀e∈rs,ok d e):P7 rs s d:=by
 show#[m.path,λk w p=>?_]
 induction p with
 |nil=>show#[0,m.start,oL _]
 |snoc e _ he i=>
  let#[v,b,f]:=i;let#[u,a,g]:=h e he v b;show#[u,a,9]
def put(d:bl->Option Int)(b:bl)(v:Int):bl->Option Int:=λk=>if k=b then ja v else d k
theorem count_le{p q:bl->Bool}(h:∀k,p k=jx->q k=jx):∀a:List bl,a.countP p<=a.countP q
 |[]=>by simp
 |k::r=>by let b:=count_le h r;simp only[ahQ];have:=h k;split<;>split<;>simp_all<;>lia
theorem Su{p q:bl->Bool}(h:∀k,p k=jx->q k=jx){b:bl}(a:p b=jA)(c:q b=jx):∀{ns:List bl},b∈ns->ns.countP p<ns.countP q
 |[],z=>by simp at z
 |k::r,z=>by
  simp only[ahQ];by_cases e:k=b
  .subst e;have:=count_le h r;simp[a,c]
   lia
  let d:=Su h a c (ns:=r) (by rcases dQ.mp z with z|z;show-bk z.symm e;show-z);have:=h k;split<;>split<;>simp_all<;>lia
theorem D9{f g:bl->Nat}(h:∀k,f k<=g k):∀a:List bl,(a.map f).sum<=(a.map g).sum
 |[]=>by simp
 |k::r=>by
  have:=D9 h r;have:=h k;simp only[hL,Bi]
  lia
theorem ś{f g:bl->Nat}(h:∀k,f k<=g k){b:bl}(a:f b<g b):∀{ns:List bl},b∈ns->(ns.map f).sum<(ns.map g).sum
 |[],z=>by simp at z
 |k::r,z=>by
  simp only[hL,Bi];by_cases e:k=b
  .subst e;have:=D9 h r
   lia
  let c:=ś h a (ns:=r) (by rcases dQ.mp z with z|z;show-bk z.symm e;show-z);have:=h k
  lia
def val(n:Nat):Option Int->Nat
 |none=>n
 |some v=>v.X
def dz(a:List bl)(d:bl->Option Int):Nat:=(a.map λk=>val (9*a.Z) (d k)).sum
def qn.put{rs:List (ji bl)}{s:bl}{a:List bl}{d:bl->Option Int}(m:qn rs s a d)(o:∀e∈rs,1<=e.t/\e.t<=9){e:ji bl}(c:e∈rs)(n:e.b∈a){v:Int}(g:d e.a=ja v)(f:∀u,d e.b=ja u->v+e.t<u):
  qn rs s a (put d e.b (v+e.t))/\dz a (d3.put d e.b (v+e.t))<dz a d:=by
 let N:0<=v:=(m.path _ _ g).nonneg λe c=>(o e c).1;let j:=o e c;let l:∀k w,d3.put d e.b (v+e.t) k=ja w->Path rs s k w:=λk w h=>by
  unfold d3.put at h;split at h
  .rename_i q;cases h;rw[q];show-.snoc e (m.path _ _ g) c
  show-m.path k w h
 let hm:∀k,(d k).isSome=jx->(d3.put d e.b (v+e.t) k).isSome=jx:=λk h=>by
  unfold d3.put;split
  .rfl
  show-h
 let p:∀k w,d3.put d e.b (v+e.t) k=ja w->w<9*(a.countP λk=>(d3.put d e.b (v+e.t) k).isSome):=λk w h=>by
  let L:=count_le hm a;by_cases q:k=e.b
  .let r:w=v+e.t:=by unfold d3.put at h;rw[b2 q]at h;exact(gN h).symm
   let y:=m.dy _ _ g;cases hd:d e.b with
   |some u=>
    have:=f u hd;have:=m.dy _ _ hd
    lia
   |none=>
    let i:a.countP (λk=>(d k).isSome)<a.countP λk=>(d3.put d e.b (v+e.t) k).isSome:=Su hm (b:=e.b) (by rw[hd];rfl) (by unfold d3.put;rw[b2 rfl];rfl) n
    lia
  let r:d k=ja w:=by
   unfold d3.put at h
   rwa [bL q]at h
  have:=m.dy k w r
  lia
 show#[#[4,l,p],4]
 .unfold d3.put;split
  .rename_i q;rw[<-q]at f;have:=f 0 m.start
   lia
  show-m.start
 let V:a.countP (λk=>(d3.put d e.b (v+e.t) k).isSome)<=a.Z:=ahR;let x:=p e.b (v+e.t) (by unfold d3.put;rw[b2 rfl]);let t:val (9*a.Z) (d3.put d e.b (v+e.t) e.b)<val (9*a.Z) (d e.b):=by
  let A:d3.put d e.b (v+e.t) e.b=ja (v+e.t):=by unfold d3.put;rw[b2 rfl]
  let z:((v+e.t).toNat:Int)=v+e.t:=rB jQ;rw[A];cases hd:d e.b with
  |some u=>
   have:=f u hd;show(v+e.t).toNat < u.X
   lia
  |none=>
   show(v+e.t).toNat < 9*a.Z
   lia
 show-ś (λk=>?_) (b:=e.b) t n;by_cases q:k=e.b
 .subst q;show-mZ t
 let K:d3.put d e.b (v+e.t) k=d k:=by unfold d3.put;rw[bL q]
 rw[K];show-cy _
def qn.begin{rs:List (ji bl)}{s:bl}{a:List bl}(b:s∈a):qn rs s a (λk=>if k=s then ja 0 else jp):=by
 show#[by simp,λk v h=>?_,λk v h=>?_]
 .split at h
  .rename_i q;cases h;rw[q];show-.nil
  cases h
 split at h
 .cases h;have:0<a.countP λk=>((if k=s then ja (0:Int)else jp).isSome):=ahS.mpr #[s,b,by simp]
  lia
 cases h
structure Ft(rs:List (ji bl))(f:bl->Option Int)(g:bl):Prop where
 path:∀k v,f k=ja v->Path rs k g v
 least:∀k w,Path rs k g w->∃v,f k=ja v/\v<=w
section
variable{rs:List (ji bl)}{f:bl->Option Int}{g:bl}(F:Ft rs f g)(aw:∀e∈rs,1<=e.t)
include F
def Ft.back{e:ji bl}(b:e∈rs){u:Int}(h:f e.b=ja u):∃v,f e.a=ja v/\v<=u+e.t:=by let#[v,a,c]:=F.least _ _ (Path.cons e b (F.path _ _ h));show#[v,a,9]
include aw in
def Ft.goal:f g=ja 0:=by
 let#[v,a,b]:=F.least g 0 .nil;have:=(F.path _ _ a).nonneg aw;rw[a];congr 1
 lia
include aw in
def Ft.other{k:bl}{v:Int}(c:k≠g)(h:f k=ja v):1<=v/\∃e∈rs,∃u,e.a=k/\f e.b=ja u/\v=u+e.t:=by
 rcases(F.path _ _ h).first with⟨e,_⟩|⟨e,he,u,rfl,p,rfl⟩
 .exact bk e c
 let l:=p.nonneg aw;let m:=aw e he;let#[d,a,n]:=F.least _ _ p;let#[r,b,o]:=F.back he a;rw[h]at b;cases b;show#[9,e,he,d,2,a,9]
end
def Path.min{rs:List (ji bl)}(b:∀e∈rs,1<=e.t){s g:bl}:∀(n:Nat)(w:Int),w.X=n->Path rs s g w->∃v,Path rs s g v/\(∀u,Path rs s g u->v<=u):=by
 intro n
 induction n using aiL with
 |_ n i=>
  intro w f p;by_cases h:∃u,Path rs s g u/\u<w
  .let#[u,a,d]:=h;let c:=a.nonneg b;exact i u.toNat jQ u rfl a
  show#[w,p,λu a=>?_];by_cases q:w<=u
  .exact q
  show-bk #[u,a,9] h
open Classical in
def dist(rs:List (ji bl))(s g:bl):Option Int:=if h:∃v,Path rs s g v/\∀u,Path rs s g u->v<=u then ja (agg h)else jp
def abS{rs:List (ji bl)}{s:bl}{d:bl->Option Int}(L:P7 rs s d)(g:bl):d g=dist rs s g:=by
 unfold dist;cases hd:d g with
 |some v=>
  let p:=L.path g v hd;let k:∀u,Path rs s g u->v<=u:=λu m=>by let#[n,f,l]:=L.least g u m;rw[hd]at f;cases f;show-l
  let h:∃v,Path rs s g v/\∀u,Path rs s g u->v<=u:=#[v,p,k]
  rw[dif_pos h];let c:=O_ h;congr 1;let a:=k _ c.1;let b:=c.2 _ p
  lia
 |none=>
  let h:¬∃v,Path rs s g v/\∀u,Path rs s g u->v<=u:=λ⟨v,p,_⟩=>by let#[n,f,_]:=L.least g v p;rw[hd]at f;cases f
  rw[dif_neg h]
def LG{rs:List (ji bl)}(a:∀e∈rs,1<=e.t)(g:bl):Ft rs (λk=>dist rs k g) g:=by
 show#[λk v h=>?_,λk w p=>?_]
 .unfold dist at h;split at h
  .rename_i q;cases h;exact(O_ q).1
  cases h
 let q:=p.min a _ _ rfl;show∃v,dist rs k g=ja v/\v<=w;unfold dist;rw[dif_pos q];show#[1,(O_ q).2 _ p]
end d3
namespace dP
open PySem al bX cE
def dc(a:ba)(d:cE.f9):d3.ji Str:=#[S (a.getD d.a []),S (a.getD d.b []),d.t]
def jY(a:ba)(ds:cY):List (d3.ji Str):=ds.map (dc a)
structure Tab(kvs:List (bU×al.V))(D:m8):Prop where
 at_:∀k:Str,dV kvs (f' k:bU)=(D k).map V.int
 ks:∀cA∈kvs,∃k:Str,cA.1=(f' k:bU)
def amG{c:List (bU×al.V)}(h:∀a∈c,∃k:Str,a.1=(f' k:bU))(b:Str)(v:al.V):∀a∈gy c (f' b:bU) v,∃k:Str,a.1=(f' k:bU):=by
 intro a d;unfold gy at d;split at d
 .let#[q,g,e]:=cD.mp d;let#[k,f]:=h q g;split at e
  .show#[k,by rwa[<-e]]
  show#[k,by rwa[<-e]]
 rcases iM.mp d with z|z
 .exact h a z
 show#[b,by rw[d2.mp z]]
theorem Tab.put{a:List (bU×al.V)}{D:m8}(T:Tab a D)(b:Str)(v:Int):Tab (gy a (f' b:bU) (.int v)) (d3.put D b v):=#[λk=>by
 rw[Iq];unfold d3.put;by_cases h:k=b
 .rw[b2 h,b2 (gF f' h)];rfl
 rw[bL h,bL λz=>h (QK z)];show-T.at_ k,amG T.ks b _]
def Κ{b:Type}[DecidableEq b]{a:List (b×al.V)}{k:b}(v:al.V)(h:dV a k=ja u):(gy a k v).Z=a.Z:=by unfold gy;rw[b2 (by rw[qO,h];rfl),bQ]
def Af(D:m8)(e:d3.ji Str):Bool:=match D e.a with
 |none=>jA
 |some v=>match D e.b with
  |none=>jx
  |some u=>decide (v+e.t<u)
def ags{D:m8}{e:d3.ji Str}(h:Af D e=jx):∃v,D e.a=ja v/\∀u,D e.b=ja u->v+e.t<u:=by
 unfold Af at h;cases aB:D e.a with
 |none=>rw[aB]at h;cases h
 |some v=>
  rw[aB]at h;show#[v,2,λu a=>?_];rw[a]at h;show-j2 h
def afW{D:m8}{e:d3.ji Str}(h:Af D e=jA):d3.ok D e:=by
 intro v a;unfold Af at h;rw[a]at h;cases ae:D e.b with
 |none=>rw[ae]at h;cases h
 |some u=>
  rw[ae]at h;show#[u,2,by have:=of_decide_eq_false h;lia]
def Fu:Option Int->al.V
 |none=>.cw
 |some v=>.int v
def amH(o:Option Int):(o.map V.int).getD .cw=Fu o:=by cases o<;>rfl
inductive ć(vs:aL)(H:af)(Q:aO)(fE:bF):Prop where
 |mk(r f:Addr)(hs:ba)(d:cE.f9)(kvs:List (bU×al.V))(D:m8)(_:vs=[.ref r,.ref f])(_:H r=ja (.tup (nA hs d)))(_:H f=ja (.cO kvs))(_:Tab kvs D)(_:Q (.aX (Af D (dc hs d))) H)
inductive Pn(K:aI)(vs:aL)(H:af)(Q:aO)(fE:bF):Prop where
 |mk(b:Addr)(hs:ba)(rs:b5)(ds:cY)(h:Str)(_:vs=[.ref b,.str h])(_:aM K H b (bw rs))(_:gO H hs rs ds)(_:hs.Z<=12)(_:h∈hs.map S)(_:∀(p:Addr)(H':af)(kvs:List (bU×al.V))(D:m8),H p=jp->av H H'->H' p=ja (.cO kvs)->Tab kvs D->d3.P7 (jY hs ds) h D->Q (.ref p) H')
section
variable{P:cx}{w:b0}{K:aI}{mg:b6}{base:Heap}
abbrev JA:Stmt:=top 55
abbrev El:Stmt:=top 56
def amI:cp Bq Bq (bW JA):=({})
def DR:cp ["roads","house","found","changed","road"] yG (bW El):=({})
def alq{f:Addr}(F:b1 K "is_shorter_by" "is_shorter_by" JA f fd):-aA a6 1 f fd Bq ć:=by
 show-F.ok amI (λ_ A _ s H vs Q E c h=>?_);let#[r,l,a,d,t,D,2,b,n,T,q]:=h;show#[_,(a3 (eu (Ja (YO (kW c) (ck eN (aa 0) bt) (aa 1))) (a9 (ct nv)) eH)
  (a9 (ct (apT (aol (YO (kW c) (ck eN (aa 0) bt) (aa 1))) (qV (oi vG (c5 p3 (xA (kW c) (aa 1) (ck eN (aa 0) bt) (λ_ _=>rfl)) (ck eN (aa 0) bt)) (xA (kW c) (aa 1) (ck eN (aa 0) bt) (λ_ _=>rfl)) (e9 _))))))),4]
 ac_rfl
 let L:=T.at_ (S (a.getD d.a []));let y:=T.at_ (S (a.getD d.b []));let g:=j4.k (k:=f' (S (a.getD d.a []))) n;let m:=j4.k (k:=f' (S (a.getD d.b []))) n;rw[L]at g;rw[y]at m;unfold Af at q;let o:(dc a d).a=S (a.getD d.a []):=rfl;let p:(dc a d).b=S (a.getD d.b []):=rfl;rw[o,p]at q;show#[1,r,_,3,cH.of b,7,l,1,g,1,4];cases aB:D (S (a.getD d.a []))with
 |none=>
  rw[aB]at q;show-hb q
 |some v=>
  rw[aB]at q g;show-gV ?_;show#[1,r,_,3,cH.of b,7,l,1,m,1,4];cases ae:D (S (a.getD d.b []))with
  |none=>
   rw[ae]at q;show-hb q
  |some u=>
   rw[ae]at q m;show-gV ?_;show#[5,r,_,3,cH.of b,2,l,1,g,1,r,_,3,cH.of b,2,3,5,r,_,3,cH.of b,2,l,1,m,3,q]
inductive asn(b p:Addr)(h':Str)(hs:ba)(ds:cY)(H:af)(m:Nat)(U:al.St)(cn:af):Prop where
 |mk(kvs:List (bU×al.V))(D:m8)(ch:Bool)(N7:lh)(_:U=[ja (.ref b),ja (.str h'),ja (.ref p),ja (.aX ch),N7])(_:av H cn)(_:cn p=ja (.cO kvs))(_:Tab kvs D)(_:kvs.Z<=(hs.map S).countP (λk=>(D k).isSome))(_:d3.qn (jY hs ds) h' (hs.map S) D)(_:ch=jA->∀e∈jY hs ds,d3.ok D e)(_:m=2*d3.dz (hs.map S) D+(if ch=jx then 1 else 0))
inductive aso(b p:Addr)(h':Str)(hs:ba)(ds:cY)(H:af)(D:m8)(i:Nat)(U:al.St)(hl:af):Prop where
 |mk(lD:List (bU×al.V))(eE:m8)(oU:Bool)(vF:lh)(_:U=[ja (.ref b),ja (.str h'),ja (.ref p),ja (.aX oU),vF])(_:av H hl)(_:hl p=ja (.cO lD))(_:Tab lD eE)(_:lD.Z<=(hs.map S).countP (λk=>(eE k).isSome))(_:d3.qn (jY hs ds) h' (hs.map S) eE)(_:(oU=jA/\eE=D/\∀j d,j<i->ds[j]?=ja d->d3.ok eE (dc hs d))\/(oU=jx/\d3.dz (hs.map S) eE<d3.dz (hs.map S) D))
inductive asp(b p:Addr)(h':Str)(hs:ba)(ds:cY)(H:af)(D:m8)(bq:al.St)(hl:af):Prop where
 |mk(lD:List (bU×al.V))(eE:m8)(oU:Bool)(vF:lh)(_:bq=[ja (.ref b),ja (.str h'),ja (.ref p),ja (.aX oU),vF])(_:av H hl)(_:hl p=ja (.cO lD))(_:Tab lD eE)(_:lD.Z<=(hs.map S).countP (λk=>(eE k).isSome))(_:d3.qn (jY hs ds) h' (hs.map S) eE)(_:(oU=jA/\eE=D/\∀e∈jY hs ds,d3.ok eE e)\/(oU=jx/\d3.dz (hs.map S) eE<d3.dz (hs.map S) D))
def alr{f fs:Addr}(F:b1 K "least_turns_from" "least_turns_from" El f fd)(Ce:bO K mg "is_shorter_by" JA Bq fs Z)(WT:-aA a6 1 fs Z Bq ć):
  -aA a6 2 f fd yG (Pn K):=by
 show-F.ok DR (λ_ A _ s H vs Q E Y h=>?_);let#[b,a,rs,ds,g,2,ae,cW,dy,hm,q]:=h;show#[_,(a3 (dg 2 DR.aC (amr (aky (aa 1) bt amq) rfl rfl (by intro z;cases z) qc))
  (a3 (dg 3 DR.aC nv)
  (a3 (Zd lT (jE (aa 3))
   (a3 (dg 3 DR.aC nv)
  (a9 (l6 lT rfl (hF (aa 0)) (ed 4 DR.aC)
   (a9 (eu (jE (dp WT Ce Y.mono cd (aj (aa 4) (aj (aa 2) ay)))) (a3 (Ph (kW Y) (aa 2) (ck eN (aa 4) bt) (c5 p3 (xA (kW Y) (aa 2) (ck eN (aa 4) bt) (λ_ _=>rfl)) (ck eN (aa 4) bt)) rfl)
  (a9 (dg 3 DR.aC nv))) eH))))))
  (a9 (ct (aa 2)))))),4]
 ac_rfl
 let awh:∀e∈jY a ds,1<=e.t/\e.t<=9:=λe he=>by let#[d,B,2]:=cD.mp he;exact(cW.ok d B).t
 refineλp aw=>#[1,aN,[(f' g,.int 0)],2,(by show 1<=15;decide),4]
 let dB:upd (upd H p (.cO [])) p (.cO (D5 [] [((f' g:bU),V.int 0)]))=upd H p (.cO [((f' g:bU),V.int 0)]):=by rw[Ou];rfl
 rw[dB];let s0:av H (upd H p (.cO [((f' g:bU),V.int 0)])):=b7 aw;let T0:Tab [((f' g:bU),V.int 0)] (λk=>if k=g then ja 0 else jp):=#[λk=>by
  by_cases z:k=g
  .rw[o3 (gF f' z.J),b2 z];rfl
  rw[pX λy=>z (QK y).symm,bL z];rfl,λcA L=>#[g,by rw[d2.mp L]]]
 let m0:d3.qn (jY a ds) g (a.map S) (λk=>if k=g then ja 0 else jp):=d3.qn.begin hm;let X:0<(a.map S).countP λk=>((if k=g then ja (0:Int)else jp).isSome):=ahS.mpr #[g,hm,by simp];show#[asn b p g a ds H,
  #[6,_,jx,jp,2,s0,aN,T0,X,m0,λz=>(nomatch z),2],4]
 rintro m U cn ⟨J,D,ch,N7,rfl,ax,L,T,len,mid,bC,rfl⟩;show#[5,4];cases ch with
 |false=>show-gV #[1,q p cn J D aw ax L T (mid.done (bC rfl))]
 |true=>
  show-hb #[asp b p g a ds H D,4,4]
  .rintro bq hl ⟨l,c,C,M,rfl,t,N,o,G,x,n⟩;show#[_,4,l,c,C,M,2,t,N,o,G,x,4,2]
   .rcases n with⟨rfl,rfl,_⟩|⟨rfl,c7⟩
    .simp
    simp
    lia
   rintro rfl;rcases n with⟨_,_,aY⟩|⟨z,_⟩
   .exact aY
   cases z
  show#[1,b,2,#[_,ax.seq ae],4];refine tC (xs:=bw rs) (aso b p g a ds H D)
   #[J,D,jA,N7,2,ax,L,T,len,mid,.inl #[2,2,λj d I _=>bk I (J_ _)]] ?_ ?_ ?_
  .rintro i bq hl hi ⟨l,c,C,M,rfl,t,_⟩;show-t.seq ae
  .rintro i z bq hl eo ⟨l,c,C,M,rfl,t,N,o,G,x,n⟩;unfold bw at eo;rw[ea]at eo;let#[r,h2,2]:=hN.mp eo;let#[d,wQ,vu,B]:=cW.get h2;let awE:dc a d∈jY a ds:=cD.mpr #[d,eX wQ,2];show#[5,r,p,a,d,l,c,2,t _ _ B,N,o,1,4];cases My:Af c (dc a d)with
   |false=>
    show-gV #[l,c,C,1,t,N,o,G,x,4];rcases n with⟨rfl,rfl,aY⟩|n
    .refine .inl #[2,2,λj d' I fm=>?_];by_cases Uq:j=i
     .subst Uq;rw[wQ]at fm;cases fm;show-afW My
     show-aY j d' jQ fm
    show-.inr n
   |true=>
    let#[v,aB,UT]:=ags My;let w2:c (S (a.getD d.a []))=ja v:=aB;let#[axG,c7]:=x.put awh awE (I7 vu.b) aB UT;let ga:=j4.k (k:=f' (S (a.getD d.a []))) N;rw[o.at_,w2]at ga;let Gp:(a.map S).countP (λk=>(c k).isSome)<=(a.map S).Z:=ahR;rw[bQ]at Gp;let O:=t _ _ B;show-hb ?_;show#[5,r,_,3,cH.of O,2,p,1,ga,1,r,_,3,cH.of O,2,3,5,r,_,3,cH.of O,2,p,1,t6.k (k:=f' (S (a.getD d.b []))) N (e8 jQ),4];show#[_,d3.put c (dc a d).b (v+(dc a d).t),jx,1,gE aw t,aN,o.put _ _,4,axG,.inr #[2,4]]
    .cases dF:c (S (a.getD d.b []))with
     |none=>
      let R:(gy l (f' (S (a.getD d.b [])):bU) (V.int (v+d.t))).Z=l.Z+1:=by rw[Ob _ (by rw[o.at_,dF];rfl),dT];rfl
      let aP:(a.map S).countP (λk=>(c k).isSome)<(a.map S).countP (λk=>(d3.put c (dc a d).b (v+(dc a d).t) k).isSome):=
       d3.Su (b:=S (a.getD d.b [])) (λk L=>by unfold d3.put;split;rfl;show-L) (by rw[dF];rfl) (by unfold d3.put;rw[b2 (show S (a.getD d.b [])=(dc a d).b from rfl)];rfl) (I7 vu.b)
      show-eh (Qm R) jQ
     |some u=>
      let R:(gy l (f' (S (a.getD d.b [])):bU) (V.int (v+d.t))).Z=l.Z:=Κ _ (by rw[o.at_,dF];rfl);let aP:(a.map S).countP (λk=>(c k).isSome)<=(a.map S).countP (λk=>(d3.put c (dc a d).b (v+(dc a d).t) k).isSome):=
       d3.count_le (λk L=>by unfold d3.put;split;rfl;show-L) _
      show-eh (Qm R) jQ
    rcases n with⟨_,rfl,_⟩|⟨_,ak⟩
    .exact c7
    show-ÿ c7 ak
  rintro bq hl ⟨l,c,C,M,rfl,t,N,o,G,x,n⟩;show#[l,c,C,M,2,t,N,o,G,x,4];rcases n with⟨rfl,rfl,aY⟩|n
  .refine .inl #[2,2,λe he=>?_];let#[d,B,2]:=cD.mp he;let#[j,I]:=qk B;show-aY j d ?_ I;let ai:=(gM.mp I).1;let ak:=cW.len;rw[gX]
   lia
  show-.inr n
end
end dP
namespace bX
open PySem PySem.Spec PyProof.Rows al
section
variable{X:bA}
def asq(d:fJ):fJ:=λD U H=>∃a b,H a=ja (.cO b)/\∀o,d #[λc H'=>H' a=ja (.fi o (.cO b))/\D.dq c (upd H' a (.cO b)),λv H'=>H' a=ja (.fi o (.cO b))/\D.gz v (upd H' a (.cO b)),λc H'=>H' a=ja (.fi o (.cO b))/\D.i8 c (upd H' a (.cO b)),λc H'=>H' a=ja (.fi o (.cO b))/\D.gd c (upd H' a (.cO b))] U (upd H a (.fi o (.cO b)))
def aoK{st:Stmt}(P:i7 X st G):i7 X st (asq G):=by
 intro d s U H D I h;let#[a,n,p,h]:=h;let i:∀N,X.ho a≠ja (.tup N):=λN z=>by have:=I.base.gZ a N z;rw[p]at this;cases this
 let j:∀o v,X.ho a≠ja (.fi o v):=λo v z=>by have:=I.base.jq a o v z;rw[p]at this;cases this
 let V:∀A,X.ho a≠ja (.su A):=λA z=>by let#[m,e]:=I.base.jO a A z;rw[p]at e;cases e
 let ok:=I.bC a _ p;let#[z,y,vs,K,o,O,M,e,c]:=id ok;let F:Inv X d U (upd H a (.fi o (.cO n))) s:=Js I p (by intro _ w;cases w) (by intro _ w;cases w) #[e,z,y,vs,K,o,O,M,e,c] i j V;let b:∀{g:al.St}{H':af}{L:aS},Inv X d g H' L->H' a=ja (.fi o (.cO n))->Inv X d g (upd H' a (.cO n)) L:=λ{g H' L}k l=>by let#[T,C,Q,t,r,o1,B,u,E,R]:=k.bC a _ l;show-Js k (u':=.cO n) l (by intro _ w;cases w) (by intro _ w;cases w) #[C,Q,t,r,o1,B,u,E,R] i j V
 show-bT (P d s U _ _ F (h o)) λf Y q=>?_;cases f with
 |next=>
  let#[g,H',k,l,q]:=q;show#[g,_,b k l,q]
 |brk=>
  let#[g,H',k,l,q]:=q;show#[g,_,b k l,q]
 |cont=>
  let#[g,H',k,l,q]:=q;show#[g,_,b k l,q]
 |ret v=>
  let#[g,x,H',k,J,l,q]:=q;show#[g,x,_,b k l,J,q]
def RB(a:Addr)(o:Obj)(b:List (bU×V)):ff:=
 #[λi H=>H a=ja (.fi o (.cO b))/\i<b.Z,λi H v H'=>H'=H/\∃k x,v=ec k/\b[i]?=ja (k,x),λi H=>H a=ja (.fi o (.cO b))/\b.Z<=i]
def PB{H:af}{h:Heap}{o:Obj}{c:List (bU×V)}(ok:gK P w H h)(F:H a=ja (.fi o (.cO c))):h.get? a=ja o/\(a==k7)=jA/\o.ExactDict/\∃g j,o.data=.dict g j/\g.size=c.Z/\
  ∀(i:Nat)(k:bU)(x:V),c[i]?=ja (k,x)->∃C:i<g.size,RelV (ec k) g[i].key:=by
 let#[B,_,y,vs,d,O,g,j,A,I,M,_,u,_]:=ok a _ F;rw[B]at A;cases A;let gen:∀{c:List (bU×V)}{L:List (bU×a5)}{m:List pG},ia c L->Pairs (jD P w) m L->m.Z=c.Z/\∀(i:Nat)(k:bU)(x:V),c[i]?=ja (k,x)->∃e,m[i]?=ja e/\RelV (ec k) e.key:=by
  intro c L m d u
  induction u generalizing c with
  |nil=>
   cases d;show#[2,λi k x e=>by simp at e]
  |@cons e J m L K z t G=>
   cases d with
   |@cons p q Q R a b=>
    let#[l,f]:=G b;show#[by rw[e5,e5,l],λi k x s=>?_];cases i with
    |zero=>
     simp only[Qd,Qr]at s;show#[e,2,4];let A:J.1=k:=by rw[<-a.1,s]
     rw[A]at K;rcases tn (show AS k e.key=jx from K)with⟨n,t,rfl,N⟩|⟨n,t,rfl,N⟩
     .show#[t,N]
     show#[t,N]
    |succ i=>show-f i k x (by simpa using s)
 let#[l,f]:=gen d u;show#[B,y,I,g,j,M,by simpa using l,λi k x C=>?_];let#[e,D,r]:=f i k x C;let#[K,z]:=gM.mp D;let E:i<g.size:=by simpa using K
 show#[E,4];have:g[i]=e:=by simpa using z
 rwa[this]
end
def aht{K:aI}{o:Obj}{n:List (bU×V)}{Y:Array pG}{T:Nat}(a l:Addr)(L:o.data=.dict Y T):
  Turn P w K d0 (RB a o n) [l] l (λi h=>h.IsKeyIter l a i Y.size T)where
 mem:=by simp
 obj:=λi h st b g=>by
  obtain rfl:b=l:=by simpa using g
  let#[o,e,c,d]:=st;show#[o,e,λv z=>by rw[d]at z;cases z]
 keep:=λi h y st k=>by let#[o,e,r]:=st;show#[o,k l qv o e,r]
 item:=by
  intro X G O J R i f s U H E I t st M;subst G O J;let#[j,hi]:=M;let#[go,_,oc,tk,qE,p,cC,Z]:=PB I.bC j;rw[L]at p;cases p;obtain⟨m,y'⟩:∃q,n[i]?=ja q:=#[_,ew hi]
  let#[w9,Xf]:=Z i m.1 m.2 y';let#[x,B,f2,u,C,D]:=t l qv;show-Ś st #[o,go,oc,L] w9 λy i3 cf=>?_;let aR:Inv X f U H {s with heap:=y}:=I.turned (t':=s.toks) (λb o g e=>(cf.2 b g).trans e) x B u C D;let#[aei,e,c,d]:=id i3;show#[1,AX (s:={s with heap:=y}) e c d qc #[ec m.1,H,aR,Xf,#[2,m.1,m.2,2,y'],i3,λb g=>(t b g).1]]
 done:=by intro X G O J R i f s U H E I t st M;subst G O J;let#[j,hi]:=M;let#[go,_,oc,tk,qE,p,cC,Z]:=PB I.bC j;rw[L]at p;cases p;let#[x,B,f2,u,C,D]:=t l qv;exact ă (I.ok.hd R) st #[o,go,oc,L] jQ λy dx=>#[2,I.turned (t':=s.toks) (λb o g e=>dx b o g e) x B u C D]
 self:=λA i s Q E st h=>by let N:=st.typeIs;show-aft N F.slot_dict_keyiterator_iter (nI F.slot_dict_keyiterator_iter N F.entry_dict_keyiterator_iter ?_ (F.args_dict_keyiterator_iter_1 _));show-bu #[1,"dict_keyiterator",_,N,F.slot_dict_keyiterator_next.lookup,h]
section
variable{X:bA}{d0:Expr}
def aoL(d:TE):eG:=λU H R=>d U H λx c=>∃a o b,x=.ref a/\c a=ja (.fi o (.cO b))/\R (RB a o b) c
def ald(aY:a' X o i):m1 X d0 o (aoL i):=by
 intro c s U H R I h;show-bT (aY c s U H _ I h) λv f w=>?_;let#[x,k,d,r,a,A,y,t,m,p]:=w;subst t;cases r;let#[go,l,oc,N,L,g,K,V]:=PB d.bC m;show-Ć l #[A,go,oc,g] ?_;show#[f.L,[f.L],6,k,2,d.kept (t':=f.toks) λb o e=>d8 _ e,aht a _ g,#[_,g4 _ rfl,2,2],λb n=>?_,p];obtain rfl:b=f.L:=by simpa using n
 show-d.tm (cy _) (d.bC.fresh (cy _))
def akg{b:List (bU×V)}{g:kN}{d:fJ}{D:Ends}{H:af}(c:Nat->al.St->af->Prop)(r:c 0 U H)(n:∀i U H,c i U H->H a=ja (.fi o (.cO b)))(K:∀i k x U H,b[i]?=ja (k,x)->c i U H->g (ec k) U H λL l=>d {D with dq:=c (i+1),gd:=c (i+1),i8:=D.dq} L l)(A:∀U H,c b.length U H->D.dq U H):
  AN (RB a o b) g d D U H:=by
 show#[λi m U H=>m=b.Z-i/\i<=b.Z/\c i U H,#[b.Z,by simp,ei _,r],4];rintro i m U H ⟨rfl,h,p⟩;let q:=n i U H p;by_cases f:i<b.Z
 .refine .inr #[#[q,f],c (i+1),λN H' w=>#[b.Z-(i+1),9,2,f,w],λv H' y=>?_];let#[2,k,x,2,t]:=y;show-K i k x U H' t p
 let e:i=b.Z:=by lia
 subst e;show-.inl #[#[q,cy _],A U H p]
abbrev t_(l:Addr):Obj:={cls:=.type "list_iterator",data:=.fields (List.toArray [.ref l,.int 0 0])}
def rN{b d:Type}{M:mY}{E:cL}(c:Sem b){k:b->Sem d}{Q:d->aS->Prop}(h:aQ M A c (λa f=>aQ M A (k a) Q E f) E s):aQ M A (c >>=k) Q E s:=(az h)
def QT{h:Heap}(e:h.get? b=ja o):b≠h.Y:=(fH (dO e))
def P1{h:Heap}(e:h.get? b=ja o):b≠h.Y+1:=(fH (wo (dO e)))
def CV(b:Bool):String:=cond b "max" "min"
def CS(b:Bool):String:=cond b "max.loop" "min.loop"
def VP(b:Bool):CmpOp:=cond b .Gt .Lt
theorem RC:∀b,entryFor table (CS b)=ja (cond b Builtin.«max.loop» Builtin.«min.loop»)
 |true=>PySem.F.entry_max_loop
 |false=>PySem.F.entry_min_loop
theorem yu:∀b,plainId (CS b)=jx
 |true=>PySem.F.plain_max_loop
 |false=>PySem.F.plain_min_loop
def KP:(toString "max"++toString ".loop":String)=CS jx:=by decide
def KQ:(toString "min"++toString ".loop":String)=CS jA:=by decide
def amJ(u:Bool){A:et}{R:wA->aS->Prop}{E B:b5}{n:Nat}{P:Nat->a5->Prop}{St:Nat->Heap->Prop}{d:a5}(W:Walks prog w A.in1 I E B n P St)(m:QR)(O:CmpOf prog w A.in1 (VP u) P m)(S:Addr)(C:S∉E):
  ∀(k j:Nat)(s:aS)(a:a5)(c:Nat),n-(j+1)=k->j+1<=n->St (j+1) s.Q->P (kP m j) a->s.heap.get? S=ja #[.type "list",jp,.seq (List.toArray [a,a]) c,#[]]->
   (∀v y r,P (kP m (n-1)) v->(∀b o,b∉B->b≠S->s.heap.get? b=ja o->y.get? b=ja o)->R (.ok (.ret v)) {s with heap:=y,toks:=r})->
   oV (bj prog w) A (.builtin (CS u) #[[.ref I,.none,.ref S],[(dH "default",d)]]) R s:=by
 cases u
 all_goals
  let H:S∉B:=λh=>C (W.sub _ h);intro k
  induction k with
  |zero=>
   intro j s a c M Q st K p t;let F:j+1=n:=by lia
   show-B1 (RC _) ?_;rw[Jc (yu _) _];show-rN (NO (.ref S)) (vJ p rfl (rN (tryCatch (kE (.ref I)) _) (Ol (W.done s _ _ (F▸st) λy r g=>?_))));show-rN (updateSeq S (λ_=>#[])) (afu (g S _ H p) rfl (az (AF (bu ?_))));show-t a _ r (by rwa[<-F]) λb o f l e=>(s5 _ _ (dG l)).trans (g b o f e)
  |succ k D=>
   intro j s a c M Q st K p t;let x:j+1<n:=by lia
   show-B1 (RC _) ?_;rw[Jc (yu _) _];show-rN (NO (.ref S)) (vJ p rfl (rN (tryCatch (kE (.ref I)) _) (Ol (W.item (j+1) s _ _ x st λv y r aa G g=>?_))));let L:=g S _ H p;show-rN (tryCatch (tr [v,v] (richCompare _ v a >>=_)) _) (Ol (mR (az (O (j+1) (kP m j) v a _ _ _ aa K (az (mR (sF (az (AF (bu ?_))))))))));cases ae:m (j+1) (kP m j)with
   |true=>
    simp only[if_true];show-az (afu L rfl (az (AF ?_)))
    first|rw[KP]|rw[KQ]
    show-bu #[Nk (yu _) _,D (j+1) _ v _ jQ x (W.frame _ _ _ G λb J o e=>(s5 _ _ (λh:S=b=>C (by rwa[h]))).trans e) (by simp only[kP,ae,if_true];show-aa) (yf _ L rfl) λz q i V N=>?_];show-t z q i V λb o f l e=>N b o f l ((s5 _ _ (dG l)).trans (g b o f e))
   |false=>
    simp only[AV,if_false];show-az (AF ?_)
    first|rw[KP]|rw[KQ]
    show-bu #[Nk (yu _) _,D (j+1) _ a c jQ x G (by simp only[kP,ae,AV,if_false];show-K) L λz q i V N=>t z q i V λb o f l e=>N b o f l (g b o f e)]
def ale(r:Bool){A:et}{R:wA->aS->Prop}{K m:b5}{n:Nat}{P:Nat->a5->Prop}{St:Nat->Heap->Prop}(W:Walks prog w A.in1 I K m n P St)(t:QR)(z:CmpOf prog w A.in1 (VP r) P t)(S:Addr)(p:S∉K){s:aS}{c:Nat}(st:St 0 s.Q)(N:s.heap.get? S=ja #[.type "list",jp,.seq #[] c,#[]])(B:n=0->∀a f,(∀b o,b∉m->b≠S->s.heap.get? b=ja o->a.get? b=ja o)->R (.ok (.ret d)) {s with heap:=a,toks:=f})(u:0<n->∀v a f,P (kP t (n-1)) v->(∀b o,b∉m->b≠S->s.heap.get? b=ja o->a.get? b=ja o)->R (.ok (.ret v)) {s with heap:=a,toks:=f}):
  oV (bj prog w) A (.builtin (CS r) #[[.ref I,.none,.ref S],[(dH "default",d)]]) R s:=by
 cases r
 all_goals
  let E:S∉m:=λh=>p (W.sub _ h);show-B1 (RC _) ?_;rw[Jc (yu _) _];show-rN (NO (.ref S)) (vJ N rfl ?_);by_cases g:n=0
  .refine rN (tryCatch (kE (.ref I)) _) (Ol (W.done s _ _ (g▸st) λa f k=>?_));show-az (xZ (bu ?_));show-B g a f λb o l _ e=>k b o l e
  show-rN (tryCatch (kE (.ref I)) _) (Ol (W.item 0 s _ _ (Ā g) st λv a f aa C k=>?_));let y:=k S _ E N;show-rN (updateSeq S (λ_=>(List.toArray [v,v]))) (afu y rfl ?_)
  first|rw[KP]|rw[KQ]
  show-bu #[Nk (yu _) _,amJ _ W t z S p _ 0 _ v _ rfl (Ā g) (W.frame _ _ _ C λb q o e=>(s5 _ _ (λh:S=b=>p (by rwa[h]))).trans e) aa (yf _ y rfl) λD x j i V=>?_];show-u (Ā g) D x j i λb o l L e=>V b o l L ((s5 _ _ (dG L)).trans (k b o l e))
theorem asr:∀b,builtinKind (CV b)=jp
 |true=>PySem.F.kind_max
 |false=>PySem.F.kind_min
theorem ass:∀b,plainId (CV b)=jx
 |true=>PySem.F.plain_max
 |false=>PySem.F.plain_min
theorem asu:∀b,entryFor table (CV b)=ja (cond b Builtin.«max» Builtin.«min»)
 |true=>PySem.F.entry_max
 |false=>PySem.F.entry_min
def asv(b:Bool)(a v:a5):argsOk (CV b) #[[a],[(dH "default",v)]]:=by cases b<;>(unfold argsOk;kernel_rfl)
def VN(b:Bool)(val:Nat->Int)(i j:Nat):Bool:=cond b (decide (val i>val j)) (decide (val i<val j))
def asw{a:mm}(b:Bool)(val:Nat->Int)(c:∀i v,a[i]?=ja v->∃t,v=qu (val i) t):CmpOf prog w A (VP b) (λi v=>a[i]?=ja v) (VN b val):=by
 cases b
 .exact CmpOf.ints_lt val c
 show-CmpOf.ints_gt val c
def aoM(r:Bool){A:et}{E:cL}{s:aS}{items:mm}{val:Nat->Int}{Q:cL}(h:A.in1.handled=jp)(k:s.heap.IsList l items)(K:∀i v,items[i]?=ja v->∃t,v=qu (val i) t)(V:items.size=0->∀a c,(∀b o,s.heap.get? b=ja o->a.get? b=ja o)->Q d {s with heap:=a,toks:=c})(N:0<items.size->∀t a c,(∀b o,s.heap.get? b=ja o->a.get? b=ja o)->Q (qu (val (kP (VN r val) (items.size-1))) t) {s with heap:=a,toks:=c}):
  aQ (bj prog w) A (call (.builtin (CV r)) [.ref l] [(dH "default",d)]) Q E s:=by
 cases r
 all_goals
  let#[ol,y,_]:=id k;let q:l≠s.L:=fH (dO y);show-aA0 (asr _) (ass _) (asu _) (asv _ _ _) ?_;show-rN (aAF _ ["key","default"] 0 #[[],[(dH "default",d)]]) (II (show _=pure [jp,ja d]from rfl) ?_);show-az (bu ?_);show-az (DW k ?_);show-az (pC ?_)
  first|rw[KP]|rw[KQ]
  let W:=KG (prog:=prog) (w:=w) (A:=A.in1) h s.heap.objs.size l q items;let g:(s.heap.push (t_ l)).objs.size=s.L+1:=uc ..;let x:=dO y;let f:(s.heap.push (t_ l)).get? s.L=ja (t_ l):=g4 _ rfl;let L:=k.push (t_ l);let p:∀b o,s.heap.get? b=ja o->(s.heap.push (t_ l)).get? b=ja o:=λb o e=>d8 _ e;dsimp only;generalize s.heap.push (t_ l)=u at g f L p⊢;show-bu #[Nk (yu _) _,ale _ W _ (asw _ val K) u.objs.size (by rw[g];simp only[dQ,ee,or_false,not_or];show#[aiN _,dG (P1 y)]) #[#[_,d8 _ f,2,2],L.push _] (g4 _ rfl) (λn a c m=>?_) λn v a c aa m=>?_]
  .exact V n a c λb o e=>m b o (by simp only[dQ,ee,or_false];show-QT e) (by rw[g];show-P1 e) (d8 _ (p b o e))
  let#[j,2]:=K _ v aa;show-N n j a c λb o e=>m b o (by simp only[dQ,ee,or_false];show-QT e) (by rw[g];show-P1 e) (d8 _ (p b o e))
def azF(K:aI)(f:List Int->Int)(t:fR)(k:TE):TE:=λU H Q=>t U H λvs g=>js k vV U g λl c=>∃d a b,l=[d]/\vs=[.ref a]/\aM K c a (b.map V.int)/\(b=[]->Q d c)/\(b≠[]->Q (.int (f b)) c)
theorem Ĉ{val:Nat->Int}:∀k,kP (λi j=>decide (val i>val j)) k<=k/\∀j,j<=k->val j<=val (kP (λi j=>decide (val i>val j)) k)
 |0=>#[cy _,λj h=>by rw[aiH.mp h];show-oL _]
 |k+1=>by
  let#[a,b]:=Ĉ (val:=val) k;simp only[kP];by_cases h:val (k+1)>val (kP (λi j=>decide (val i>val j)) k)
  .rw[b2 (cQ h)];show#[cy _,λj d=>?_];rcases yJ j (k+1)with c|c
   .exact Ξ (b j jQ) (Ν h)
   rw[show j=k+1 by lia];show-oL _
  rw[bL (by rw[dJ h];show-hB)];show#[9,λj d=>?_];rcases yJ j (k+1)with c|c
  .exact b j jQ
  rw[show j=k+1 by lia];lia
theorem Λ{val:Nat->Int}:∀k,kP (λi j=>decide (val i<val j)) k<=k/\∀j,j<=k->val (kP (λi j=>decide (val i<val j)) k)<=val j
 |0=>#[cy _,λj h=>by rw[aiH.mp h];show-oL _]
 |k+1=>by
  let#[a,b]:=Λ (val:=val) k;simp only[kP];by_cases h:val (k+1)<val (kP (λi j=>decide (val i<val j)) k)
  .rw[b2 (cQ h)];show#[cy _,λj d=>?_];rcases yJ j (k+1)with c|c
   .exact Ξ (Ν h) (b j jQ)
   rw[show j=k+1 by lia];show-oL _
  rw[bL (by rw[dJ h];show-hB)];show#[9,λj d=>?_];rcases yJ j (k+1)with c|c
  .exact b j jQ
  rw[show j=k+1 by lia];lia
def A7(a:kd):Int:=a.getD (kP (λi j=>decide (a.getD i 0>a.getD j 0)) (a.Z-1)) 0
def aoN:i9 "max"=ja (.builtin "max"):=by left
def p'(a:kd):Int:=a.getD (kP (λi j=>decide (a.getD i 0<a.getD j 0)) (a.Z-1)) 0
def aoO:i9 "min"=ja (.builtin "min"):=by left
def mN(b:Bool):Str:=cond b "max" "min"
def adK(b:Bool)(a:kd):Int:=cond b (A7 a) (p' a)
def aqI(b:Bool)(a:kd):adK b a=a.getD (kP (VN b λi=>a.getD i 0) (a.Z-1)) 0:=by cases b<;>rfl
theorem aqJ:∀b,i9 (mN b)=ja (.builtin (CV b))
 |true=>aoN
 |false=>aoO
end
def Ŵ(d:Bool)(f:List Int->Int)(P:f=adK d){X:bA}{m:Pos}{t:fR}(O:X.calm=jx)(hg:jR X (mN d))(hm:X.mg (mN d)=jp)(J:fI X [e] t)(hd:a' X j eU)(u2:(n3 pos (ot [#[ja "default",j,m]] X.env)).all (·.1.isSome)=jx:=by rfl)(o:(n3 pos (ot [#[ja "default",j,m]] X.env)).filterMap (·.1)=[dH "default"]:=by rfl)(he:dh [e] X.env=(jA,eval e X.env)::dh [] X.env:=by rfl)(fV:(hE pos (dh [e] X.env)).any (·.1)=jA:=by rfl)(w:(n3 pos (ot [#[ja "default",j,m]] X.env)).any (·.1.isNone)=jA:=by rfl):
  a' X (.Call (.Name (mN d) p) [e] [#[ja "default",j,m]] pos) (azF X.K f t eU):=by
 intro g s U H Q I h;show-DU (As I hg hm (aqJ d) ?_ (by cases d<;>decide) (by cases d<;>decide));show-callWith_builtin_kwB fV w (evalArgs_kw2 u2 (bT (J pos g s U H _ I h) λus s1 n=>?_) he);let#[vs,E,M,r,q]:=n;show-bT ((alK hd aor) pos g s1 U E _ M q) λws s2 n=>?_;let#[zs,L,l,D,dj]:=n;let#[F,a,k,2,2,Y,G,R]:=dj;let#[u,2,e3]:=vals1 r;let#[g9,2,kG]:=vals1 D;cases e3;rw[o];let#[c,B,pl,n]:=l.list Y;let b:k.Z=c.Z:=by have:=B.Z;rwa [bQ]at this
 show-aoM d (val:=λi=>k.getD i 0) (items:=c.toArray) (l.ok.hd O) pl.isList (λi v ev=>?_) (λz h' T A=>?_) λz t h' T A=>?_
 .let K:c[i]?=ja v:=by simpa using ev
  let C:i<k.Z:=by rw[b];exact(gM.mp K).1
  let#[u',N,Z]:=B.get (x:=V.int (k.getD i 0)) (i:=i) (by rw[ea,ew C];simp[gL,C]);rw[K]at N;cases N;show-Z
 .let y:k=[]:=Bd.mp (by rw[b];simpa using z);show#[F,L,l.kept A,kG,G y]
 let y:k≠[]:=λe=>by rw[e]at b;have:c=[]:=Bd.mp b.J;rw[this]at z;simp at z
 show#[.int (f k),L,l.kept A,#[t,4],R y];rw[P,aqI,b];simp
def aBm{c:kd}(h:c≠[]):A7 c∈c/\∀x∈c,x<=A7 c:=by
 let k:0<c.Z:=Be.mpr h;let#[a,b]:=Ĉ (val:=λi=>c.getD i 0) (c.Z-1);let d:kP (λi j=>decide (c.getD i 0>c.getD j 0)) (c.Z-1)<c.Z:=by lia
 show#[4,λx f=>?_]
 .unfold A7;rw[gL,ew d];show-uh d
 let#[j,g,2]:=Qg.mp f;have:=b j jQ;let e:c.getD j 0=c[j]:=by rw[gL,ew g];rfl
 rwa[<-e]
def aoP{c:kd}(h:c≠[]):p' c∈c/\∀x∈c,p' c<=x:=by
 let k:0<c.Z:=Be.mpr h;let#[a,b]:=Λ (val:=λi=>c.getD i 0) (c.Z-1);let d:kP (λi j=>decide (c.getD i 0<c.getD j 0)) (c.Z-1)<c.Z:=by lia
 show#[4,λx f=>?_]
 .unfold p';rw[gL,ew d];show-uh d
 let#[j,g,2]:=Qg.mp f;have:=b j jQ;let e:c.getD j 0=c[j]:=by rw[gL,ew g];rfl
 rwa[<-e]
def ZP{X:bA}(j:X.calm=jx):kB X (.builtin "min") (λN H Q=>∃a d,N=[.ref a]/\aM X.K H a (d.map V.int)/\d≠[]/\Q (.int (p' d)) H):=by
 intro L s U H N T Q I r h;let#[a,d,2,z,B,q]:=h;let#[u,2,e3]:=vals1 r;cases e3;let#[f,y,pl,P]:=I.list z;let c:d.Z=f.Z:=by have:=y.Z;rwa [bQ]at this
 let l:∀i v,f.toArray[i]?=ja v->∃t,v=qu (d.getD i 0) t:=λi v E=>by
  let k:f[i]?=ja v:=by simpa using E
  let K:i<d.Z:=by rw[c];exact(gM.mp k).1
  let#[R,n,C]:=y.get (x:=V.int (d.getD i 0)) (i:=i) (by rw[ea,ew K];simp[gL,K]);rw[k]at n;cases n;show-C
 let g:=pl.isList;let#[ol,J,_]:=id g;let p:=dO J;let G:(s.heap.push (t_ a)).objs.size=s.L+1:=uc ..;let W:=KG (prog:=X.prog) (w:=X.w) (A:=X.A.in1) (I.ok.hd j) s.heap.objs.size a (fH p) f.toArray;show-call_min_walk (DW g #[s.L,6,6,_,1,W,#[#[_,g4 _ rfl,2,2],g.push (t_ a)],λb m=>?_,by rw[hY,<-c];show-Be.mpr B,CmpOf.ints_lt (λi=>d.getD i 0) l,λv O M aa D=>?_])
 .show b<(s.heap.push (t_ a)).objs.size;rw[G];simp only[dQ,ee,or_false]at m;rcases m with rfl|rfl
  .exact yK _
  show-wo p
 let#[F,2]:=l _ v aa;show#[.int (p' d),H,I.kept λb o e=>D b o (by simp only[dQ,ee,or_false];show-QT e) (d8 _ e),#[F,4],q];unfold p';rw[c];simp
end bX
namespace dP
open PySem al bX cE
def TabAt(H:af)(p:Addr)(D:m8):Prop:=∃a,f9 H p (.cO a)/\Tab a D
def TabAt.get{D:m8}(T:TabAt H p D)(g:Str):j4 H p (.str g) ((D g).map V.int):=by let#[a,r,t]:=T;show-.inl #[a,f' g,r,2,(t.at_ g).symm]
def BX(a b:m8)(g:Str)(t:Int):Bool:=match b g with
 |none=>jA
 |some u=>decide (ja (t+u)=a g)
inductive ŵ(vs:aL)(H:af)(Q:aO)(fE:bF):Prop where
 |mk(r f fp ny:Addr)(hs:ba)(d:cE.f9)(kvs:List (bU×al.V))(g:Str)(Da Db:m8)(_:vs=[.ref r,.ref f,.str g])(_:H r=ja (.tup (nA hs d)))(_:H f=ja (.cO kvs))(_:dV kvs (f' (S (hs.getD d.a [])):bU)=ja (.ref fp))(_:dV kvs (f' (S (hs.getD d.b [])):bU)=ja (.ref ny))(_:TabAt H fp Da)(_:TabAt H ny Db)(_:(∀u,Db g=ja u->∃v,Da g=ja v))(_:Q (.aX (BX Da Db g d.t)) H)
abbrev i0(a:ba)(ds:cY)(h:Str):Str->Option Int:=λg=>d3.dist (jY a ds) h g
def NW(a:ba)(ds:cY)(i:Int):Str:=S (a.getD (ds.getD i.toNat d9).b [])
def v3(a:ba)(ds:cY)(h g:Str)(i:Int):Bool:=BX (i0 a ds h) (i0 a ds (NW a ds i)) g (ds.getD i.toNat d9).t
def fit(a:ba)(ds:cY)(h g:Str):List Int:=(mc a ds (·.a) h).filter (v3 a ds h g)
def best(a:ba)(ds:cY)(h g:Str):Int:=p' (fit a ds h g)
def ř(n:∀e∈jY b ds,1<=e.t){v:Int}(k:i0 b ds h g=ja v)(y:h≠g):fit b ds h g≠[]:=by
 let#[_,e,w,u,o,A,r]:=(d3.LG n g).other n y k;let#[d,t,2]:=cD.mp w;let#[i,m]:=qk t;let p:=(gM.mp m).1;let l:ds.getD i d9=d:=xE m;show-List.ne_nil_of_mem (a:=(i:Int)) (yB.mpr #[4,4])
 .unfold mc Jr;show-cD.mpr #[i,yB.mpr #[Bf.mpr p,4],2];let c:S (b.getD d.a [])=h:=o;rw[l,c];exact cQ rfl
 unfold v3 BX NW;rw[ug,l];let f:i0 b ds (S (b.getD d.b [])) g=ja u:=A;let K:v=u+d.t:=r;rw[f,k];show-cQ ?_;congr 1
 lia
theorem Ih(d:∀e∈jY a ds,1<=e.t){g:Str}{v:Int}(b:i0 a ds h g=ja v)(c:h≠g):best a ds h g∈mc a ds (·.a) h/\v3 a ds h g (best a ds h g)=jx:=
 yB.mp (aoP (ř d b c)).1
structure rv(kQ:Str->Str->Int)(L:bY)(kvs:gq)(M:Str->Str->Prop):Prop where
 yes:∀h g,M h g->dV kvs (h7 h g)=ja (.int (kQ h g))
 no:∀h g,¬M h g->dV kvs (h7 h g)=jp
 key:∀k∈kvs.map (·.1),∃h g,k=h7 h g/\h∈L/\g∈L
 aC:(kvs.map (·.1)).Nodup
def JB{b a:Str}(e:h7 h g=h7 b a):h=b/\g=a:=by unfold h7 at e;simp only[ahO,Sum.inr.injEq,and_true]at e;show-e
def Μ{b:Type}[DecidableEq b]{a:List (b×al.V)}{k:b}(v:al.V)(h:dV a k=ja u):(gy a k v).map (·.1)=a.map (·.1):=by unfold gy;rw[b2 (by rw[qO,h];rfl),hp];show-JV λq _=>?_;show(if q.1=k then(q.1,v)else q).1=q.1;split<;>rfl
def rv.put{f:Str->Str->Int}{L:bY}{a:gq}{M:Str->Str->Prop}(B:rv f L a M){h g:Str}(l:h∈L)(n:g∈L):rv f L (gy a (h7 h g) (.int (f h g))) (λc b=>M c b\/(c=h/\b=g)):=by
 show#[λc b m=>?_,λc b m=>?_,4,4]
 .rw[Iq];by_cases e:h7 c b=h7 h g
  .let#[2,2]:=JB e;rw[b2 rfl]
  rw[bL e];show-B.yes c b (m.resolve_right λz=>e ?_);rw[z.1,z.2]
 .rw[Iq,bL λe=>m (.inr (JB e))];show-B.no c b λz=>m (.inl z)
 .intro k d;cases i:dV a (h7 h g)with
  |none=>
   rw[Ob _ i,fP]at d;rcases iM.mp d with z|z
   .exact B.key k z
   show#[h,g,d2.mp z,l,n]
  |some u=>
   rw[Μ _ i]at d;show-B.key k d
 cases i:dV a (h7 h g)with
 |none=>show-ams _ B.aC i
 |some u=>rw[Μ _ i];show-B.aC
theorem rv.iff{c:Str->Str->Int}{L:bY}{a:gq}{M b:Str->Str->Prop}(B:rv c L a M)(e:∀h g,M h g↔b h g):rv c L a b:=
 #[λh g m=>B.yes h g ((e h g).mpr m),λh g m=>B.no h g λz=>m ((e h g).mp z),B.key,B.aC]
def rv.dy{n:Str->Str->Int}{L:bY}{a:gq}{M:Str->Str->Prop}(B:rv n L a M)(c:L.Z<=12):a.Z<=144:=by
 let b:=HH (L:=L.flatMap λh=>L.map (h7 h)) B.aC λk d=>by let#[h,g,2,l,m]:=B.key k d;show-Qf.mpr #[h,l,cD.mpr #[g,m,2]]
 let f:(L.flatMap λh=>L.map (h7 h)).Z=L.Z*L.Z:=by simp[ah7,List.map_const']
 rw[f,bQ]at b;show-eh b (J' c c)
theorem amK(d:av H H')(z:hX):av (upd H a z) (upd H' a z):=λb o e=>by
 by_cases c:b=a
 .rw[c,aN]at e⊢;show-e
 rw[aJ c]at e⊢;show-d b o e
theorem UV{H:af}(d:H a=ja u)(f:av (upd H a z) H'):av H (upd H' a u):=λb o e=>by
 by_cases c:b=a
 .rw[c,aN];rwa[c,d]at e
 rw[aJ c];show-f b o (by rwa[aJ c])
section
variable{P:cx}{w:b0}{K:aI}{mg:b6}{base:Heap}
abbrev KR:Stmt:=top 60
def Ŷ:cp ["road","far_from","goal","behind"] EY (bW KR):=({})
def aoQ{f:Addr}(F:b1 K "begins_shortest" "begins_shortest" KR f fd):-aA a6 1 f fd EY ŵ:=by
 show-F.ok Ŷ (λ_ A _ s H vs Q E b h=>?_);let#[r,L,fp,y,p,d,z,g,I,e,2,m,n,B,C,D,t,c,q]:=h;show#[_,(a3 (dg 3 Ŷ.aC (Oc (kW b) (xA (kW b) (aa 1) (ck eN (aa 0) bt) (λ_ _=>rfl)) (aa 2) #[2,2,2,2]))
  (a9 (ct (kT (oi Ov (aa 3) kn (e9 _)) (qV (oi q7 (c5 p3 (ck eN (aa 0) bt) (aa 3)) (xA (kW b) (xA (kW b) (aa 1) (ck eN (aa 0) bt) (λ_ _=>rfl)) (aa 2) (λ_ _=>rfl)) (e9 _))))))),4]
 ac_rfl
 let o:=j4.k (k:=f' (S (p.getD d.a []))) n;let N:=j4.k (k:=f' (S (p.getD d.b []))) n;rw[B]at o;rw[C]at N;let x:=D.get g;let j:=t.get g;unfold BX at q;let l:EF H y:=by let#[G,jN,_]:=t;show-.inl #[G,jN]
 show#[5,r,_,3,cH.of m,2,L,1,N,y,2,l,1,_,j,1,4];cases ae:e g with
 |none=>
  rw[ae]at q;show#[7,fv qc q]
 |some u=>
  rw[ae]at q;let#[v,c]:=c u ae;let a:=x;rw[c]at a q;show#[7,ey qv #[1,r,_,3,cH.of m,7,3,5,r,_,3,cH.of m,2,L,1,o,1,fp,1,a,2,4]];let i:decide (V.int (d.t+u)=V.int v)=decide (ja ((d.t:Int)+u)=ja v):=by simp
  rwa[i]
def Ρ{a:ba}{y:Str}(h:y∈a.map S):inD (.str y) (a8 a)=jx:=by
 let#[x,c,2]:=cD.mp h;let#[k,b,d]:=JU c;let e:a.getD k []=x:=by rw[gL,ew b,d];rfl
 have:=al1 b
 rwa [e]at this
def OE{c:ba}{h g:Str}(a:h∈c.map S)(b:g∈c.map S)(n:h≠g):h0 (a8 c) (.str h) (.str g)=jx:=by unfold h0;rw[Ρ a,Ρ b,alm,dJ n];rfl
def Ea{a:ba}(G:Good a){c:Str}(h:c∈a.map S):b8 H (.str c) (.str c):=by let#[x,b,2]:=cD.mp h;let n:=G.nm x b;show-.str _ (by rw[eY];have:=n.2.1;lia) (Od n)
def ŷ(b H:af)(q:Addr)(d:List (bU×al.V))(c:ba)(ds:cY)(h:Str):Prop:=∃(p:Addr)(a:List (bU×al.V)),dV d (f' h:bU)=ja (.ref p)/\p≠q/\b p=jp/\H p=ja (.cO a)/\Tab a (i0 c ds h)
def gQ{H H':af}(b:av H H')(a:H' p=jp):H p=jp:=by
 cases e:H p with
 |none=>rfl
 |some o=>rw[b _ _ e]at a;cases a
def f5{H:af}(c:H a=ja o)(d:H b=jp):a≠b:=(λe=>by rw[e,d]at c;cases c)
def RD{a:ba}{i:Nat}(e:(dK a)[i]?=ja v):∃h,v=.str h/\(a.map S)[i]?=ja h:=by unfold dK at e;rw[ea]at e;let#[x,b,2]:=hN.mp e;show#[S x,2,by rw[ea,b];rfl]
def ZQ{b:Type}[DecidableEq b]{k:b}{x:al.V}:∀{a:List (b×al.V)},(k,x)∈a->(dV a k).isSome=jx:=(λ{a}h=>by rw[<-qO];show-oN.mpr #[_,h,cQ rfl])
def Y_{b:Type}[DecidableEq b]{k:b}{a:List (b×al.V)}(h:(dV a k).isSome=jx):∃(j:Nat)(x:al.V),a[j]?=ja (k,x):=by rw[<-qO]at h;let#[#[d,x],hm,e]:=oN.mp h;let#[j,c]:=qk hm;show#[j,x,by rw[c,show d=k from j2 e]]
def amL{a:ba}{ds:cY}(R:∀d∈ds,d.Ok a.Z){h g:Str}{u:Int}(p:d3.Path (jY a ds) h g u)(hm:h∈a.map S):g∈a.map S:=by
 cases p with
 |nil=>show-hm
 |snoc e _ he=>
  let#[d,b,2]:=cD.mp he;show-I7 (R d b).b
def Ot{c:ba}{ds:cY}{h:Str}{i:Nat}(e:((mc c ds (·.a) h).map V.int)[i]?=ja v):∃(k:Nat)(d:cE.f9),v=.int (k:Int)/\ds[k]?=ja d/\S (c.getD d.a [])=h:=by let#[z,f,2]:=cD.mp (eX e);unfold mc Jr at f;let#[k,g,2]:=cD.mp f;let#[l,b]:=yB.mp g;let m:=Bf.mp l;let a:ds[k]?=ja ds[k]:=ew m;show#[k,ds[k],2,a,4];rw[xE a]at b;have:=j2 b;cases this;rfl
def Al{a:TE}{g:kN}{u:fJ}{D:Ends}(h:a U H λv b=>g v U b (u D)):h4 (t5 a g) u D U H:=(h)
end
theorem amM{K:aI}{t:eG}{r:iz}{o:TE}{rest:al.St}{H:af}{Q:aO}{xs:aL}(V:∀R:ff->af->Prop,(∀p g,H p=jp->av H g->g p=ja (.lst xs)->R (j9 K p) g)->t U H R)(L:hG cs U=jp::rest)(y:xs.Z<sizeLine)(p:al.V->Bool)(f:al.V->al.V)(d:∀(i:Nat)(x:al.V)(a:af)(R:Bool->af->Prop),xs[i]?=ja x->av H a->(∀c,av a c->R (p x) c)->r (ja x::rest) a R)(l:∀(i:Nat)(x:al.V)(a:af)(R:aO),xs[i]?=ja x->p x=jx->av H a->(∀c,av a c->R (f x) c)->o (ja x::rest) a R)(n:∀(D:Addr)(H':af),H D=jp->H' D=ja (.lst ((xs.filter p).map f))->av H H'->Q (.ref D) H'):jf t cs (hR 0) r o U H Q:=
 V _ λq g w k A=>QD L (oj (aM.of A)) y p f (λi x a R m b h=>d i x a R m (k.trans b) h) (λi x a R m e b h=>l i x a R m e (k.trans b) h) λD H' N a8 b=>n D H' (gQ k N) a8 (k.trans b)
def Told(a:ba)(ds:cY)(i:Nat)(h g:Str):Prop:=(∃j,j<i/\(a.map S)[j]?=ja h)/\h≠g/\(i0 a ds h g).isSome=jx
def jT(d:ba)(ds:cY)(i:Nat)(h:Str)(c:List (bU×al.V))(j:Nat)(a g:Str):Prop:=Told d ds i a g\/(a=h/\h≠g/\∃b z,b<j/\c[b]?=ja (f' g,z))
section
variable{hs:ba}{ds:cY}{i j:Nat}{h g:Str}{cA:List (bU×al.V)}{z:al.V}
def jT.zero(b a:Str):Told hs ds i b a↔jT hs ds i h cA 0 b a:=(#[.inl,λz=>z.resolve_right λ⟨_,_,c,_,y,_⟩=>bk y (J_ _)])
theorem jT.less:jT hs ds i h cA j x u->jT hs ds i h cA (j+1) x u
 |.inl y=>.inl y
 |.inr ⟨a,b,B,q,e,s⟩=>.inr #[a,b,B,q,wo e,s]
def jT.more(c:cA[j]?=ja (f' g,z))(t:jT hs ds i h cA (j+1) u q):jT hs ds i h cA j u q\/(u=h/\h≠q/\q=g):=by
 rcases t with y|⟨a,b,s,B,x,e⟩
 .exact .inl (.inl y)
 rcases yJ s j with y|y
 .exact .inl (.inr #[a,b,s,B,y,e])
 have:s=j:=aiF (aiG x) y;subst this;rw[c]at e;cases e;show-.inr #[a,b,2]
def jT.skip(f:cA[j]?=ja (f' h,z))(d a:Str):jT hs ds i h cA j d a↔jT hs ds i h cA (j+1) d a:=(#[.less,λt=>(jT.more f t).elim id λ⟨_,b,c⟩=>bk c.symm b])
def jT.put(k:cA[j]?=ja (f' g,z))(l:h≠g)(f d:Str):(jT hs ds i h cA j f d\/(f=h/\d=g))↔jT hs ds i h cA (j+1) f d:=(#[λt=>t.elim .less λ⟨a,b⟩=>.inr #[a,b▸l,j,z,yK _,b▸k],λt=>(jT.more k t).imp id λ⟨a,_,c⟩=>#[a,c]])
def jT.end(n:Tab cA (i0 hs ds h))(o:(hs.map S)[i]?=ja h)(l k:Str):jT hs ds i h cA cA.length l k↔Told hs ds (i+1) l k:=by
 constructor
 .rintro(⟨⟨j,f,a⟩,b,c⟩|⟨rfl,b,m,z,_,d⟩)
  .show#[#[j,wo f,a],b,c]
  show#[#[i,yK _,o],b,4];have:=ZQ (eX d);rw[n.at_]at this;simpa using this
 rintro⟨⟨j,f,a⟩,b,c⟩;by_cases e:l=h
 .subst e;have:(dV cA (f' k:bU)).isSome=jx:=by rw[n.at_];simpa using c
  let#[m,z,d]:=Y_ this;show-.inr #[2,b,m,z,(gM.mp d).1,d]
 show-.inl #[#[j,4,a],b,c];rcases yJ j i with y|y
 .exact y
 have:j=i:=aiF (aiG f) y;subst this;rw[o]at a;cases a;exact bk rfl e
end
structure nh(hs:ba)(ds:cY)(kvs:gq):Prop where
 kQ:rv (best hs ds) (hs.map S) kvs (λh g=>h∈hs.map S/\h≠g/\(i0 hs ds h g).isSome=jx)
section
variable{P:cx}{w:b0}{K:aI}{mg:b6}{base:Heap}
abbrev HZ:Stmt:=top 61
def v5:cp ["net","roads","far_from","house","ways","goal","fitting"] ["net"] (bW HZ):=({})
inductive RE(C aD:Addr)(vs:aL)(H:af)(Q:aO)(fE:bF):Prop where
 |mk(n bb bh:Addr)(hs:ba)(rs:b5)(ds:cY)(_:vs=[.ref n])(_:ih aD H n bb bh (dK hs) (bw rs))(_:Good hs)(_:gO H hs rs ds)(_:rs.Z<=40)(_:∀(x t:Addr)(H':af)(kvs:gq),H x=jp->H t=jp->av H H'->oq C aD H' x n t bb bh (dK hs) (bw rs) kvs->nh hs ds kvs->Q (.ref x) H')
inductive asx(n fM fz lG:Addr)(hs:ba)(ds:cY)(H1:af)(i:Nat)(U:al.St)(cn:af):Prop where
 |mk(pS:List (bU×al.V))(Az:lh)(_:U=[ja (.ref n),ja (.ref fM),ja (.ref fz),Az,jp,jp,jp])(_:av H1 cn)(_:cn lG=ja (.lst (dK hs)))(_:cn fz=ja (.cO pS))(_:pS.Z<=i)(_:∀j h,j<i->(hs.map S)[j]?=ja h->ŷ H1 cn fz pS hs ds h)
inductive asy(C ah n fM fz x t hH:Addr)(hs:ba)(ds:cY)(cn:af)(i:Nat)(U:al.St)(hl:af):Prop where
 |mk(kvs:gq)(Az sD rf:lh)(_:U=[ja (.ref n),ja (.ref fM),ja (.ref fz),Az,ja (.ref x),sD,rf])(_:av cn hl)(_:hl hH=ja (.lst (dK hs)))(_:hl x=ja (.ins C ah (lE n t)))(_:hl t=ja (.dA kvs))(_:rv (best hs ds) (hs.map S) kvs (Told hs ds i))
inductive asz(C ah n fM fz x t hH fp:Addr)(hs:ba)(ds:cY)(cn:af)(o:Obj)(cA:List (bU×al.V))(h:Str)(i:Nat)(j:Nat)(U:al.St)(ye:af):Prop where
 |mk(kvs:gq)(sD rf:lh)(_:U=[ja (.ref n),ja (.ref fM),ja (.ref fz),ja (.str h),ja (.ref x),sD,rf])(_:av (upd cn fp (.fi o (.cO cA))) ye)(_:ye hH=ja (.lst (dK hs)))(_:ye x=ja (.ins C ah (lE n t)))(_:ye t=ja (.dA kvs))(_:rv (best hs ds) (hs.map S) kvs (jT hs ds i h cA j))
def aqK{f:Addr}(F:b1 K "shortest" "shortest" HZ f fd)(B:fc mg)(c3:tS K C)(eW:ef K aD)(r9:mg "Ways"=ja (.ref C))(jm:cR K aD "houses" "Net.houses" xl eg f1 cg)(m_:-aA a6 1 f1 cg eg (C9 aD))(lp:cR K aD "roads" "Net.roads" Ak eg f2 dY)(qB:-aA a6 1 f2 dY eg (Ir aD))(rV:cR K aD "out_of" "Net.out_of" Fq lR cV iW)(Cx:-aA (dn P w) 2 cV iW lR (QV aD fQ (·.a)))(uH:bO K mg "least_turns_from" El yG f4 uR)(B4:-aA a6 2 f4 uR yG (Pn K))(B':bO K mg "begins_shortest" KR EY fU F6)(aAl:-aA a6 1 fU F6 EY ŵ)(IM:nQ K C lZ)(n6:mi K C "Ways.__init__" DB mj lZ uT)(u0:-aA a6 1 lZ uT mj (KV C))(n2:cR K C "set_way" "Ways.set_way" DA s9 SU SY)(uK:-aA (dn P w) 3 SU SY s9 (KX C aD fQ ic)):
  -aA a6 4 f fd ["net"] (RE C aD):=by
 let iR:=c3.cl;show-F.ok v5 (λ_ A _ s H vs Q E ao h=>?_);let#[n,bb,bh,a,rs,ds,2,N,G,cW,dy,q]:=h;show#[_,(a3 (dg 1 v5.aC (oa (aa 0) eW lp.d5 qB ao.mono lp.bd .nil cd))
  (a3 (dg 2 v5.aC Zi)
  (a3 (l6 lT rfl (hF (oa (aa 0) eW jm.d5 m_ ao.mono jm.bd .nil cd)) (ed 3 v5.aC)
   (a9 (Ph (kW ao) (aa 2) (aa 3) (dp B4 uH ao.mono cd (aj (aa 1) (aj (aa 3) ay))) rfl)))
  (a3 (dg 4 v5.aC (tI IM u0 ao.mono qF r9 n6.bd .nil cd (aj (aa 0) ay)))
  (a3 (l6 lT rfl (hF (oa (aa 0) eW jm.d5 m_ ao.mono jm.bd .nil cd)) (ed 3 v5.aC)
   (a9 (aoK (l6 lT rfl (ald (xA (kW ao) (aa 2) (aa 3) (λ_ _=>rfl))) (ed 5 v5.aC)
   (a9 (eu (gs AP (aa 5) (aa 3) (e9 _)) (a3 (z3 (i:=6) v5.aC rfl rfl rfl (N':=["number","far_from","goal","roads"]) (cs:=[jp,ja 2,ja 5,ja 1]) rfl (hF (fg (aa 0) eW rV.d5 Cx ao.mono rV.bd .nil J2 (aj (aa 3) ay))) rfl qL rfl qL (hv (c'.mpr #[2,(c'.mpr #[2,(c'.mpr #[2,(λp aw=>bk aw (ee))])])])) rfl
   (.own (.mu rfl (.inl rfl) (.inl rfl) rfl (.mu rfl (.inl rfl) (.inl rfl) rfl (.mu rfl (.inl rfl) (.inl rfl) rfl .nil))))
   (λC s3 aK bP de=>#[(ed 0 (by show(["number","far_from","goal","roads"]:bY).Nodup;decide+kernel)),(DL (jE (dp aAl B' ao.mono cd (aj (ck (akv (K:=K) rfl) (aa 3) (aa 0)) (aj (aa 1) (aj (aa 2) ay)))))),(aa 0)]))
  (a9 (gD (fg (aa 4) iR n2.d5 uK ao.mono n2.bd .nil J2 (aj (aa 3) (aj (aa 5) (aj (d4 (ZP rfl) B.min aaq (aj (aa 6) ay)) ay))))))) eH))))))
  (a9 (ct (aa 4)))))))),4]
 ac_rfl
 let#[eR,hn]:=N.ins;let hlen:=cW.len;let ab7:=G.dy;show#[1,n,eR,1,hn,2,n,bb,bh,_,1,N,λfM zW=>?_];let s1:av H (upd H fM (.lst (bw rs))):=b7 zW;let ai:upd H fM (.lst (bw rs)) fM=ja (.lst (bw rs)):=aN;generalize upd H fM (.lst (bw rs))=H1 at s1 ai⊢
 refineλM He=>?_
 let s2:av H1 (upd H1 M (.cO [])):=b7 He;let ak:upd H1 M (.cO []) M=ja (.cO []):=aN;generalize upd H1 M (.cO [])=ag at s2 ak⊢;show#[1,n,eR,1,s2 _ _ (s1 _ _ hn),2,n,bb,bh,_,1,(N.same s1).same s2,λlG ad9=>#[lG,2,#[_,aM.of aN],4]];let adN:M≠lG:=f5 ak ad9;refine tC (xs:=dK a) (asx n fM M lG a ds H1)
  #[[],jp,2,s2.trans (b7 ad9),aN,by rwa[aJ adN],cy _,λj h bJ _=>bk bJ (J_ _)] ?_ ?_ ?_
 .rintro i U J hi ⟨pS,Az,rfl,X,aV,_⟩;show-aM.of aV
 .rintro i v U J ev ⟨pS,Az,rfl,X,aV,bG,Uj,Gi⟩;let#[h,2,uN]:=RD ev;let Vh:i<a.Z:=by have:=(gM.mp uN).1;rwa [bQ]at this
  show#[5,fM,a,rs,ds,h,2,aM.of (X _ _ ai),(cW.same s1).same X,ab7,eX uN,λp H' Z D np Ag aU T L=>?_];show#[5,M,1,t6.k (k:=f' h) (Ag _ _ bG) (e8 jQ),4];let ayj:H1 p=jp:=gQ X np;let adZ:p≠M:=dG (f5 bG np);let y4:D=i0 a ds h:=funext λg=>d3.abS L g;subst y4;show#[_,1,gE He (X.trans Ag),by rw[aJ (dG adN)];show-Ag _ _ aV,aN,4,λj h' bJ SI=>?_]
  .cases aT:dV pS (f' h:bU)with
   |none=>rw[Ob _ aT,dT];simp only[e5,rD];lia
   |some u=>rw[Κ _ aT];lia
  by_cases e:h'=h
  .subst e;show#[p,Z,by rw[Iq,b2 rfl],adZ,ayj,by rwa[aJ adZ],T]
  let Uq:j<i:=by
   rcases yJ j i with z|z
   .exact z
   have:j=i:=by lia
   subst this;rw[uN]at SI;cases SI;exact bk rfl e
  let#[gn,axr,xV,ne',ayd,tq,nW]:=Gi j h' Uq SI;show#[gn,axr,by rwa[Iq,bL λz=>e (QK z)],ne',ayd,by rw[aJ ne'];show-Ag _ _ tq,nW]
 rintro U J ⟨pS,Az,rfl,X,aV,bG,Uj,Gi⟩;let acx:∀h∈a.map S,ŷ H1 J M pS a ds h:=λh hm=>by let#[j,bJ]:=qk hm;show-Gi j h (by have:=(gM.mp bJ).1;rw[bQ]at this;unfold dK;rwa[bQ]) bJ
 show#[1,λx l dq sd ayw=>#[x,l,1,aN,λt eT=>#[2,4]]];let p6:J t=jp:=by show-gQ (gE (o:=.ins C l []) dq (b7 (o:=.own x) sd)) eT
 let qe:x≠t:=f5 (H:=upd (upd J l (.own x)) x (.ins C l [])) aN eT;let q4:av J (upd (upd (upd (upd J l (.own x)) x (.ins C l [])) t (.dA [])) x (.ins C l (lE n t))):=gE dq (gE p6 (gE dq (b7 sd)));let U9:upd (upd (upd (upd J l (.own x)) x (.ins C l [])) t (.dA [])) x (.ins C l (lE n t)) x=ja (.ins C l (lE n t)):=aN;let Cu:upd (upd (upd (upd J l (.own x)) x (.ins C l [])) t (.dA [])) x (.ins C l (lE n t)) t=ja (.dA []):=by rw[aJ (dG qe),aN]
 show h4 _ _ _ _ (upd (upd (upd (upd J l (.own x)) x (.ins C l [])) t (.dA [])) x (.ins C l (lE n t)));generalize upd (upd (upd (upd J l (.own x)) x (.ins C l [])) t (.dA [])) x (.ins C l (lE n t))=JJ at q4 U9 Cu⊢;let Ą:ih aD J n bb bh (dK a) (bw rs):=(N.same s1).same X;show#[1,n,eR,1,q4 _ _ (X _ _ (s1 _ _ hn)),2,n,bb,bh,_,1,Ą.same q4,λhH M_=>#[hH,2,#[_,aM.of aN],4]];let ayk:J hH=jp:=gQ q4 M_;let axJ:x≠hH:=f5 U9 M_;let adP:t≠hH:=f5 Cu M_;refine tC (xs:=dK a) (asy C l n fM M x t hH a ds J)
  #[[],Az,jp,jp,2,q4.trans (b7 M_),aN,by rwa[aJ axJ],by rwa[aJ adP],#[λh g m=>?_,λh g _=>rfl,λk aU=>(nomatch aU),pI]] ?_ ?_ ?_
 .let#[#[j,bJ,_],_]:=m;show-bk bJ (J_ _)
 .rintro i U hl hi ⟨I,afd,sD,rf,rfl,d7,cT,_⟩;show-aM.of cT
 .rintro i v U hl ev ⟨I,afd,sD,rf,rfl,d7,cT,aq,cm,BT⟩;let#[h,2,uN]:=RD ev;let hm:h∈a.map S:=eX uN;let#[fp,Z,nD,adU,adT,Cm,qt]:=acx h hm;let aed:x≠fp:=dG (f5 Cm dq);let WJ:t≠fp:=dG (f5 Cm p6);let adO:hH≠fp:=dG (f5 Cm ayk);show#[fp,Z,d7 _ _ Cm,λo=>?_];let acj:=j4.k (k:=f' h) (show upd hl fp (.fi o (.cO Z)) M=ja (.cO pS) by rw[aJ (dG adU)];show-d7 _ _ bG);rw[nD]at acj;show#[5,M,1,acj,fp,o,Z,2,aN,4];refine akg (asz C l n fM M x t hH fp a ds J o Z h i)
   #[I,sD,rf,2,amK d7 _,by rwa[aJ adO],by rwa[aJ aed],by rwa[aJ WJ],BT.iff jT.zero] ?_ ?_ ?_
  .rintro j U ye ⟨I,sD,rf,rfl,O,_⟩;show-O _ _ aN
  .rintro j k z U ye e_ ⟨I,sD,rf,rfl,O,Ma,xc,ME,En⟩;let#[g,auI]:=qt.ks _ (eX e_);let auJ:k=f' g:=auI;subst auJ;let ik:∀e∈jY a ds,1<=e.t:=λe he=>by let#[d,hd,2]:=cD.mp he;exact(cW.ok d hd).t.1
   let aw4:(i0 a ds h g).isSome=jx:=by have:=ZQ (eX e_);rw[qt.at_]at this;simpa using this
   let#[v,aT]:=wu.mp aw4;let hg:g∈a.map S:=amL cW.ok ((d3.LG ik g).path h v aT) hm;show#[5,7,4];by_cases e:g=h
   .subst e;show-fv (show(!decide (V.str g=V.str g))=jA by rw[cQ rfl];rfl) #[I,_,rf,2,O,Ma,xc,ME,En.iff (jT.skip e_)]
   show-ey (show(!decide (V.str g=V.str h))=jx by rw[dJ λy=>e (V.str.inj y)];rfl) ?_;let jI:h≠g:=dG e;let Xu:av H (upd J fp (.fi o (.cO Z))):=s1.trans (gE adT X);let ą:=N.same (Xu.trans O);let TM:=cW.same (Xu.trans O);let awO:=O _ _ ((gE (o:=.fi o (.cO Z)) adT X) _ _ ai);let awP:=O _ _ (show upd J fp (.fi o (.cO Z)) M=ja (.cO pS) by rwa[aJ (dG adU)]);show-Al ?_;refine amM (K:=K) (rest:=[ja (.ref M),ja (.str g),ja (.ref fM)]) (xs:=(mc a ds (·.a) h).map V.int) (λR avU=>?_) rfl (by rw[bQ];have:=akd a ds (·.a) h;show-e8 jQ) (λy=>match y with|.int i=>v3 a ds h g i|_=>jA) id (λi y g_ R dk Y TL=>?_) (λi y g_ R dk _ fC TL=>#[1,TL g_ (av.refl _)]) (λD g_ h6 a8 Y=>?_)
   .show#[1,n,eR,1,(Xu.trans O) _ _ hn,7,n,bb,bh,a,rs,ds,h,2,ą,TM,dy,λ_ sg bo ayl c2 eA=>#[sg,2,#[_,aM.of eA],avU sg bo ayl c2 eA],λy=>bk hm y]
   .let#[k,d,2,pR,aH]:=Ot dk;obtain⟨r,h2⟩:∃r,rs[k]?=ja r:=#[_,ew (by rw[hlen];exact(gM.mp pR).1)]
    let#[d',abY,vu,Cq]:=TM.get h2;rw[pR]at abY;cases abY;let#[ny,vg,qf,aFe,aFd,Ur,kb]:=acx _ (I7 vu.b);let akU:TabAt g_ fp (i0 a ds h):=#[Z,.inr #[o,Y _ _ (O _ _ aN)],qt]
    let akV:TabAt g_ ny (i0 a ds (S (a.getD d.b []))):=by
     by_cases dx:ny=fp
     .subst dx;rw[Cm]at Ur;cases Ur;show#[Z,.inr #[o,Y _ _ (O _ _ aN)],kb]
     show#[vg,.inl (Y _ _ (O _ _ (by rwa[aJ dx]))),kb]
    let SN:al.hZ (bw rs) (k:Int)=ja (.ref r):=jV (by unfold bw;rw[ea,h2];rfl);show#[5,fM,_,3,aM.of (Y _ _ awO),SN,5,r,M,fp,ny,a,d,pS,g,_,1,Y _ _ Cq,Y _ _ awP,by rwa[aH],qf,akU,akV,λu cq=>#[v,aT],1,4];let ep:v3 a ds h g (k:Int)=BX (i0 a ds h) (i0 a ds (S (a.getD d.b []))) g d.t:=by unfold v3 NW;rw[ug,xE pR]
    rw[<-ep];show-TL g_ (av.refl _)
   let FZ:(((mc a ds (·.a) h).map V.int).filter λy=>match y with|.int i=>v3 a ds h g i|_=>jA).map id=(fit a ds h g).map V.int:=by rw[ET,Î];rfl
   rw[FZ]at a8;show#[1,x,l,1,Y _ _ xc,7,5,D,1,aM.of a8,ř ik aT jI,x,n,t,bb,bh,a,rs,ds,I,h,g,1,#[#[l,Y _ _ xc],ą.same Y,Y _ _ ME],G,TM.same Y,dy,Ea G hm,Ea G hg,e8 (by have:=En.dy (by rwa[bQ]);lia),λ_ _ kJ kH=>?_,λy=>bk (OE hm hg jI) (by rw[y];decide),λ_ y=>bk (Ih ik aT jI).1 y];let Xo:=Y.trans kH;show#[6,1,gE (by rwa[aJ WJ]) (O.trans Xo),by rw[aJ (dG adP)];show-Xo _ _ Ma,by rw[aJ qe];show-Xo _ _ xc,aN,(En.put hm hg).iff (jT.put e_ jI)]
  rintro U ye ⟨I,sD,rf,rfl,O,Ma,xc,ME,En⟩;show#[O _ _ aN,I,_,sD,rf,2,UV Cm O,by rwa[aJ adO],by rwa[aJ aed],by rwa[aJ WJ],En.iff (jT.end qt uN)]
 rintro U hl ⟨I,afd,sD,rf,rfl,d7,cT,aq,cm,BT⟩;show#[1,q x t hl I (gQ (s1.trans X) dq) (gQ (s1.trans X) p6) ((s1.trans X).trans d7) #[#[l,aq],Ą.same d7,cm] ⟨BT.iff λh g=>#[λ⟨⟨j,_,fm⟩,b,c⟩=>#[eX fm,b,c],λ⟨m,b,c⟩=>#[4,b,c]]⟩];let#[j,bJ]:=qk m;show#[j,by have:=(gM.mp bJ).1;rw[bQ]at this;unfold dK;rwa[bQ],bJ]
def QU{a:ba}{ds:cY}(R:∀d∈ds,d.Ok a.Z):∀e∈jY a ds,1<=e.t:=(λe c=>by let#[d,b,2]:=cD.mp c;exact(R d b).t.1)
def amN{a:ba}{ds:cY}(R:∀d∈ds,d.Ok a.Z){h:Str}{v:Int}(c:i0 a ds h g=ja v)(r:h≠g):
  ∃(k:Nat)(d:cE.f9)(u:Int),best a ds h g=(k:Int)/\ds[k]?=ja d/\S (a.getD d.a [])=h/\i0 a ds (S (a.getD d.b [])) g=ja u/\(d.t:Int)+u=v:=by
 let#[m,f]:=Ih (QU R) c r;let#[i,p]:=qk (cD.mpr #[_,m,2]:V.int (best a ds h g)∈(mc a ds (·.a) h).map V.int);let#[k,d,n,b,o]:=Ot p;let l:best a ds h g=(k:Int):=V.int.inj n;rw[l]at f;unfold v3 BX NW at f;rw[ug,xE b]at f;cases e:i0 a ds (S (a.getD d.b [])) g with
 |none=>rw[e]at f;cases f
 |some u=>
  rw[e,c]at f;have:=j2 f;show#[k,d,u,l,b,o,e,gN this]
def ë{b:Type}[DecidableEq b]{a:List (b×al.V)}{k:b}(h:dV a k=ja v):k∈a.map (·.1):=by let#[j,x,e]:=Y_ (show(dV a k).isSome=jx by rw[h];rfl);show-cD.mpr #[_,eX e,2]
def nh.get{a:ba}{b:gq}(T:nh a ds b){k:List bU}(e:dV b k=ja v):∃h g,k=h7 h g/\h∈a.map S/\g∈a.map S/\h≠g/\(i0 a ds h g).isSome=jx/\v=.int (best a ds h g):=by
 let#[h,g,2,c,d]:=T.kQ.key k (ë e);by_cases m:h∈a.map S/\h≠g/\(i0 a ds h g).isSome=jx
 .have:=T.kQ.yes h g m;rw[e]at this;show#[h,g,2,c,d,m.2.1,m.2.2,gN this]
 rw[T.kQ.no h g m]at e;cases e
def yv(ds:cY)(a:bg):Int:=(a.map λk=>((ds.getD k d9).t:Int)).sum
end
theorem Zx{f:ba}{ds:cY}{p:gq}(T:nh f ds p)(R:∀d∈ds,d.Ok f.Z)(J:f.Z<=12):∀(n:Nat)(c:Str)(l:bY)(t:bg)(u:Int),n+l.Z=14->l.Nodup->(∀y∈l,y∈f.map S)->c∈f.map S->i0 f ds c g=ja u->
  (∀y∈l,∃w,i0 f ds y g=ja w/\u<=w)->∃o,kY p f ds g n c l t=.ok (t++o)/\yv ds o=u/\(∀k∈o,k<ds.Z)/\o.Z<=n
 |0,c,l,t,u,hn,aC,sub,x,h,hw=>by
  have:=HH aC sub;rw[bQ]at this
  lia
 |n+1,c,l,t,u,hn,aC,sub,x,h,hw=>by
  unfold kY;by_cases e:c=g
  .rw[b2 e];let C:=(d3.LG (QU R) g).goal (QU R);rw[<-e]at C;let r:i0 f ds c c=ja 0:=C;rw[<-e,r]at h;show#[[],by rw[kK],by cases h;rfl,λk H=>(nomatch H),ei _]
  rw[bL e];let#[k,d,D,G,N,P,s,M]:=amN R h e;let F:=T.kQ.yes c g #[x,e,by rw[h];rfl];let V:sy p c g=ja k:=by unfold sy;rw[F,G];simp
  let L:px f ds k=S (f.getD d.b []):=by unfold px;rw[xE N]
  let E:=R d (eX N);let Q:1<=(d.t:Int):=E.t.1;let A:px f ds k∉l:=λm=>by
   let#[w,r,B]:=hw _ m;rw[L,s]at r;cases r
   lia
  rw[V];show∃o,(if px f ds k∈l then _ else _)=Out.ok (t++o)/\_;rw[bL A];let K:px f ds k∈f.map S:=by rw[L];show-I7 E.b
  let#[o,r,B,I,O]:=Zx T R J n (px f ds k) (l++[px f ds k]) (t++[k]) D (by rw[dT];show n+(l.Z+1)=14;lia) (Zw aC A)
   (λy q=>by
    rcases iM.mp q with z|z
    .exact sub y z
    rwa[d2.mp z]) K (by rwa[L])
   (λy q=>by
    rcases iM.mp q with z|z
    .let#[w,a,b]:=hw y z;show#[w,a,9]
    rw[d2.mp z,L];show#[D,s,oL _])
  show#[k::o,by rw[r,mX];rfl,4,4,by rw[e5];lia]
  .show((ds.getD k d9).t:Int)+yv ds o=u;rwa[B,xE N]
  intro j i;rcases dQ.mp i with rfl|i
  .exact(gM.mp N).1
  show-I j i
end dP
namespace bX
open PySem PySem.Spec PyProof.Rows al PySem.W
structure aBo(n:Nat)(lt:QR):Prop where
 DI:∀i j k,lt i j=jx->lt j k=jx->lt i k=jx
 to:∀i j,i<n->j<n->i≠j->lt i j=jx\/lt j i=jx
 aEV:∀i,lt i i=jA
abbrev oc(p:Array Nat)(a:Nat):Nat:=p.getD a 0
section
variable{X:bA}{o e f:Expr}{eU ty qe:TE}{fS gu:Pos}
def aoR(eU ty qe:TE):TE:=λU H Q=>eU U H λx d=>∃a,x=.ref a/\EF d a/\ty U d λy g=>qe U g λz c=>∃b k,y=ec k/\c a=ja (.cO b)/\b.Z<sizeLine/\
 (∀v,dV b k=ja v->Q v c)/\(dV b k=jp->Q z (upd c a (.cO (gy b k z))))
def ala(aY:a' X o eU)(Z:a' X e ty)(E:a' X f qe)(m:M2 X o "setdefault" fS e f gu):a' X (.Call (.Attribute o "setdefault" fS) [e,f] [] gu) (aoR eU ty qe):=by
 intro c s U H Q I h;show-afi m.base m.dy m.line Qx aju PySem.F.type_dict_setdefault (bT (aY c s U H _ I h) λu s1 g=>?_);let#[x,V,w,D,a,R,d,G]:=g;subst R;obtain rfl:u=c1 a:=D;let#[t1,T,_]:=PO w d;show#[t1,T,4];rw[m.trees];refine Jh rfl (Ji (Eu (bT (Z c s1 U V _ w G) λnu s2 g=>?_)));let#[y,B,F,M,O]:=g;show-Eu (bT (E c s2 U B _ F O) λn s3 g=>?_);let#[z,i,p,r,b,k,P,t,lk,q,k4]:=g;show-O' ?_;subst P;let#[nJ,K,vs,l,A]:=J1 p.bC t;let g:vs.Z<=sizeLine:=by rwa[<-l.Z]
 let jN:=l.val k;show-abH aju A.typeIs PySem.F.entry_dict_setdefault (PySem.F.args_dict_setdefault_3 _ _ _) (kt_meets_setdefault (jD X.prog X.w) a (AR M) K n) #[vs,A,g,λv j=>?_,λhn Y L r5=>?_]
 .rw[j]at jN;cases ev:dV b k with
  |none=>rw[ev]at jN;show-jN.elim
  |some v1=>
   rw[ev]at jN;show#[v1,i,p.tok _,jN,q v1 ev]
 let v0:dV b k=jp:=by
  rw[hn]at jN;cases ev:dV b k with
  |none=>rfl
  |some v=>rw[ev]at jN;show-jN.elim
 let C:(gy b k z).Z<=sizeLine:=by have:=Nn b k z;lia
 let N:∃q,Y.get? a=ja q:=let⟨q,_,_,J,_⟩:=L;#[q,J]
 show#[z,_,IC (ob:=.cO (gy b k z)) p (by rw[t];show-nX) r5 N (PW C K (l.put k r) L),r,k4 v0]
end
section
variable{prog:cx}{w:b0}{A:et}{E:cL}{s:aS}{d:Addr}{ep:Nat}{es:Array pG}
def nL.lt{h:Heap}(x:nL h d es ep):d<h.Y:=(let⟨_,aY,_⟩:=x;dO aY)
def nL.at'{h a:Heap}(x:nL h d es ep)(k:∀o,h.get? d=ja o->a.get? d=ja o):nL a d es ep:=(let⟨o,aY,r⟩:=x;#[o,k o aY,r])
theorem ahu(m:A.handled=jp)(I:Addr)(r:d≠I):Walks prog w A I [I,d] [I] es.size (λi v=>∃e,es[i]?=ja e/\v=e.key) (λi h=>h.IsKeyIter I d i es.size ep/\nL h d es ep)where
 sub:=λb a=>by simp at a;simp[a]
 frame:=λ_ _ _ st g=>#[st.1.at λo e=>g I qv o e,st.2.at' λo e=>g d qv o e]
 item:=λi s Q E l st c=>by refine Ś st.1 st.2 l λf p k=>c _ f s.toks #[es[i],by simp[l],2] #[p,st.2.at' λo e=>(k.2 d r).trans e] λb o a e=>(k.2 b (λz=>a (by simp[z]))).trans e
 done:=λs Q E st c=>ă m st.1 st.2 (cy _) λf n=>c f s.toks λb o a e=>n b o (λz=>a (by simp[z])) e
 self:=λ_ _ _ _ st c=>wpAny_pyIter_keyiter st.1 c
theorem alb(lo:(d==k7)=jA):KdlSrc prog w "dict" d d es.size (λi v=>∃e,es[i]?=ja e/\v=e.key) (λh=>nL h d es ep)where
 type:=λ_ hm=>let⟨o,aY,a,_⟩:=hm;#[o,aY,a.1]
 there:=λ_ hm=>#[hm.lt,hm.lt]
 keep:=λ_ _ hm c=>hm.at' λo e=>c d (.inl rfl) o e
 notList:=by decide
 notTuple:=by decide
 hint:=λ_ _ _ _ hm b=>kdl_hint_dict (let⟨o,aY,a,_⟩:=hm;#[o,aY,a.1]) b
 iter:=λ_ s f hm=>#[6,(λ_ _ b=>Ć lo hm b),ahu f _ (fH hm.lt),#[#[_,g4 _ rfl,2,2],hm.at' λo e=>d8 _ e]]
end
section
variable{X:bA}
def amz{n:Int}(h:(jD P w).is (.inl n) v=jx):RelV (V.int n) v:=by let#[t,e]:=aly h;show#[t,e]
end
end bX
namespace dP
open PySem al bX cE
theorem ĉ:∀{kvs:List (List bU×al.V)},(∀p∈kvs,∃r:Row,p=([.inr r.1,.inr r.2.1],.int r.2.2))->∃rs,kvs=jb rs
 |[],_=>#[[],2]
 |p::q,h=>by let#[r,2]:=h p (.head _);let#[rs,2]:=ĉ (kvs:=q) λp a=>h p (.tail _ a);show#[r::rs,2]
def WY(a:ba)(ds:cY)(g h:Str):Bool:=decide (h≠g)&&(i0 a ds h g).isSome
def asA(a:ba)(ds:cY)(g:Str)(L:bY):List Row:=(L.filter (WY a ds g)).map λh=>(h,g,best a ds h g)
def KL(a:ba)(ds:cY)(L:bY):List Row:=L.flatMap λg=>asA a ds g (a.map S)
def OF{b:ba}{L:bY}{r:Row}(h:r∈KL b ds L):r.1∈b.map S/\r.2.1∈L/\r.1≠r.2.1/\(i0 b ds r.1 r.2.1).isSome=jx/\r.2.2=best b ds r.1 r.2.1:=by let#[g,l,f]:=Qf.mp h;let#[k,c,2]:=cD.mp f;let#[d,a]:=yB.mp c;unfold WY at a;simp only[cJ,decide_eq_true_eq]at a;show#[d,l,a.1,a.2,2]
def amA{a:ba}{L:bY}{h g:Str}(b:h∈a.map S)(c:g∈L)(f:h≠g)(d:(i0 a ds h g).isSome=jx):(h,g,best a ds h g)∈KL a ds L:=by show-Qf.mpr #[g,c,cD.mpr #[h,yB.mpr #[b,4],2]];unfold WY;rw[cQ f,d];rfl
theorem Ċ{a:Type}[DecidableEq a]{k:a}:∀{l:List (a×al.V)}{j:Nat},(l.map (·.1)).Nodup->l[j]?=ja (k,v)->dV l k=ja v
 |[],j,_,h=>by simp at h
 |p::r,0,aC,h=>by simp only[Qd,Qr]at h;subst h;exact o3 rfl
 |p::r,j+1,aC,h=>by
  rw[hL,jj]at aC;let b:r[j]?=ja (k,v):=by simpa using h
  rw[pX (λz=>aC.1 (by rw[z];show-cD.mpr #[_,eX b,2]))];show-Ċ aC.2 b
def nh.rows{a:ba}{kvs:gq}(T:nh a ds kvs):∃rs:List Row,kvs=jb rs/\rs.Nodup/\∀r,r∈rs↔r∈KL a ds (a.map S):=by
 let val:∀p∈kvs,dV kvs p.1=ja p.2:=λp b=>by let#[j,s]:=qk b;show-Ċ T.kQ.aC (show kvs[j]?=ja (p.1,p.2)from s)
 let#[rs,e]:=ĉ (kvs:=kvs) λp b=>by let#[h,g,f,6,6,k]:=T.get (val p b);show#[(h,g,best a ds h g),BA f k]
 subst e;show#[rs,2,4,λr=>#[λl=>?_,λl=>?_]]
 .let d:=T.kQ.aC;unfold jb at d;rw[hp]at d;exact(Qh.mp d).imp λh z=>h (by rw[z])
 .let b:(([.inr r.1,.inr r.2.1],.int r.2.2):List bU×al.V)∈jb rs:=cD.mpr #[r,l,2];let#[h,g,f,o,q,A,w,k]:=T.get (val _ b);let#[m,n]:=JB (h:=r.1) (g:=r.2.1) f;let t:r=(h,g,best a ds h g):=BA m (BA n (V.int.inj k));rw[t];show-amA o q A w
 let#[o,q,A,w,e]:=OF l;let K:=T.kQ.yes r.1 r.2.1 #[o,A,w];let#[j,y,i]:=Y_ (show(dV (jb rs) (h7 r.1 r.2.1)).isSome=jx by rw[K];rfl);let N:=val _ (eX i);rw[K]at N;let#[c,B,L]:=cD.mp (eX i);let#[m,n]:=JB (h:=c.1) (g:=c.2.1) (gF ĝ L);let u:V.int c.2.2=y:=gF Prod.snd L;let x:c.2.2=best a ds r.1 r.2.1:=by have:=gN N;rw[<-u]at this;exact(V.int.inj this).symm
 let t:r=c:=BA m.symm (BA n.symm (by rw[e,x]));rwa[t]
end dP
namespace bX
open PySem PySem.Spec PyProof.Rows al
open PySem.W
section
variable{prog:cx}{w:b0}{A:et}{E:cL}{s:aS}{vs:en}
def Τ{e:Nat}{R:PySem.Fin->aS->Prop}(aY:s.heap.get? a=ja (mO "list" vs.toArray e))(K:vs.Z<2)(h:∀r c,aaW a s.heap r->r.get? a=ja (mO "list" vs.toArray c)->R (.done (.ret .none)) {s with heap:=r}):
  aQ (bj prog w) A (Builtin.«list.sort» #[[.ref a],[]]) R E s:=by
 obtain⟨n,f⟩:∃k,(s.heap.update a (E9 λ_=>(#[]:mm))).get? a=ja (mO "list" #[] k):=#[_,avF aY λ_=>(#[]:mm)]
 let d:vs.Z<=sizeLine:=by rw[vA];lia
 rw[list_sort_plain];show-az (listItems_at aY rfl (az (listUpdate_at aY rfl ?_ (by rwa[hY]) (ei _))));show-az (seqEpoch_at f rfl (az (afq ?_ d)));show-az (afp (mR ?_) (ei _));dsimp only;generalize y:((s.heap.update a (E9 λ_=>(#[]:mm))).push (mO "tuple" vs.toArray 0)).push (mO "list" #[] 0)=p;let m:p.get? a=ja (mO "list" #[] n):=by rw[<-y];show-d8 _ (d8 _ f)
 let N:aaW a s.heap p:=λb o l q=>by rw[<-y];show-d8 _ (d8 _ ((φ _ _ _ _ l).trans q))
 let g:vs.toArray.size<2:=by rwa[hY]
 rw[b2 g,b2 g];let t:(vs.toArray.zip vs.toArray).map (·.2)=vs.toArray:=by apply Jd.mp;simp only[Array.toList_map,Array.toList_zip];show-List.map_snd_zip (cy _)
 show-az (bu (az (bu (az (seqEpoch_at m rfl (az (listUpdate_at m rfl ?_ (ei _) ?_)))))))
 .show aQ _ _ (if(n !=n)=jx then _ else _) _ _ _;rw[bL qv];obtain⟨c,L⟩:∃c,(p.update a (E9 λ_=>(vs.toArray.zip vs.toArray).map (·.2))).get? a=ja (mO "list" ((vs.toArray.zip vs.toArray).map (·.2)) c):=#[_,avF m λ_=>(vs.toArray.zip vs.toArray).map (·.2)]
  show-bu (h _ c (λb o l q=>(φ _ _ _ _ l).trans (N b o l q)) ?_);show-L.trans (by rw[t])
 show((vs.toArray.zip vs.toArray).map (·.2)).size<=_;rw[t,hY];show-eh d (aiE _ _)
def ahn{Q:cL}(p:s.heap.IsList l vs.toArray)(k:vs.Z<2)(h:∀D d c,s.L<=D->KO s.heap d->d.get? D=ja (mO "list" vs.toArray c)->Q (.ref D) {s with heap:=d}):
  aQ (bj prog w) A (call (.builtin "sorted") ([.ref l]:en)) Q E s:=by
 let a:vs.Z<=sizeLine:=by rw[vA];lia
 show-agf kind_sorted plain_sorted entry_sorted (args_sorted1 (.ref l)) ?_;unfold Builtin.«sorted»;show-az (m:=checkCount "sorted" 1 1 _) (bu (az (collect_list p ?_ a)));show-az (afp ?_ a);generalize g:(s.heap.push (mO "list" #[] 0)).update s.heap.objs.size (E9 (·++vs.toArray))=G;let f:G.Y=s.L+1:=by rw[<-g,Heap.size_update,size_push']
 let r:KO s.heap (G.push (mO "list" vs.toArray 0)):=λb o q=>d8 _ (by
  rw[<-g,φ _ _ _ _ (fH (dO q))];show-d8 _ q)
 show aQ _ _ _ _ _ {s with heap:=G.push (mO "list" vs.toArray 0)};let a8:(G.push (mO "list" vs.toArray 0)).get? G.Y=ja (mO "list" vs.toArray 0):=g4 _ rfl;show-az (mR (nI azs #[_,a8,2] auN ?_ (atX _)));show-Τ (s:={s with heap:=G.push (mO "list" vs.toArray 0)}) a8 k λd c x n=>?_;show#[1,bu #[1,h _ d c (by rw[f];show-E6 _) (λb o q=>x b o (fH (by rw[f];show-wo (dO q))) (r b o q)) n]]
def agZ{es:Array pG}{ep:Nat}{Q:cL}(lo:(d==k7)=jA)(u:A.handled=jp)(hm:nL s.heap d es ep)(p:vs=es.toList.map (·.key))(L:vs.Z<2)(h:∀a D l t c,KO s.heap a->a.Y<=D->KO a l->l.get? D=ja (mO "list" vs.toArray c)->Q (.ref D) {s with heap:=l,toks:=t}):
  aQ (bj prog w) A (call (.builtin "sorted") ([.ref d]:en)) Q E s:=by
 let k:vs.Z<=sizeLine:=by rw[vA];lia
 let B:es.size=vs.Z:=by rw[p,bQ,OS]
 show-agf kind_sorted plain_sorted entry_sorted (args_sorted1 (.ref d)) ?_;unfold Builtin.«sorted»;show-az (m:=checkCount "sorted" 1 1 _) (bu ?_);show-az (kdu_collect (A:=A.in1) (alb (ep:=ep) (es:=es) lo) u hm (by rwa[B]) λa i f z n=>?_);let y:f.G=vs:=by
  apply Qa;intro j;rw[p,ea];by_cases V:j<es.size
  .let g:j<f.size:=by rw[n.1];show-V
   let#[e,r,K]:=n.2 j f[j] (by simp[g]);rw[OR,OR,r,Zs g];show-gF ja K
  rw[OR,OR,OQ (by rw[n.1];lia),OQ jQ];rfl
 rw[y];show-az (afp ?_ k);let a8:(a.push (mO "list" vs.toArray 0)).get? a.Y=ja (mO "list" vs.toArray 0):=g4 _ rfl;show-az (mR (nI azs #[_,a8,2] auN ?_ (atX _)));show-Τ (s:={s with heap:=a.push (mO "list" vs.toArray 0),toks:=i}) a8 L λl c x N=>?_;show#[1,bu #[1,h a _ l _ c z (cy _) (λb o q=>x b o (fH (dO q)) (d8 _ q)) N]]
end
section
variable{X:bA}
inductive asB(K:aI)(xs:aL)(H:af)(Q:aO):Prop where
 |mk(p:Addr)(ws:aL)(_:xs=[.ref p])(_:aM K H p ws)(_:ws.Z<2)(_:∀l,H l=jp->Q (.ref l) (upd H l (.lst ws)))
def X4:kB X (.builtin "sorted") (asB X.K):=by intro k s U H L K Q I r h;let#[p,w,2,m,y,q]:=h;let#[u,2,e3]:=vals1 r;cases e3;let#[t,f,pl,n]:=I.list m;let g:=f.Z;show-ahn pl.isList jQ λD A c d x l=>?_;show#[.ref D,_,I.laid (a:=D) (o:=.lst w) (t':=s.toks) (λb o q=>x b o q) d #[n,_,c,f,l],2,q D (I.bC.fresh d)]
inductive aqL(xs:aL)(H:af)(Q:aO):Prop where
 |mk(p:Addr)(kvs:List (bU×V))(ns:kd)(_:xs=[.ref p])(_:H p=ja (.cO kvs))(_:kvs.map (·.1)=ns.map lg)(_:ns.Z<2)(_:∀l,H l=jp->Q (.ref l) (upd H l (.lst (ns.map V.int))))
def agd(m:X.calm=jx):kB X (.builtin "sorted") aqL:=by
 intro k s U H T R Q I r h;let#[p,F,d,2,j,f,B,q]:=h;let#[u,2,e3]:=vals1 r;cases e3;let z:X.A.handled=jp:=I.ok.hd m;let#[P,lo,Y,y,o,L,G,aY,N,C,_,w,M]:=J1 I.bC j;let K:dM (d.map V.int) (L.toList.map (·.key)):=by
  generalize L.G=O at w;cases y with
  |nil=>
   cases w;cases d with
   |nil=>show-.nil
   |cons _ _=>cases f
  |cons a b=>
   cases d with
   |nil=>cases f
   |cons n d=>
    cases d with
    |cons _ _=>show-bk B qv
    |nil=>
     cases w with
     |cons l ak t=>
      rw[hL,hL,ahO]at f;cases b with
      |cons _ _=>cases f.2
      |nil=>
       cases t;rw[<-a.1,f.1]at l;show-.cons (amz l) .nil
 let i:=K.Z;rw[bQ]at i;refine agZ lo z #[o,aY,N,C] rfl jQ λl D J t c E g x m=>?_;let A:Inv X k U H {s with heap:=l,toks:=t}:=I.kept (t':=t) λb o e=>E b o e;show#[.ref D,_,A.laid (a:=D) (o:=.lst (d.map V.int)) (t':=t) (λb o q=>x b o q) g #[by rw[bQ,vA];lia,_,c,K,m],2,q D (A.bC.fresh g)]
end
end bX
namespace dP
open PySem al bX cE
inductive aa5(C:Addr)(vs:aL)(H:af)(Q:aO)(fE:bF):Prop where
 |mk(x ah n t:Addr)(_:vs=[.ref x])(_:H x=ja (.ins C ah (lE n t)))(_:H t=ja (.dA []))(_:∀(l:Addr)(H':af),H l=jp->av H H'->H' l=ja (.lst [])->Q (.ref l) H')
section
variable{P:cx}{w:b0}{K:aI}{mg:b6}{base:Heap}
abbrev NF:Stmt:=gT (top 59) 5
def as0:cp eg eg (bW NF):=({})
def aq0{f:Addr}(F:b1 K "pairs" "Ways.pairs" NF f fd)(B:fc mg)(V:tS K C):-aA a6 1 f fd eg (aa5 C):=by
 show-F.ok as0 (λO A L s H vs Q E ao h=>?_);let#[x,N,n,t,2,d,r,q]:=h;show#[_,(a9 (ct (d4 X4 B.sorted N5 (aj (aqq (j0 (N':=["pair","road"]) (cs:=[jp,jp]) rfl (alo (dE (aa 0))) rfl qL rfl qL (hv (λp M=>bk M (ee))) rfl
   (.own (.own .nil))
   (λC s3 Y bP de=>#[(IB (K:=K) (n:=2) rfl rfl (ng (ed 0 (by show(["pair","road"]:bY).Nodup;decide+kernel)) (ng (ed 1 (by show(["pair","road"]:bY).Nodup;decide+kernel)) xx))),iQ,(qW (aj (ck (Ae (K:=K) rfl) (aa 0) bt) (aj (ck (Ae (K:=K) rfl) (aa 0) bt) (aj (aa 1) ay))))]))) ay)))),4]
 ac_rfl
 let J:x≠t:=λz=>by rw[z,r]at d;cases d
 dsimp only[t4,pq,js];show#[t,[],r,λo=>?_];let X:upd H t (.fi o (.dA [])) x=ja (.ins C N (lE n t)):=by rwa[aJ J]
 refine akf (H1:=upd H t (.fi o (.dA []))) (a:=t) (o:=o) (kvs:=[]) (rest:=[]) (λR h=>#[1,x,C,N,_,1,X,V.cl,V.eT,2,t,o,1,aN,h]) rfl aN qc (λ_=>[]) (λi k oG b Z R U ax c w1=>nomatch U) (λD H1 bB j a8 T G=>?_);cases T;let g:D≠t:=λz=>by rw[z,aN]at j;cases j
 let m:=G _ _ (aN (H:=H) (a:=t) (o:=.fi o (.dA [])));let I:av H (upd H1 t (.dA [])):=λb v e=>by
  by_cases c:b=t
  .rw[c]at e⊢;rw[aN,<-e,r]
  rw[aJ c];show-G _ _ (by rwa[aJ c])
 show#[m,D,1,aM.of (by rw[aJ g];show-a8),8,λl y=>q l _ ?_ (I.trans (b7 y)) aN];cases e:H l with
 |none=>rfl
 |some u=>rw[I _ _ e]at y;cases y
theorem alc{L:bY}:∀{c:List (Str×Str)},c.Nodup->(∀p∈c,p.1∈L/\p.2∈L)->c.Z<=L.Z*L.Z:=λ{c}d h=>by
 let sub:c ⊆ L.flatMap λa=>L.map λb=>(a,b):=λp k=>by let#[f,g]:=h p k;show-Qf.mpr #[p.1,f,cD.mpr #[p.2,g,2]]
 have:=HH d sub;rw[ah7]at this;let e:(L.map λa=>(L.map λb=>(a,b)).Z)=L.map λ_=>L.Z:=JV λa _=>bQ ..;rw[e]at this;let s:∀(M:bY),((M.map λ_=>L.Z).sum)=M.Z*L.Z:=λM=>by
  induction M with
  |nil=>simp
  |cons a r i=>rw[hL,Bi,i,e5,Kb];lia
 rwa[s]at this
abbrev Xw:Stmt:=gT (top 8) 0
def as1:cp Bm Bm (bW Xw):=({})
def aq1{f:Addr}(F:b1 K "__init__" "NoWay.__init__" Xw f fd)(B:fc mg)(d:oS K mg "RoadError" C R)(x:mg "RoadError"=ja (.ref R))(i:cK K (.ref C) "reason"=ja jp)(j:cK K (.ref C) "seen"=ja jp):-aA a6 1 f fd Bm (Ry C):=by
 show-F.ok as1 (λu A N s H vs Q E I h=>?_);let#[e,s,v,G,2,L,g,q]:=h;show#[_,(a3 (gD (ο qF x d.fN d.LH d.DD (aj (aa 0) (aj cF ay))))
  (a3 (Pp (y:="RoadError") (R:=R) (aa 0) (aa 1) rfl)
  (a9 (Pp (y:="RoadError") (R:=R) (aa 0) (iP zv B.list vr (aj (aa 2) ay)) rfl)))),4]
 show#[1,e,C,1,L,d,sz_,4];show#[5,e,C,2,d,i,.inl #[L,λn m V=>?_]];let t:s≠e:=λz=>by rw[z,L]at g;cases g
 let r:s≠n:=λz=>by rw[z,m]at g;cases g
 show#[1,s,G,2,.inl (aM.of (by rwa[aJ t,aJ r])),λl a=>?_];let p:l≠e:=λz=>by rw[z,aN]at a;cases a
 rw[aJ p]at a;let k:l≠n:=λz=>by rw[z,aN]at a;cases a
 rw[aJ k]at a;show#[1,e,C,2,d,j,.inr #[n,[("reason",v)],4,4,(by show 1<100;decide),4]]
 .rw[aJ (dG p)];show-aN
 .rw[aJ (dG k),aJ V];show-aN
 show-q n l _ m a (dG k) (λb o c D=>?_) ?_ ?_ ?_
 .rw[aJ (λz=>by rw[z,m]at c;cases c),aJ (λz=>by rw[z,a]at c;cases c),aJ D,aJ (λz=>by rw[z,m]at c;cases c)];show-c
 .rw[aJ (dG V),aJ (dG p)];show-aN
 .exact aN
 rw[aJ k];show-aN
abbrev HX:Stmt:=gT (top 59) 4
abbrev axQ:List Str:=["self","house","goal","taken","seen","number","come_to"]
def Fp:cp axQ gh (bW HX):=({})
inductive ahb(H:af)(Q:aO)(E:bF)(dR x lG hH:Addr)(hs:ba)(ds:cY)(kvs:gq)(h' g':Str)(m:Nat)(U:al.St)(cn:af):Prop where
 |mk(c:Str)(sn:bY)(bc:bg)(DP v6:lh)(_:U=[ja (.ref x),ja (.str h'),ja (.str g'),ja (.ref lG),ja (.ref hH),DP,v6])(_:av H cn)(_:cn lG=ja (.lst (nats bc)))(_:cn hH=ja (.lst (rk sn)))(_:al.hZ (rk sn) (-1)=ja (.str c))(_:∀y∈sn,y∈hs.map S)(_:sn.Nodup)(_:Rz dR (kY kvs hs ds g' m c sn bc) H Q E)(_:m+sn.Z=14)(_:bc.Z+1=sn.Z)
def aq2{f:Addr}(F:b1 K "route" "Ways.route" HX f fd)(g:tS K C)(eW:ef K aD)(ll:cR K aD "need_house" "Net.need_house" A6 lR f1 cg)(rP:-aA (dn P w) 1 f1 cg lR (Jo aD fQ))(kR:cR K aD "road" "Net.road" xM dv f2 dY)(zz:-aA (dn P w) 1 f2 dY dv (Pd aD ic))(Ii:oS K mg "RoadError" dR R)(qP:mg "NoWay"=ja (.ref dR))(Φ:m4 K (.ref dR)=jx)(Χ:cK K (.ref dR) "__init__"=ja (ja (.ref nf)))(Ψ:rI K (.ref nf)=jx)(Nf:-aA a6 1 nf F7 Bm (Ry dR))(Ε:Binds K F7 Bm []):
  -aA (iv P w) 3 f fd gh (RA C aD fQ dR):=by
 show-je F Fp (λcdv A outer s H vs Q E u h=>?_);let#[x,n,t,bb,bh,l,rs,ds,X,T,j,2,W,G,cW,tab,q,gp]:=h;let#[ah,aq]:=W.ins;let#[eR,hn]:=W.fo.ins;show#[_,(a3 (gD (fg (dE (aa 0)) eW ll.d5 rP u.mono ll.bd .nil OM (aj (aa 1) ay)))
  (a3 (gD (fg (dE (aa 0)) eW ll.d5 rP u.mono ll.bd .nil OM (aj (aa 2) ay)))
  (a3 (dg 3 Fp.aC (gc ay))
  (a3 (dg 4 Fp.aC (gc (aj (aa 1) ay)))
  (a3 (Zd ajd (gs AP (ck e4 (aa 4) (AO Au bt)) (aa 2) (e9 _))
   (a3 (dg 5 Fp.aC (Oc (kW u) (dE (aa 0)) (qW (aj (ck e4 (aa 4) (AO Au bt)) (aj (aa 2) ay))) #[2,2,2,2]))
  (a3 (eu (gs vy (aa 5) kn (e9 _)) (a9 (HF Ii qP Φ Χ Ψ Nf u.mono Ε rfl (aj cF (aj (aa 4) ay)))) eH)
  (a3 (dg 6 Fp.aC (ck eN (fg (dE (aa 0)) eW kR.d5 zz u.mono kR.bd .nil OM (aj (aa 5) ay)) bt))
  (a3 (eu (gs ZK (aa 6) (aa 4) qF) (a9 (HF Ii qP Φ Χ Ψ Nf u.mono Ε rfl (aj cF (aj (c5 oo (aa 4) (gc (aj (aa 6) ay))) ay)))) eH)
  (a3 (gD (kV rH ur uu r6 (aa 3) (aj (aa 5) ay)))
  (a9 (gD (kV rH ur uu r6 (aa 4) (aj (aa 6) ay))))))))))
  (a9 (ct (aa 3)))))))),4]
 show#[1,x,C,ah,_,1,aq,g.cl,g.nn,2,n,eR,1,hn,7,n,bb,bh,l,_,T,2,W.fo,λe2=>?_,λZ=>gp (.inl Z)];show#[1,x,C,ah,_,1,aq,g.cl,g.nn,2,n,eR,1,hn,7,n,bb,bh,l,_,j,2,W.fo,λhc=>?_,λZ=>gp (.inr Z)];show#[ei _,λY jL=>#[1,sz_,λb B=>?_]];let q:=q e2 hc;let s3:=b7 (o:=.lst []) jL;let b4:=b7 (o:=.lst [V.str T]) B;let VQ:b≠Y:=λz=>by rw[z,aN]at B;cases B
 let axI:H b=jp:=by rwa[aJ VQ]at B
 show#[ahb H Q E dR x Y b l ds X T j,#[13,T,[T],[],jp,jp,2,s3.trans b4,b4 _ _ aN,aN,2,4,4,q,2,2],4]
 .intro y N;rwa[d2.mp N]
 .exact jj.mpr #[ee,pI]
 rintro m U cn ⟨c,a,O,DP,v6,rfl,M,aV,cT,p,sub,aC,q,hm,au⟩;let Vx:a.Z<=12:=by have:=HH aC sub;rw[bQ]at this;show-eh this G.dy
 obtain⟨m,rfl⟩:∃eO,m=eO+1:=#[m-1,9]
 let aEO:(rk a).Z=a.Z:=bQ _;show#[5,b,_,3,aM.of cT,p,1,7,4];unfold kY at q;by_cases Ml:c=j
 .rw[b2 Ml]at q;show-fv (by rw[Ml];simp) #[1,q Y cn jL M aV]
 rw[bL Ml]at q;show-ey (by simp[Ml]) #[_,λbq H' h=>#[m,yK _,h],4];let U':=M _ _ aq;show#[1,x,C,ah,_,1,U',g.cl,g.eT,2,t,2,.inr #[X,.inl (M _ _ W.told)],5,b,_,3,aM.of cT,p,1,sz_,λr iq=>#[_,j4.t (k:=h7 c j) ((b7 iq) _ _ (M _ _ W.told)) aN,4]];let NR:=b7 (o:=.tup [V.str c,V.str j]) iq;let L:=M.trans NR;let TC:=NR _ _ aV;let D:=NR _ _ cT;generalize upd cn r (.tup [V.str c,V.str j])=H1 at NR L TC D⊢;rcases tab.get c j with⟨aG,aP⟩|⟨i,aG,aP,hi⟩
 .rw[aP]at q;rw[aG];show#[1,7,ey qc #[1,sz_,λe ne=>ų q L D ne]]
 rw[aP]at q;rw[aG];show#[1,7,fv qv ?_];obtain⟨d6,h2⟩:∃d6,rs[i]?=ja d6:=#[_,ew (by rwa[cW.len])]
 let#[d,dc,auB,Cq]:=cW.get h2;let iC:px l ds i=S (l.getD d.b []):=by unfold px;rw[xE dc]
 let SN:al.hZ (bw rs) (i:Int)=ja (.ref d6):=jV (by unfold bw;rw[ea,h2];rfl);show#[1,x,C,ah,_,1,L _ _ aq,g.cl,g.nn,2,n,eR,1,L _ _ hn,7,n,bb,bh,6,(i:Int),2,W.fo.same L,λ_=>#[_,SN,4],λZ=>bk #[9,by rw[gX,cW.len];lia] Z];show#[d6,_,3,cH.of (L _ _ Cq),2,4];simp only[iC]at q;let BL:S (l.getD d.b [])∈l.map S:=cD.mpr #[_,getD_mem' auB.b,2];generalize S (l.getD d.b [])=kz at q BL⊢;show#[5,b,1,.inl (aM.of D),2,YP _,1,4];by_cases pV:kz∈a
 .rw[b2 pV]at q;show-ey (î pV) #[5,sz_,λayR J=>#[b,ayR,3,(b7 J) _ _ D,aN,mZ (e8 (by show(rk a).Z+1<=1000;lia)),λaeu vl=>#[sz_,λe ne=>ų q (L.trans ((b7 J).trans (b7 vl))) (by rw[aN];unfold rk;rw[fP];rfl) ne]]]
 rw[bL pV]at q;show-fv (Zv pV) ?_;let aEQ:(nats O).Z=O.Z:=bQ _;show#[1,.inl #[2,_,aM.of TC],1,Y,3,TC,e8 jQ,4];let I:upd H1 Y (.lst (nats O++[V.int (i:Int)])) b=ja (.lst (rk a)):=by rwa[aJ VQ]
 show#[1,.inl #[2,_,aM.of I],1,b,3,I,e8 jQ,4];show#[kz,a++[kz],O++[i],_,1,gE axI (gE jL L),4,4,4,4,4,q,4,4]
 .rw[aJ (dG VQ),aN];unfold nats;rw[fP];rfl
 .rw[aN];unfold rk;rw[fP];rfl
 .exact δ a kz
 .intro y N;rcases iM.mp N with N|N
  .exact sub y N
  rw[d2.mp N];show-BL
 .exact Zw aC pV
 .rw[dT];show m+(a.Z+1)=14;lia
 rw[dT,dT];show O.Z+1+1=a.Z+1;lia
inductive abd(C aD fQ:Addr)(vs:aL)(H:af)(Q:aO)(E:bF):Prop where
 |mk(x n t bb bh:Addr)(hs:ba)(ys:aL)(kvs:gq)(h g:Str)(_:vs=[.ref x,.str h,.str g])(_:oq C aD H x n t bb bh (dK hs) ys kvs)(_:Good hs)(_:b8 H (.str h) (.str h))(_:b8 H (.str g) (.str g))(_:(h0 (a8 hs) (.str h) (.str g)=jx->∀H',av H H'->Q .cw (upd H' t (.dA (Fs kvs (h7 h g))))))(_:(h0 (a8 hs) (.str h) (.str g)=jA->∀H',av H H'->E (.ref fQ) jp H'))
abbrev Nz:Stmt:=gT (top 59) 2
def as2:cp gh gh (bW Nz):=({})
def aq3{f:Addr}(F:b1 K "drop_way" "Ways.drop_way" Nz f fd)(g:tS K C)(p:cR K C "need_pair" "Ways.need_pair" Dz gh f2 u)(J:-aA (dn P w) 2 f2 u gh (KW C aD fQ)):
  -aA (dn P w) 3 f fd gh (abd C aD fQ):=by
 let D:=g.cl;show-iH F as2 (λ_ A _ s H vs Q E l h=>?_);let#[x,n,t,e,i,B,O,a,c,b,2,W,G,L,j,q,z]:=h;let#[k,m]:=W.ins;show#[_,(a3 (gD (fg (aa 0) D p.d5 J l.mono p.bd .nil jn (aj (aa 1) (aj (aa 2) ay))))
  (a9 (gD (alp (kW l) (dE (aa 0)) (qW (aj (aa 1) (aj (aa 2) ay))) kn #[2,2,2,2])))),4]
 show#[1,x,k,1,m,7,1,x,n,t,e,i,B,_,a,.str c,.str b,.str c,.str b,2,W,G,L,j,(by show 0<=60;decide),(by show 0<=60;decide),λN M d=>?_,z];show#[1,x,C,k,_,1,d _ _ m,g.cl,g.eT,2,t,2,.inr #[_,.inl (d _ _ W.told)],5,sz_,λr I=>?_];let y:=b7 (o:=.tup [V.str c,V.str b]) I;show#[a,h7 c b,r,2,y _ _ (d _ _ W.told),aN,q N _ (d.trans y)]
inductive Ÿ(C R:Addr)(vs:aL)(H:af)(Q:aO)(E:bF):Prop where
 |mk(x bb bh:Addr)(hs:ba)(rs:b5)(ds:cY)(h g:Str)(_:vs=[.ref x,.str h,.str g])(_:ih C H x bb bh (dK hs) (bw rs))(_:gO H hs rs ds)(_:hs.Z<=12)(_:h∈hs.map S->g∈hs.map S->∀H',av H H'->Q (Fu (d3.dist (jY hs ds) h g)) H')(_:h∉hs.map S\/g∉hs.map S->E (.ref R) jp H)
abbrev KM:Stmt:=gT (top 57) 6
def aq4:cp gh gh (bW KM):=({})
def ao8{f i:Addr}(F:b1 K "far" "Net.far" KM f fd)(l:sN K C)(b:cR K C "need_house" "Net.need_house" A6 lR i J)(G:-aA (dn P w) 1 i J lR (Jo C R))(Z:bO K mg "least_turns_from" El yG ez e)(I:-aA a6 2 ez e yG (Pn K)):
  -aA (dn P w) 3 f fd gh (Ÿ C R):=by
 let V:=l.cl;show-iH F aq4 (λU A r s H vs Q E a h=>?_);let#[x,y,g,m,rs,ds,B,j,2,n,O,X,q,u]:=h;let#[c,d]:=n.ins;show#[_,(a3 (gD (fg (aa 0) V b.d5 G a.mono b.bd .nil jn (aj (aa 1) ay)))
  (a3 (gD (fg (aa 0) V b.d5 G a.mono b.bd .nil jn (aj (aa 2) ay)))
  (a9 (ct (Oc (kW a) (dp I Z a.mono cd (aj (dE (aa 0)) (aj (aa 1) ay))) (aa 2) #[2,2,2,2]))))),4]
 show#[1,x,c,1,d,7,x,y,g,m,_,B,2,n,λN=>?_,λz=>u (.inl z)];show#[1,x,c,1,d,7,x,y,g,m,_,j,2,n,λY=>?_,λz=>u (.inr z)];show#[1,x,C,c,_,1,d,l.cl,l.iq,7,g,m,rs,ds,B,2,aM.of n.oA,O,X,N,λp H' o D np M t T L=>?_];show#[p,2,.inl #[o,.inl t],1,_,j4.k (k:=f' j) t,4];rw[T.at_,amH,d3.abS L];show-q N Y H' M
end
structure RK(mg:b6):Prop where
 aiv:sY mg "MOST_LETTERS" 40
 Ql:sY mg "MOST_TURN" 1000000000
 ait:sY mg "MOST_APART" 30
def lu(b:f_):PyData->Bool
 |.tuple [a,t,g]=>h0 b a g&&qR 0 1000000000 t
 |_=>jA
def agz{ds:f_}(h:ds.Z≠3):lu hs (.tuple ds)=jA:=by rcases ds with _|⟨a,_|⟨b,_|⟨c,_|⟨e,r⟩⟩⟩⟩<;>first|rfl|(simp at h)
def sz:PyData->Int
 |.tuple [_,.int t,_]=>t
 |_=>0
def agA{d:PyData}(h:lu hs d=jx):∃a t g,d=.tuple [a,.int t,g]/\0<=t/\t<=1000000000:=by
 unfold lu at h;split at h
 .rename_i a t g;rw[cJ]at h;cases t with
  |int i=>
   let b:(decide (0<=i)&&decide (i<=1000000000))=jx:=h.2;rw[cJ]at b;show#[a,i,g,2,j2 b.1,j2 b.2]
  |_=>cases h.2
 cases h
def Eb(a:kd):Int:=if a=[]then 0 else A7 a-p' a
inductive Ř(vs:aL)(H:af)(Q:aO)(fE:bF):Prop where
 |mk(a:Addr)(hs:f_)(v:al.V)(d:PyData)(_:vs=[.ref a,v])(_:b8 H (.ref a) (.list hs))(_:b8 H v d)(_:d.depth<=61)(_:Q (.aX (lu hs d)) H)
inductive ċ(vs:aL)(H:af)(Q:aO)(fE:bF):Prop where
 |mk(v:al.V)(hs ds:f_)(_:vs=[v])(_:b8 H v (.list ds))(_:(∀d∈ds,lu hs d=jx))(_:∀H',av H H'->Q (.int (Eb (ds.map sz))) H')
inductive FC(C:Addr)(vs:aL)(H:af)(Q:aO)(fE:bF):Prop where
 |mk(e:Addr)(v:al.V)(_:vs=[.ref e,v])(_:H e=ja (mw e C))(_:∀ah,H ah=jp->ah≠e->Q .cw (upd (upd H ah (mS ah [("number",v)])) e (mv e C ah)))
def nj(a:f_):List PyData->Option Nat
 |[]=>jp
 |d::r=>if lu a d=jx then(nj a r).map (·+1)else ja 0
def RL:Option Nat->al.V
 |some i=>.int i
 |none=>.cw
def rl(a ds:f_):Prop:=nj a ds=jp/\ds.Z<=40/\Eb (ds.map sz)<=30
inductive Q6(C e6:Addr)(vs:aL)(H:af)(Q:aO)(E:bF):Prop where
 |mk(x bb bh:Addr)(hs:ba)(zs:aL)(v:al.V)(ds:f_)(_:vs=[.ref x,v])(_:ih C H x bb bh (dK hs) zs)(_:Good hs)(_:b8 H v (.list ds))(_:(Kt ds).depth<=62)(_:(rl (a8 hs) ds->∀l H',H l=jp->av H H'->b8 H' (.ref l) (.list ds)->Q (.ref l) H'))(_:(¬rl (a8 hs) ds->∀ah H',H ah=jp->av H H'->H' ah=ja (mS ah [("number",RL (nj (a8 hs) ds))])->E (.ref e6) (ja ah) H'))
section
variable{P:cx}{w:b0}{K:aI}{mg:b6}{base:Heap}
abbrev Xv:Stmt:=gT (top 6) 0
def as3:cp dv dv (bW Xv):=({})
def aq5{f:Addr}(F:b1 K "__init__" "NoLetter.__init__" Xv f fd)(a:oS K mg "RoadError" C R)(d:mg "RoadError"=ja (.ref R))(c:cK K (.ref C) "number"=ja jp):-aA a6 1 f fd dv (FC C):=by
 show-F.ok as3 (λ_ A _ s H vs Q E g h=>?_);let#[e,v,2,b,q]:=h;show#[_,(a3 (gD (ο qF d a.fN a.LH a.DD (aj (aa 0) (aj cF ay))))
  (a9 (Pp (y:="RoadError") (R:=R) (aa 0) (aa 1) rfl))),4]
 ac_rfl
 show#[1,e,C,1,b,a,sz_,4];show#[5,e,C,2,a,c,.inl #[b,q]]
abbrev KN:Stmt:=top 24
def aq6:cp ql ql (bW KN):=({})
def ao9{f:Addr}(F:b1 K "is_letter" "is_letter" KN f fd)(O:RK mg)(C:bO K mg "is_tuple_of" Av rE f1 i)(o:-aA a6 1 f1 i rE OU)(D:bO K mg "are_unlike_houses" DK s7 f2 j)(n:-aA a6 1 f2 j s7 N4)(J:bO K mg "is_whole_within" IE wg e u)(p:-aA a6 2 e u wg Y9):
  -aA a6 3 f fd ql Ř:=by
 show-F.ok aq6 (λ_ A _ s H vs Q E k h=>?_);let#[a,l,v,d,2,t,h,y,q]:=h;show#[_,(a9 (ct (kT (dp o C k.mono cd (aj (aa 1) (aj bt ay))) (kT (dp n D k.mono cd (aj (aa 0) (aj (ck eN (aa 1) bt) (aj (ck eN (aa 1) bt) ay)))) (qV (dp p J k.mono cd (aj (ck eN (aa 1) bt) (aj bt (aj (vi qF O.Ql) ay))))))))),4]
 ac_rfl
 show#[1,v,d,1,h,1,KJ (λg=>?_) λg=>(am3 (f:=lu l) (λ_=>agz) (λd _=>by cases d<;>first|rfl|contradiction) g)▸q];let#[r,M,N,x,d9,c,b,2,2,m,G,I,L]:=am2 h (aaV g).1 (aaV g).2;let R:pK [d9,c,b]+1<=61:=y;let B:d9.depth<=60:=eh (C_ (by simp:d9∈[d9,c,b])) jQ;let V:b.depth<=60:=eh (C_ (by simp:b∈[d9,c,b])) jQ;let q:Q (.aX (h0 l d9 b&&qR 0 1000000000 c)) H:=q;show#[5,r,_,3,cH.of m,7,r,_,3,cH.of m,2,a,l,M,x,d9,b,2,t,G,L,B,V,1,KJ (λz=>#[1,r,_,3,cH.of m,2,N,c,_,1,I,by rwa[z]at q]) λz=>by rwa[z]at q]
abbrev JC:Stmt:=top 25
def č:cp ["letters","turns"] ["letters"] (bW JC):=({})
theorem ZR:∀{vs:aL}{ds:f_},eP H vs ds->(∀d∈ds,lu hs d=jx)->vs.map (λv=>V.int (sz (uL H v)))=(ds.map sz).map V.int
 |_,_,.nil,_=>rfl
 |_,_,.cons a b,h=>by simp only[hL];rw[ut a,ZR b λd c=>h d (nO _ c)]
def alz{f:Addr}(F:b1 K "turns_apart" "turns_apart" JC f fd)(B:fc mg):-aA a6 1 f fd ["letters"] ċ:=by
 show-F.ok č (λ_ A _ s H vs Q E M h=>?_);let#[v,U,ds,2,y,k,q]:=h;let#[a,xs,2,g,b,t]:=qX y;show#[_,(a3 (z3 (i:=1) č.aC rfl rfl rfl (N':=["letter"]) (cs:=[jp]) rfl (hF (aa 0)) rfl qL rfl qL (hv (λp V=>bk V (ee))) rfl
   (.own .nil)
   (λC X G O T=>#[(ed 0 (by show(["letter"]:bY).Nodup;decide+kernel)),iQ,(ck (Ae (K:=K) rfl) (aa 0) bt)]))
  (a9 (ct (c5 Jk (Ŵ jx A7 rfl rfl qF B.max (aj (aa 1) ay) bt) (Ŵ jA p' rfl rfl qF B.min (aj (aa 1) ay) bt))))),4]
 ac_rfl
 dsimp only[h4,t5];refine DM (J:=j9 K a) (H1:=H) (xs:=xs) (rest:=[]) (λR h=>#[1,a,2,#[_,aM.of g],h]) rfl (oj (aM.of g)) (e8 jQ) (λv=>.int (sz (uL H v))) (λi x N R j e l=>?_) (λD H' I c L=>?_)
 .let#[d,dc,m]:=t.get j;let#[c6,o,b_,2,6]:=agA (k d (eX dc));let n:=l N (av.refl _);rw[ut m]at n;clear l;let#[r,Y,2,u,_,ty]:=PR (m.same e);cases ty with
  |cons t0 ty=>
   cases ty with
   |cons t1 ty=>
    cases ty with
    |cons fq ty=>
     cases ty;obtain rfl:=PQ t1;show#[1,r,_,3,cH.of u,2,n]
 rw[ZR t k]at c;let q:=q H' L;unfold Eb at q;by_cases b:ds.map sz=[]
 .rw[b2 b]at q;show#[1,.int 0,D,ds.map sz,2,2,aM.of c,λ_=>?_,λz=>bk b z];show#[1,.int 0,D,ds.map sz,2,2,aM.of c,λ_=>#[3,q],λz=>bk b z]
 rw[bL b]at q;show#[1,.int 0,D,ds.map sz,2,2,aM.of c,λz=>bk z b,λ_=>?_];show#[1,.int 0,D,ds.map sz,2,2,aM.of c,λz=>bk z b,λ_=>#[3,q]]
abbrev FD:Stmt:=top 26
def Kd:cp ["net","some","houses","number","thing"] yH (bW FD):=({})
theorem afH:∀{ds:f_}{i:Nat},(∀j,j<i->∀d,ds[j]?=ja d->lu hs d=jx)->(∃d,ds[i]?=ja d/\lu hs d=jA)->nj hs ds=ja i
 |[],i,_,⟨d,e,_⟩=>by simp at e
 |x::r,0,_,⟨d,e,h⟩=>by simp at e;subst e;unfold nj;rw[bL (by rw[h];show-hB)]
 |x::r,i+1,q,⟨d,e,h⟩=>by unfold nj;rw[b2 (q 0 jQ x rfl),afH (ds:=r) (i:=i) (λj a d dc=>q (j+1) jQ d (by simpa using dc)) #[d,by simpa using e,h]];rfl
theorem W_:∀{ds:f_},(∀d∈ds,lu hs d=jx)↔nj hs ds=jp
 |[]=>by simp[nj]
 |x::r=>by
  unfold nj;by_cases h:lu hs x=jx
  .rw[b2 h];constructor
   .intro q;rw[W_.mp λd hd=>q d (nO _ hd)];rfl
   intro q;let a:nj hs r=jp:=by
    cases e:nj hs r with
    |none=>rfl
    |some k=>rw[e]at q;cases q
   intro d hd;rcases dQ.mp hd with rfl|hd
   .exact h
   show-W_.mpr a d hd
  rw[bL h];constructor
  .intro q;show-bk (q x (we ..)) h
  intro q;cases q
def apa{f:Addr}(F:b1 K "letters_of" "letters_of" FD f fd)(B:fc mg)(yc:RK mg)(eW:ef K C)(jm:cR K C "houses" "Net.houses" xl eg f1 cg)(m_:-aA a6 1 f1 cg eg (C9 C))(CK:bO K mg "is_letter" KN ql f2 dY)(Yc:-aA a6 3 f2 dY ql Ř)(Cy:bO K mg "turns_apart" JC ["letters"] cV iW)(Xa:-aA a6 1 cV iW ["letters"] ċ)(xd:oS K mg "RoadError" e6 R)(qC:mg "NoLetter"=ja (.ref e6))(Nq:m4 K (.ref e6)=jx)(Nr:cK K (.ref e6) "__init__"=ja (ja (.ref nf)))(Nt:rI K (.ref nf)=jx)(za:-aA a6 1 nf F7 dv (FC e6))(Nu:Binds K F7 dv []):
  -aA (iv P w) 4 f fd yH (Q6 C e6):=by
 show-je F Kd (λ_ A _ s H vs Q E D h=>?_);let#[x,bb,bh,hs,zs,v,ds,2,n,G,aT,dd,q,gp]:=h;let#[c,aq]:=n.ins;let#[a,xs,2,T,hz,t]:=qX aT;show#[_,(a3 (dg 2 Kd.aC (oa (aa 0) eW jm.d5 m_ D.mono jm.bd .nil cd))
  (a3 (l6 ajd rfl (OA rfl B.enumerate (aj (aa 1) ay)) (PU rfl (ng (ed 3 Kd.aC) (ng (ed 4 Kd.aC) xx)))
   (a9 (eu (jF (jE (dp Yc CK D.mono cd (aj (aa 2) (aj (aa 4) ay))))) (a9 (HF xd qC Nq Nr Nt za D.mono Nu rfl (aj (aa 3) ay))) eH)))
  (a3 (eu (lS.pt (x2 (gs AQ (d4 jC B.len iT (aj (aa 1) ay)) (vi qF yc.aiv) (e9 _)) (xS (gs AQ (dp Xa Cy D.mono cd (aj (aa 1) ay)) (vi qF yc.ait) (e9 _))))) (a9 (HF xd qC Nq Nr Nt za D.mono Nu rfl (aj kn ay))) eH)
  (a9 (ct (iP zv B.list vr (aj (aa 1) ay))))))),4]
 ac_rfl
 show#[1,x,c,1,aq,2,x,bb,bh,_,1,n,λl nl=>?_];let M:av H (upd H l (.lst (dK hs))):=b7 nl;let mB:=EA (H:=upd H l (.lst (dK hs))) G aN;generalize upd H l (.lst (dK hs))=H1 at M mB⊢;let go:∀(g:af)(v:al.V),av H g->v=RL (nj (a8 hs) ds)->¬rl (a8 hs) ds->∀e,g e=jp->FC e6 (V.ref e::[v]) (upd g e (mw e e6)) (λu Y=>u=.cw/\∃c,Y e=ja (mv e e6 c)/\E (.ref e6) (ja c) (del Y e)) dZ:=λg v r ev mE e ne=>by
  show#[e,v,2,aN,λc aC p4=>#[2,c,aN,4]];let M0:g c=jp:=by rwa[aJ p4]at aC
  let aG:del (upd (upd (upd g e (mw e e6)) c (mS c [("number",v)])) e (mv e e6 c)) e=upd g c (mS c [("number",v)]):=by
   funext b;by_cases k:b=e
   .subst k;rw[OL,aJ (dG p4)];show-ne.J
   rw[q0 k,aJ k];by_cases jH:b=c
   .subst jH;rw[aN,aN]
   rw[aJ jH,aJ jH,aJ k]
  rw[aG];show-gp mE c _ (r.free M0) (r.trans (b7 M0)) ?_;rw[aN,ev]
 show#[1,a,2,#[_,aM.of (M _ _ T)],4];show-π (K:=K) (a:=a) (xs:=xs) (λi U g=>av H1 g/\(∀j,j<i->∀d,ds[j]?=ja d->lu (a8 hs) d=jx)/\∃u v,U=[ja (.ref x),ja (.ref a),ja (.ref l),u,v]) #[av.refl _,λj I=>bk I jQ,jp,jp,2] (λi U g h=>aM.of (h.1 _ _ (M _ _ T))) ?_ ?_
 .rintro i z U g p eo ⟨r,k,u,v,rfl⟩ np;let#[d,dc,Z]:=t.get eo;let O:=b7 (o:=.tup [V.int (i:Int),z]) np;let m:=M.trans (r.trans O);let Ug:pK ds+1<=62:=dd;let m9:d.depth<=61:=eh (C_ (eX dc)) jQ;show#[p,1,cH.of aN,2,_,1,3,4];show#[5,l,a8 hs,z,d,2,mB.same (r.trans O),Z.same m,m9,1,4];cases hi:lu (a8 hs) d with
  |true=>show-gV #[r.trans O,λj I d' pR=>by
    rcases yJ j i with h|h
    .exact k j h d' pR
    rw[show j=i by lia,dc]at pR;cases pR;show-hi,ja (.int (i:Int)),ja z,2]
  |false=>
   let y:=afH (hs:=a8 hs) k #[d,dc,hi];show-hb #[1,sz_,go _ _ m (by rw[y];rfl) λJ=>?_];have:=J.1;rw[y]at this;cases this
 rintro U g ⟨r,k,u,v,rfl⟩;let X:=M.trans r;let L:∀d∈ds,lu (a8 hs) d=jx:=λd Z=>by let#[j,I,2]:=Qg.mp Z;show-k j (by rwa[t.len]) _ (ew I)
 let y:=W_.mp L;let Md:=X _ _ T;let hlen:=t.len;show#[1,a,xs,2,.inl (aM.of Md),3,1,4];by_cases Gf:ds.Z<=40
 .refine fv (dJ jQ) #[1,.ref a,a8 hs,ds,2,aT.same X,L,λY O=>?_];let m:=X.trans O;show#[3,1,4];by_cases N:Eb (ds.map sz)<=30
  .refine fv (dJ jQ) ?_;show#[1,a,xs,2,.inl (aM.of (m _ _ T)),λdr p5=>?_];let b4:=b7 (o:=.lst xs) p5;show-q #[y,Gf,N] dr _ (m.free p5) (m.trans b4) (.lst aN hz (t.same (m.trans b4)))
  show-ey (cQ jQ) #[sz_,go _ _ m (by rw[y];rfl) λJ=>N J.2.2]
 show-ey (cQ jQ) ?_;show-hb #[sz_,go _ _ X (by rw[y];rfl) λJ=>Gf J.2.1]
def jJ(n l y:Addr)(d:al.V):List (Str×al.V):=[("net",.ref n),("kept_letters",.ref l),("ways",.ref y),("day",d)]
end
structure oz(K:aI)(C:Addr):Prop where
 cl:ef K C
 nn:cK K (.ref C) "net"=ja jp
 nl:cK K (.ref C) "kept_letters"=ja jp
 gH:cK K (.ref C) "ways"=ja jp
 aC:cK K (.ref C) "day"=ja jp
set_option genInjectivity false in
structure gr where
 (ah n l y t bb bh:Addr)
 rs:List Addr
 d:al.V
set_option genInjectivity false in
structure ft where
 hs:List bg
 ds:List cE.f9
 bN:List nY
 bH:List Row
def qT(d:nY):PyData:=.tuple [.str d.1,.int d.2.1,.str d.2.2]
structure Kh(H:af)(A dC:gr):Prop where
 t:dC.t=A.t\/H dC.t=jp
 l:dC.l=A.l\/H dC.l=jp
 a:dC.bb=A.bb\/H dC.bb=jp
 b:dC.bh=A.bh\/H dC.bh=jp
 y:dC.y=A.y\/H dC.y=jp
 n:dC.n=A.n\/H dC.n=jp
 d:dC.d=A.d
structure iE(a_ CW aD:Addr)(H:af)(x:Addr)(A:gr)(s:ft):Prop where
 ins:H x=ja (.ins a_ A.ah (jJ A.n A.l A.y A.d))
 fF:oq CW aD H A.y A.n A.t A.bb A.bh (dK s.hs) (bw A.rs) (jb s.bH)
 fA:gO H s.hs A.rs s.ds
 lt:b8 H (.ref A.l) (.list (s.bN.map qT))
def iE.same{A:gr}{s:ft}(D:iE a_ CW aD H x A s)(a:av H H'):iE a_ CW aD H' x A s:=(#[a _ _ D.ins,D.fF.same a,D.fA.same a,D.lt.same a])
def Tame(o:hX):Prop:=(∀C d n l y v,o≠.ins C d (jJ n l y v))/\∀k,o≠.dA k
def ra(H H':af):Prop:=∀b o,Tame o->H b=ja o->H' b=ja o
def z4:Tame (.lst l):=(#[λ_ _ _ _ _ _=>nofun,λ_=>nofun])
def OX:Tame (.tup l):=(#[λ_ _ _ _ _ _=>nofun,λ_=>nofun])
def HJ{t:Addr}:Tame (.ins C d (lE n t)):=(#[λ_ _ _ _ _ _ h=>(by injection h with _ _ h;show-bk (gF wc h) (show¬(2:Nat)=4 by decide)),λ_=>nofun])
def Ζ:Tame (.ins C d (Fg a b)):=(#[λ_ _ _ _ _ _ h=>(by injection h with _ _ h;show-bk (gF wc h) (show¬(2:Nat)=4 by decide)),λ_=>nofun])
theorem ih.jw(n:ih C H x bb bh xs e)(a:ra H H'):ih C H' x bb bh xs e:=
 let⟨b,h⟩:=n.ins
 #[#[b,a _ _ Ζ h],a _ _ z4 n.u7,a _ _ z4 n.oA]
def h5.jw{rs ds}(h:h5 H rs ds)(a:ra H H'):h5 H' rs ds:=(b9.ju h λ_ _ e=>a _ _ OX e)
def gO.jw{hs rs ds}(r:gO H hs rs ds)(a:ra H H'):gO H' hs rs ds:=(#[r.gZ.jw a,r.ok])
mutual
theorem b8.jw:∀{v:al.V}{d:PyData},b8 H v d->ra H H'->b8 H' v d
 |_,_,.cw,_=>.cw
 |_,_,.aX b,_=>.aX b
 |_,_,.int i,_=>.int i
 |_,_,.str x z ok,_=>.str x z ok
 |_,_,.lst h z t,ax=>.lst (ax _ _ z4 h) z (eP.jw t ax)
 |_,_,.tup h z t,ax=>.tup (ax _ _ OX h) z (eP.jw t ax)
theorem eP.jw:∀{vs:aL}{ds:f_},eP H vs ds->ra H H'->eP H' vs ds
 |_,_,.nil,_=>.nil
 |_,_,.cons a b,ax=>.cons (b8.jw a ax) (eP.jw b ax)
end
def Η{a b:ba}{k:Nat}(h:k<a.Z):(a++b).getD k []=a.getD k []:=by rw[gL,gL,Bc h]
def amB{a:ba}{d:cE.f9}(ok:d.Ok a.Z)(b:ba):nA (a++b) d=nA a d:=by unfold nA;rw[Η ok.a,Η ok.b]
def gO.acm{hs rs ds}(r:gO H hs rs ds)(a:ba):gO H (hs++a) rs ds:=by
 show#[4,λd b=>?_]
 .rw[JV λd b=>amB (r.ok d b) a];show-r.gZ
 let o:=r.ok d b;let l:(hs++a).Z=hs.Z+a.Z:=dT;show#[by rw[l];show-jk o.a (ü ..),by rw[l];show-jk o.b (ü ..),o.ne,o.t,o.m]
structure Q7(hs:ba)(ds:cY)(r:Row):Prop where
 a:r.1∈hs.map S
 b:r.2.1∈hs.map S
 ne:r.1≠r.2.1
 at_:∃(k:Nat)(d:cE.f9),r.2.2=(k:Int)/\ds[k]?=ja d/\S (hs.getD d.a [])=r.1
structure BM(hs:ba)(ds:cY)(bH:List Row):Prop where
 aC:(bH.map λr=>(r.1,r.2.1)).Nodup
 dy:bH.Z<64
 ok:∀r∈bH,Q7 hs ds r
section
variable{P:cx}{w:b0}{K:aI}{mg:b6}{base:Heap}
inductive RM(a_ CW aD:Addr)(vs:aL)(H:af)(Q:aO)(E:bF):Prop where
 |mk(x fj a2 gb:Addr)(A:gr)(s:ft)(hs:ba)(rs:b5)(ds:cY)(_:vs=[.ref x,.ref fj])(_:iE a_ CW aD H x A s)(_:ih aD H fj a2 gb (dK hs) (bw rs))(_:Good hs)(_:gO H hs rs ds)(_:rs.Z<=40)(_:s.bH=[])
   (ir:∀H' fG t',H fG=jp->H t'=jp->(∀b o,b≠x->H b=ja o->H' b=ja o)->iE a_ CW aD H' x #[A.ah,fj,A.l,fG,t',a2,gb,rs,A.d] #[hs,ds,s.bN,[]]->Q .cw H')
abbrev HU:Stmt:=gT (top 120) 2
def RN:cp ["self","net","ways","pair"] mj (bW HU):=({})
inductive ag3(JJ:af)(x fj fG t':Addr)(j:Nat)(U:al.St)(H:af):Prop where
 |mk(md:lh)(_:U=[ja (.ref x),ja (.ref fj),ja (.ref fG),md])(_:av JJ H)
def aq7{f:Addr}(F:b1 K "change_net" "Desk.change_net" HU f fd)(n:oz K a_)(iR:ef K CW)(r9:mg "Ways"=ja (.ref CW))(IM:nQ K CW lZ)(n6:mi K CW "Ways.__init__" DB mj lZ uT)(u0:-aA a6 1 lZ uT mj (KV CW))(zw:cR K CW "pairs" "Ways.pairs" NF eg f1 cg)(I:-aA a6 1 f1 cg eg (aa5 CW))(n2:cR K CW "set_way" "Ways.set_way" DA s9 f2 dY)(uK:-aA (dn P w) 3 f2 dY s9 (KX CW aD fQ ic)):
  -aA a6 4 f fd mj (RM a_ CW aD):=by
 show-F.ok RN (λ_ fO _ s0 H vs Q E J h=>?_);let#[x,g,a2,gb,A,s,hs,rs,ds,2,D,N,G,R,aet,T,q]:=h;show#[_,(a3 (dg 2 RN.aC (tI IM u0 J.mono qF r9 n6.bd .nil cd (aj (aa 1) ay)))
  (a3 (l6 lT rfl (hF (oa (dE (aa 0)) iR zw.d5 I J.mono zw.bd .nil cd)) (ed 3 RN.aC)
   (a9 (gD (fg (aa 2) iR n2.d5 uK J.mono n2.bd .nil J2 (aj (ck eN (aa 3) bt) (aj (ck eN (aa 3) bt) (aj (ck eN (aa 3) bt) ay)))))))
  (a3 (jo (aa 0) (aa 1) rfl)
  (a9 (jo (aa 0) (aa 2) rfl))))),4]
 ac_rfl
 show-cut λu V=>?_;show#[1,λc bZ B Hb aee=>#[c,bZ,1,aN,λd eT=>#[2,4]]];let X:H d=jp:=gQ (gE (o:=.ins CW bZ []) B (b7 (o:=.own c) Hb)) eT;let ty:c≠d:=cI (H:=upd (upd H bZ (.own c)) c (.ins CW bZ [])) aN eT;let p:av H (upd (upd (upd (upd H bZ (.own c)) c (.ins CW bZ [])) d (.dA [])) c (.ins CW bZ (lE g d))):=gE B (gE X (gE B (b7 Hb)));let t:upd (upd (upd (upd H bZ (.own c)) c (.ins CW bZ [])) d (.dA [])) c (.ins CW bZ (lE g d)) c=ja (.ins CW bZ (lE g d)):=aN;let Z:upd (upd (upd (upd H bZ (.own c)) c (.ins CW bZ [])) d (.dA [])) c (.ins CW bZ (lE g d)) d=ja (.dA []):=by rw[aJ (dG ty),aN]
 show-jd u V λu V=>?_;show h4 _ _ _ _ (upd (upd (upd (upd H bZ (.own c)) c (.ins CW bZ [])) d (.dA [])) c (.ins CW bZ (lE g d)));generalize upd (upd (upd (upd H bZ (.own c)) c (.ins CW bZ [])) d (.dA [])) c (.ins CW bZ (lE g d))=JJ at p t Z⊢;let#[r,L]:=D.fF.ins;let dq:x≠d:=cI D.ins X;let i:H A.t=ja (.dA []):=by have:=D.fF.told;rwa[T]at this
 show#[1,x,a_,A.ah,_,1,p _ _ D.ins,n.cl,n.gH,2,A.y,r,1,p _ _ L,2,A.y,r,A.n,A.t,2,p _ _ L,p _ _ i,λl ag nl Y au=>#[l,2,#[_,aM.of au],4]];show-tC (K:=K) (a:=l) (xs:=[]) (ag3 ag x g c d) #[jp,2,av.refl _] (λj U k _⟨_,_,h⟩=>aM.of (h _ _ au)) (λj v U k ev=>nomatch ev) ?_;rintro U k ⟨md,rfl,C⟩;let m:av H k:=p.trans (Y.trans C);let y:=C _ _ (Y _ _ t);let cm:=C _ _ (Y _ _ Z);show-jd u V λu V=>?_;show#[5,x,a_,A.ah,1,m _ _ D.ins,n.cl,n.nn,(by show 4<1000;decide),4];subst V;show#[5,x,a_,A.ah,1,aN,n.cl,n.gH,(by show 4<1000;decide),4];rw[Ou];let aFo:=al.f5 y (m _ _ D.ins) (by intro z;cases z);let O:∀b o,b≠x->k b=ja o->upd k x (.ins a_ A.ah (jJ g A.l c A.d)) b=ja o:=λb o M e=>by rwa[aJ M]
 let st:ra k (upd k x (.ins a_ A.ah (jJ g A.l c A.d))):=λb o to e=>O b o (λz=>to.1 _ _ _ _ _ _ (gN (e.symm.trans ((gF k z).trans (m _ _ D.ins))))) e;show-q _ c d B X (λb o M e=>O b o M (m _ _ e)) #[aN,#[#[bZ,st _ _ HJ y],(N.same m).jw st,O _ _ (dG dq) cm],(R.same m).jw st,(D.lt.same m).jw st]
structure lQ(s:ft):Prop where
 g:Good s.hs
 dy:s.ds.Z<=40
 bH:BM s.hs s.ds s.bH
 jG:s.hs.Z<=7
 lf:s.bN.Z<=40
 lk:∀d∈s.bN,d.1∈s.hs.map S/\d.2.2∈s.hs.map S/\d.1≠d.2.2/\0<=d.2.1/\d.2.1<=1000000000
inductive RO(K:aI)(C la:Addr)(vs:aL)(H:af)(Q:aO)(E:bF):Prop where
 |good(_:Jn K C vs H Q E)
 |bad(_:Pl C la vs H Q E)
theorem aq8{f:Addr}{k:Nat}(F:-aA a6 k f fd i (Jn K C))(G:-aA (dn P w) 5 f fd i (Pl C la))(m:k<=5):-aA (dn P w) 5 f fd i (RO K C la):=
 #[λvs H Q E q=>by
  rcases q with q|q
  .exact F.len vs H Q E q
  .exact G.len vs H Q E q,λA a s H args l vs Q E d g c b n=>by
  rcases n with q|q
  .refine qy ((F.mono m).run A a s H args l vs Q E d g c b q) λr o h=>?_;cases r with
   |ok v=>cases v<;>show-h
   |error e=>show-h.elim
  show-G.run A a s H args l vs Q E d g c b q]
abbrev RP:Stmt:=top 97
def aq9:cp f7 f7 (bW RP):=({})
inductive Ź(a_ CW aD la:Addr)(vs:aL)(H:af)(Q:aO)(E:bF):Prop where
 |mk(x v:Addr)(A:gr)(s:ft)(u:Str)(_:vs=[.ref x,.ref v])(_:iE a_ CW aD H x A s)(_:H v=ja (.lst [.str u]))(_:lQ s)(_:b8 H (.str u) (.str u))
   (d_:(∃n,u=S n/\Good (s.hs++[n])/\s.bH=[]/\∀H'(dC:gr),Kh H A dC->(∀b o,b≠x->H b=ja o->H' b=ja o)->iE a_ CW aD H' x dC #[s.hs++[n],s.ds,s.bN,[]]->Q (.str "ok") H')\/(xe (.list (a8 s.hs++[.str u]))=jA/\∀H',av H H'->E (.ref la) jp H'))
def apt{f:Addr}(F:b1 K "take_house" "take_house" RP f fd)(i:oz K a_)(l1:ef K a_)(O:ef K aD)(sk:mg "Net"=ja (.ref aD))(Em:nQ K aD X)(nc:mi K aD "Net.__init__" x9 rF X uT)(xf:-aA (dn P w) 5 X uT rF (RO K aD la))(U:cR K aD "houses" "Net.houses" xl eg f1 cg)(m_:-aA a6 1 f1 cg eg (C9 aD))(Y:cR K aD "roads" "Net.roads" Ak eg f2 dY)(qB:-aA a6 1 f2 dY eg (Ir aD))(rL:cR K a_ "change_net" "Desk.change_net" HU mj cV iW)(VB:-aA a6 4 cV iW mj (RM a_ CW aD)):
  -aA (dn P w) 7 f fd f7 (Ź a_ CW aD la):=by
 show-iH F aq9 (λ_ fO _ s0 H vs Q E N h=>?_);show#[_,(a3 (gD (fg (aa 0) l1 rL.d5 VB N.mono rL.bd .nil cd (aj (tI Em xf N.mono qF sk nc.bd .nil jn (aj (c5 oo (oa (dE (aa 0)) O U.d5 m_ N.mono U.bd .nil cd) (aa 1)) (aj (oa (dE (aa 0)) O Y.d5 qB N.mono Y.bd .nil cd) ay))) ay)))
  (a9 (ct cF))),4]
 ac_rfl
 show-cut λdf cS=>?_;let#[x,v,A,s,u,2,D,aT,j,cq,q]:=h;let#[M,T]:=D.fF.fo.ins;let w0:=j.g.dy;show#[1,x,A.ah,1,D.ins,2,#[1,x,a_,A.ah,_,1,D.ins,i.cl,i.nn,2,A.n,M,1,T,2,A.n,A.bb,A.bh,_,1,D.fF.fo,λl G=>#[1,l,v,3,aN,b7 G _ _ aT,e8 (by rw[DN];lia),λp np=>?_]]];let B:=gQ (b7 (o:=.lst (dK s.hs)) G) np;let d:av H (upd (upd H l (.lst (dK s.hs))) p (.lst (dK s.hs++[.str u]))):=gE B (b7 G);let V:upd (upd H l (.lst (dK s.hs))) p (.lst (dK s.hs++[.str u])) p=ja (.lst (dK s.hs++[.str u])):=aN;generalize upd (upd H l (.lst (dK s.hs))) p (.lst (dK s.hs++[.str u]))=y at d V⊢;show#[1,x,a_,A.ah,_,1,d _ _ D.ins,i.cl,i.nn,2,A.n,M,1,d _ _ T,2,A.n,A.bb,A.bh,_,1,D.fF.fo.same d,λr iq=>?_];let t:av y (upd y r (.lst (bw A.rs))):=b7 iq;let z:upd y r (.lst (bw A.rs)) r=ja (.lst (bw A.rs)):=aN;generalize upd y r (.lst (bw A.rs))=L at t z⊢;intro a c Z aC ad6;let k:av L (upd (upd L c (.own a)) a (.ins aD c [])):=gE Z (b7 aC);let C:upd (upd L c (.own a)) a (.ins aD c []) a=ja (.ins aD c []):=aN;generalize upd (upd L c (.own a)) a (.ins aD c [])=aK at k C⊢;let g:=d.trans (t.trans k);let pk:A.rs.Z<=40:=by rw[D.fA.len];show-j.dy
 rcases q with⟨n,rfl,I,X8,q⟩|⟨no,q⟩
 .let e:dK s.hs++[.str (S n)]=dK (s.hs++[n]):=by unfold dK;rw[fP];rfl
  rw[e]at V;show-.good #[a,c,p,r,s.hs++[n],A.rs,s.ds,2,C,k _ _ (t _ _ V),I,k _ _ z,(D.fA.same g).acm [n],pk,λc9 J R cf ai ak aV er jL=>#[2,4]];let xp:=gQ (d.trans t) Z;let m:av H c9:=λb o e=>cf b o (cI e xp) (g _ _ e);show#[x,a,J,R,A,s,s.hs++[n],A.rs,s.ds,2,D.same m,#[#[c,ai],ak,aV],I,(D.fA.same m).acm [n],pk,X8,λbo fG t' gH eT aU eE=>?_];subst cS;show-q bo #[A.ah,a,A.l,fG,t',J,R,A.rs,A.d] #[.inr (gQ m eT),.inl rfl,.inr (gQ g er),.inr (gQ g jL),.inr (gQ m gH),.inr xp,2] (λb o nb e=>aU b o nb (m _ _ e)) eE
 show-.bad #[a,c,.ref p,.ref r,_,1,C,(b8.lst V (by rw[dT,DN];show s.hs.Z+1<=100;lia) ((PT j.g.nm).append (.cons (cq.same d) .nil))).same (t.trans k),.lst (k _ _ z) (by rw[gX];lia) (Jw j.g (D.fA.gZ.same g) D.fA.ok),eh (ZY _ _) qc,.inl no,λH' ax=>q H' (g.trans ax)]
abbrev RW:Stmt:=top 98
def ź:cp ["desk","values","roads"] f7 (bW RW):=({})
def sG(a b:Str)(t m:Int):List al.V:=[.str a,.str b,.int t,.int m]
def YL(a b:Str)(t m:Int):PyData:=.tuple [.str a,.str b,.int t,.int m]
inductive Ż(a_ CW aD la:Addr)(vs:aL)(H:af)(Q:aO)(E:bF):Prop where
 |mk(x v:Addr)(A:gr)(s:ft)(a b:Str)(t m:Int)(_:vs=[.ref x,.ref v])(_:iE a_ CW aD H x A s)(_:H v=ja (.lst (sG a b t m)))(_:lQ s)(_:b8 H (.str a) (.str a))(_:b8 H (.str b) (.str b))
   (fW:(∃d:cE.f9,d.Ok s.hs.Z/\s.ds.Z<40/\sG a b t m=nA s.hs d/\s.bH=[]/\∀H'(dC:gr),Kh H A dC->(∀b o,b≠x->H b=ja o->H' b=ja o)->iE a_ CW aD H' x dC #[s.hs,s.ds++[d],s.bN,[]]->Q (.str (S (b_ s.ds.Z))) H')\/(It (a8 s.hs) (.list (s.ds.map (q2 s.hs)++[YL a b t m]))=jA/\∀H',av H H'->E (.ref la) jp H'))
def adc{f:Addr}(F:b1 K "take_road" "take_road" RW f fd)(B:fc mg)(Y:oz K a_)(l1:ef K a_)(eW:ef K aD)(sk:mg "Net"=ja (.ref aD))(Em:nQ K aD lZ)(nc:mi K aD "Net.__init__" x9 rF lZ uT)(xf:-aA (dn P w) 5 lZ uT rF (RO K aD la))(jm:cR K aD "houses" "Net.houses" xl eg f1 cg)(m_:-aA a6 1 f1 cg eg (C9 aD))(lp:cR K aD "roads" "Net.roads" Ak eg f2 dY)(qB:-aA a6 1 f2 dY eg (Ir aD))(rL:cR K a_ "change_net" "Desk.change_net" HU mj cV iW)(VB:-aA a6 4 cV iW mj (RM a_ CW aD)):
  -aA (dn P w) 7 f fd f7 (Ż a_ CW aD la):=by
 show-iH F ź (λ_ fO _ s0 H vs Q E U h=>?_);show#[_,(a3 (dg 2 ź.aC (oa (dE (aa 0)) eW lp.d5 qB U.mono lp.bd .nil cd))
  (a3 (gD (fg (aa 0) l1 rL.d5 VB U.mono rL.bd .nil cd (aj (tI Em xf U.mono qF sk nc.bd .nil jn (aj (oa (dE (aa 0)) eW jm.d5 m_ U.mono jm.bd .nil cd) (aj (c5 oo (aa 2) (gc (aj (iP W9 B.tuple Du (aj (aa 1) ay)) ay))) ay))) ay)))
  (a9 (ct (iP qA B.str o_ (aj (d4 jC B.len iT (aj (aa 2) ay)) ay)))))),4]
 ac_rfl
 show-cut λdf cS=>?_;let#[x,v,A,s,a,b,t,m,2,D,aT,C,aB,ae,q]:=h;let#[eR,hn]:=D.fF.fo.ins;let w0:=C.g.dy;let pk:A.rs.Z=s.ds.Z:=D.fA.len;let aez:=C.dy;show#[1,x,a_,A.ah,_,1,D.ins,Y.cl,Y.nn,2,A.n,eR,1,hn,2,A.n,A.bb,A.bh,_,1,D.fF.fo,λr iq=>?_];let i:av H (upd H r (.lst (bw A.rs))):=b7 iq;let R:upd H r (.lst (bw A.rs)) r=ja (.lst (bw A.rs)):=aN;show-jd df cS λdf cS=>?_;show h4 _ _ _ _ (upd H r (.lst (bw A.rs)));generalize upd H r (.lst (bw A.rs))=Z at i R⊢;show#[1,x,A.ah,1,i _ _ D.ins,2,#[1,x,a_,A.ah,_,1,i _ _ D.ins,Y.cl,Y.nn,2,A.n,eR,1,i _ _ hn,2,A.n,A.bb,A.bh,_,1,D.fF.fo.same i,λl nl=>?_]];let G:av Z (upd Z l (.lst (dK s.hs))):=b7 nl;let au:upd Z l (.lst (dK s.hs)) l=ja (.lst (dK s.hs)):=aN;generalize upd Z l (.lst (dK s.hs))=M at G au⊢;let aw5:=G _ _ (i _ _ aT);show#[5,v,1,.inl #[aM.of aw5,λg xv=>#[sz_,λp np=>#[r,p,3,b7 np _ _ (b7 xv _ _ (G _ _ R)),aN,e8 (by rw[gX];lia),λc mK=>?_]]]];let zW:=gQ (b7 (o:=.tup (sG a b t m)) xv) np;let V':=gQ (gE (o:=.lst [.ref g]) zW (b7 (o:=.tup (sG a b t m)) xv)) mK;let I:av M (upd (upd (upd M g (.tup (sG a b t m))) p (.lst [.ref g])) c (.lst (bw A.rs++[.ref g]))):=gE V' (gE zW (b7 xv));let X:upd (upd (upd M g (.tup (sG a b t m))) p (.lst [.ref g])) c (.lst (bw A.rs++[.ref g])) c=ja (.lst (bw A.rs++[.ref g])):=aN;let J:upd (upd (upd M g (.tup (sG a b t m))) p (.lst [.ref g])) c (.lst (bw A.rs++[.ref g])) g=ja (.tup (sG a b t m)):=b7 mK _ _ (b7 np _ _ aN);generalize upd (upd (upd M g (.tup (sG a b t m))) p (.lst [.ref g])) c (.lst (bw A.rs++[.ref g]))=T at I X J⊢;intro k L nn aC ad6;let N:av T (upd (upd T L (.own k)) k (.ins aD L [])):=gE nn (b7 aC);let kq:upd (upd T L (.own k)) k (.ins aD L []) k=ja (.ins aD L []):=aN;generalize upd (upd T L (.own k)) k (.ins aD L [])=aK at N kq⊢;let f6:=i.trans (G.trans I);let V:=f6.trans N;rcases q with⟨d,eb,aBt,dc,X8,q⟩|⟨no,q⟩
 .rw[dc]at J;let h2:bw A.rs++[.ref g]=bw (A.rs++[g]):=by unfold bw;rw[fP];rfl
  rw[h2]at X;let m5:∀{u:af},av H u->u g=ja (.tup (nA s.hs d))->gO u s.hs (A.rs++[g]) (s.ds++[d]):=λ{u}j cT=>by
   show#[4,λe he=>?_]
   .rw[fP];exact(D.fA.gZ.same j).snoc cT
   rcases iM.mp he with h|h
   .exact D.fA.ok e h
   rwa[d2.mp h]
  let O:(A.rs++[g]).Z<=40:=by rw[dT];show A.rs.Z+1<=40;lia
  show-.good #[k,L,l,c,s.hs,A.rs++[g],s.ds++[d],2,kq,N _ _ (I _ _ au),C.g,N _ _ X,m5 V (N _ _ J),O,λu a2 gb cf ai ak aV er jL=>#[2,4]];let xp:=gQ f6 nn;let j:av H u:=λb o e=>cf b o (cI e xp) (V _ _ e);show#[x,k,a2,gb,A,s,s.hs,A.rs++[g],s.ds++[d],2,D.same j,#[#[L,ai],ak,aV],C.g,m5 j (cf _ _ (cI J nn) (N _ _ J)),O,X8,λbo fG t' gH eT aU eE=>?_];subst cS;let awS:bo r=ja (.lst (bw A.rs)):=aU _ _ (al.f5 (i _ _ D.ins) R (by intro z;cases z)).symm (cf _ _ (cI (I _ _ (G _ _ R)) nn) (N _ _ (I _ _ (G _ _ R))));show#[1,r,1,.inl (aM.of awS),((s.ds.Z:Nat):Int),4,Dn jQ,4]
  .rw[gX,pk]
  show Q (.str (dH (toString ((s.ds.Z:Nat):Int)))) bo;rw[si];show-q bo #[A.ah,k,A.l,fG,t',a2,gb,A.rs++[g],A.d] #[.inr (gQ j eT),.inl rfl,.inr (gQ V er),.inr (gQ V jL),.inr (gQ j gH),.inr xp,2] (λb o nb e=>aU b o nb (j _ _ e)) eE
 show-.bad #[k,L,.ref l,.ref c,_,1,kq,(EA C.g au).same (I.trans N),.lst (N _ _ X) (by rw[dT,gX];show A.rs.Z+1<=100;lia) ((Jw C.g (D.fA.gZ.same V) D.fA.ok).append (.cons (.tup (ds:=[.str a,.str b,.int t,.int m]) (N _ _ J) (by show 4<=100;decide) (.cons (aB.same V) (.cons (ae.same V) (.cons (.int t) (.cons (.int m) .nil))))) .nil)),4,.inr #[1,no],λH' ax=>q H' (V.trans ax)];simp only[E_];show-eh (Ka (HE (n:=1) λe he=>?_)) qc;rcases iM.mp he with h|h
 .let#[y,1]:=cD.mp h;show-κ _ y
 rw[d2.mp h];show-cy 1
abbrev abe(r:Row):Str×Str:=(r.1,r.2.1)
def anl{a:ba}{b:List Row}(d:a.Z<=7)(f:(b.map abe).Nodup)(ok:∀r∈b,Q7 a ds r):b.Z<64:=by
 let h:=alc (L:=a.map S) f λp g=>by let#[r,c,2]:=cD.mp g;show#[(ok r c).a,(ok r c).b]
 rw[bQ,bQ]at h;have:a.Z*a.Z<=7*7:=J' d d
 lia
end
def aho{c:ba}{ds:cY}{l:List Row}(R:∀d∈ds,d.Ok c.Z)(z:c.Z<=7)(w:l.Nodup)(f:∀r,r∈l↔r∈KL c ds (c.map S)):BM c ds l:=by
 let u:∀e∈jY c ds,1<=e.t:=λe q=>by let#[d,j,2]:=cD.mp q;exact(R d j).t.1
 let ok:∀r∈l,Q7 c ds r:=λr N=>by let#[a,b,n,x,m]:=OF ((f r).mp N);let#[v,K]:=wu.mp x;let p:=(Ih u K n).1;rw[<-m]at p;let#[i,s]:=qk p;let#[k,d,y,A,h]:=Ot (v:=.int r.2.2) (by rw[ea,s];rfl);show#[a,b,n,k,d,V.int.inj y,A,h]
 let g:(l.map abe).Nodup:=Qh.mpr (w.imp_of_mem λ{a b}t L n e=>n (by
  let#[6,6,o]:=OF ((f a).mp t);let#[6,6,m]:=OF ((f b).mp L);let#[B,C,F]:=a;let#[E,D,G]:=b;cases e;dsimp only at o m;rw[o,m]))
 show#[g,anl z g ok,ok]
end dP
namespace bX
open PySem PySem.Spec PyProof.Rows al
section
variable{P:cx}{w:b0}{K:aI}{mg:b6}{base:Heap}{N:bY}{qual:Str}{scope:Scope}{f:Addr}{cdv:a5}{A:et}{outer:List Env}{s:aS}{H:af}{E:bF}
def alA{E2:cL}(I:Inv (!eI) pins U i sc)(T:lA P w (!eI).stack i sc h cls x H' B j)(G:E cls jp H'):
  aQ (bj P w) (A.deeper (qD qual scope s.heap.objs.size f cdv)) (leaving (qD qual scope s.heap.objs.size f cdv) (.ref h)) (λ_ R=>dn P w outer H s E (.ref h) R) E2 j:=by
 refine az9 I.ok.frames rfl T.ez λY l M=>?_;let L:iO (fa (!eI).stack) [] i H' sc.heap j.Q:=T.un;let p:∀b o,s.heap.get? b=ja o->b∉fa outer->∃c,B.get? b=ja c/\(H b=jp->c=o):=λb o e a=>by let#[o1,z]:=I.base.there b o e (by simp[eI,j3]);let#[c,m,q]:=T.h3 b o1 z (Ad I e a);show#[c,m,λn=>?_];let g:=I.base.keep b o e n a (by simp[eI,j3]);rw[z]at g;cases g;show-q (I.base.free b _ e n (by simp[eI,j3]))
 show#[h,cls,x,H',B,2,#[l,T.os.trans I.os,T.bare,T.ok,#[λb o e n a d=>?_,λb o e n a d=>?_,λb o e n d=>?_,λb o e d=>?_,λb V q=>T.un.gZ b V (I.base.gZ b V q),λb o u q=>T.un.jq b o u (I.base.jq b o u q),λb O q=>?_],p],G]
 .let#[c,z,q]:=p b o e a;rw[q n]at z;show-l.1 b o z
 .let#[Z,z]:=I.base.slot b o e n a d;let r:b∈fa (!eI).stack:=by show b∈fa (_::outer);unfold fa;rw[ER];show-nO _ a
  let#[X,g]:=L.slot b _ z (I.base.free b o e n d) r qv;let#[_,y,k,t]:=T.ez.2.2.1.mem r;rw[g]at k;cases k;let#[Q,m]:=M b _ g t;show#[Q,m]
 .let#[o1,z]:=I.base.there b o e d;exact L.free b o1 z (I.base.free b o e n d) qv
 .by_cases a:b∈fa outer
  .let#[_,y,k,t]:=l.2.2.1.mem a;show#[y,k]
  let#[c,z,_]:=p b o e a;show#[c,l.1 b c z]
 let#[F,C]:=I.base.jO b O q;let#[J,D]:=T.un.jO b _ C;show#[F++J,by rw[D,Ej]]
def vd:om (iv P w) (!ki) E:=by rintro g U M R e O I ⟨r,d,J,H',B,x,rfl,T,L,C⟩;let j:=alA (K:=K) (mg:=mg) (base:=base) (N:=N) (qual:=qual) (scope:=scope) (f:=f) (cdv:=cdv) (A:=A) (outer:=outer) (s:=s) (H:=H) (E:=λc _ G=>c=d/\G=H') (E2:=λ_ _=>False) (I.mQ _) T #[2,2];show-gB (Iu afg j) (λ_ Q i=>?_) λ_ _ z=>z.1.elim;let#[#[y,b,a,V,n,p,l,t,q],u]:=i;cases p;subst t q;show#[r,b,a,V,n,x,2,l,λh D=>?_,C];let#[o,aY,m]:=L h D;let#[F,k,_]:=l.ez.there;show#[F,k,(u.dict aY k).trans m]
end
end bX
namespace dP
open PySem al bX cE
section
variable{P:cx}{w:b0}{K:aI}{mg:b6}{base:Heap}
abbrev RX:Stmt:=top 101
def ara:cp f7 f7 (bW RX):=({})
inductive ż(a_ CW aD:Addr)(vs:aL)(H:af)(Q:aO)(E:bF):Prop where
 |mk(x:Addr)(v:al.V)(A:gr)(s:ft)(_:vs=[.ref x,v])(_:iE a_ CW aD H x A s)(_:lQ s)
   (d_:∀H'(dC:gr)(bH:List Row),Kh H A dC->(∀b o,b≠x->H b=ja o->H' b=ja o)->nh s.hs s.ds (jb bH)->BM s.hs s.ds bH->iE a_ CW aD H' x dC #[s.hs,s.ds,s.bN,bH]->Q (.str "ok") H')
def apu{f:Addr}(F:b1 K "take_shortest" "take_shortest" RX f fd)(d:oz K a_)(I:bO K mg "shortest" HZ ["net"] f1 i)(r:-aA a6 4 f1 i ["net"] (RE CW aD)):
  -aA a6 5 f fd f7 (ż a_ CW aD):=by
 show-F.ok ara (λ_ M _ O H vs Q E y h=>?_);show#[_,(a3 (jo (aa 0) (dp r I y.mono cd (aj (dE (aa 0)) ay)) rfl)
  (a9 (ct cF))),4]
 ac_rfl
 show-cut λJ N=>?_;let#[x,v,A,s,2,D,k,q]:=h;let B:A.rs.Z<=40:=by rw[D.fA.len];show-k.dy
 show#[1,x,a_,A.ah,_,1,D.ins,d.cl,d.nn,2,A.n,A.bb,A.bh,s.hs,A.rs,s.ds,2,D.fF.fo,k.g,D.fA,B,λg C a u j p c W T=>#[1,x,a_,A.ah,1,c _ _ D.ins,d.cl,d.gH,(by show 4<1000;decide),4]];let#[L,2,t,l]:=T.rows;subst N;let#[bZ,V]:=W.ins;let n:∀b o,b≠x->a b=ja o->upd a x (.ins a_ A.ah (jJ A.n A.l g A.d)) b=ja o:=λb o m e=>by rwa[aJ m]
 let st:ra a (upd a x (.ins a_ A.ah (jJ A.n A.l g A.d))):=λb o G e=>n b o (λz=>G.1 _ _ _ _ _ _ (gN (e.symm.trans ((gF a z).trans (c _ _ D.ins))))) e;show-q _ #[A.ah,A.n,A.l,g,C,A.bb,A.bh,A.rs,A.d] L #[.inr p,.inl rfl,.inl rfl,.inl rfl,.inr j,.inl rfl,2] (λb o m e=>n b o m (c _ _ e)) T (aho D.fA.ok k.jG t l) #[aN,#[#[bZ,st _ _ HJ V],W.fo.jw st,n _ _ (cI D.ins p).symm W.told],(D.fA.same c).jw st,(D.lt.same c).jw st]
abbrev RY:Stmt:=top 100
def arb:cp f7 f7 (bW RY):=({})
inductive Ž(a_ CW aD fQ ic:Addr)(vs:aL)(H:af)(Q:aO)(E:bF):Prop where
 |mk(x v:Addr)(A:gr)(s:ft)(a b:Str)(o:Option Nat)(_:vs=[.ref x,.ref v])(_:iE a_ CW aD H x A s)(_:H v=ja (.lst [.str a,.str b,rj o]))(_:lQ s)(_:b8 H (.str a) (.str a))(_:b8 H (.str b) (.str b))
   (fW:h0 (a8 s.hs) (.str a) (.str b)=jx->∃i,o=ja i/\((i:Nat):Int)∉mc s.hs s.ds (·.a) a/\∀H',av H H'->E (.ref ic) jp H')
   (ir:h0 (a8 s.hs) (.str a) (.str b)=jA->∀H',av H H'->E (.ref fQ) jp H')
def apv{f:Addr}(F:b1 K "take_way" "take_way" RY f fd)(g:oz K a_)(L:ef K CW)(V:cR K CW "drop_way" "Ways.drop_way" Nz gh f1 B)(l:-aA (dn P w) 3 f1 B gh (abd CW aD fQ))(N:cR K CW "set_way" "Ways.set_way" DA s9 f2 G)(J:-aA (dn P w) 3 f2 G s9 (KX CW aD fQ ic)):
  -aA (dn P w) 4 f fd f7 (Ž a_ CW aD fQ ic):=by
 show-iH F arb (λ_ R _ T H vs Q E r h=>?_);show#[_,(a3 (eu (gs vy (ck e4 (aa 1) bt) kn (e9 _)) (a9 (gD (fg (dE (aa 0)) L V.d5 l r.mono V.bd .nil jn (aj (ck e4 (aa 1) bt) (aj (ck e4 (aa 1) bt) ay))))) (a9 (gD (fg (dE (aa 0)) L N.d5 J r.mono N.bd .nil jn (aj (ck e4 (aa 1) bt) (aj (ck e4 (aa 1) bt) (aj (ck e4 (aa 1) bt) ay)))))))
  (a9 (ct cF))),4]
 ac_rfl
 show-cut λO M=>?_;let#[x,v,A,s,a,b,o,2,D,u,k,n,p,m,t]:=h;let#[bZ,y]:=D.fF.ins;let c:=aM.of (K:=K) u;let I:A.rs.Z<=40:=by rw[D.fA.len];show-k.dy
 cases o with
 |none=>show#[1,v,_,3,c,2,7,ey (cQ rfl) #[1,x,a_,A.ah,_,1,D.ins,g.cl,g.gH,2,A.y,bZ,1,y,7,v,_,3,c,7,v,_,3,c,2,A.y,A.n,A.t,A.bb,A.bh,s.hs,6,a,b,2,D.fF,k.g,n,p,λd=>(by let#[i,e,_]:=m d;cases e),t]]
 |some i=>
  show#[1,v,_,3,c,2,7,fv (dJ (by intro z;cases z)) #[1,x,a_,A.ah,_,1,D.ins,g.cl,g.gH,2,A.y,bZ,1,y,7,v,_,3,c,7,v,_,3,c,7,v,_,3,c,2,A.y,A.n,A.t,A.bb,A.bh,s.hs,A.rs,s.ds,_,a,b,(i:Int),2,D.fF,k.g,D.fA,I,n,p,e8 ?_,λd C=>?_,t,λd _=>?_]]
  .unfold jb;rw[bQ];show-eh (mZ k.bH.dy) qc
  .let#[j,e,no,_]:=m d;cases e;show-bk C no
  let#[j,e,_,q]:=m d;show-q
abbrev RZ:Stmt:=top 99
def ž:cp ["desk","values","letter"] f7 (bW RZ):=({})
inductive aaa(a_ CW aD e6:Addr)(vs:aL)(H:af)(Q:aO)(E:bF):Prop where
 |mk(x v:Addr)(A:gr)(s:ft)(a b:Str)(t:Nat)(_:vs=[.ref x,.ref v])(_:iE a_ CW aD H x A s)(_:H v=ja (.lst [.str a,.str b,.int (t:Int)]))(_:lQ s)(_:b8 H (.str a) (.str a))(_:b8 H (.str b) (.str b))
   (fW:rl (a8 s.hs) ((s.bN++[(a,(t:Int),b)]).map qT)->∀H'(dC:gr),Kh H A dC->(∀b o,b≠x->H b=ja o->H' b=ja o)->iE a_ CW aD H' x dC #[s.hs,s.ds,s.bN++[(a,(t:Int),b)],s.bH]->Q (.str (S (b_ s.bN.Z))) H')
   (ir:¬rl (a8 s.hs) ((s.bN++[(a,(t:Int),b)]).map qT)->∀ah H' fs,H ah=jp->av H H'->H' ah=ja (mS ah fs)->E (.ref e6) (ja ah) H')
def apw{f:Addr}(F:b1 K "take_letter" "take_letter" RZ f fd)(B:fc mg)(g:oz K a_)(uP:bO K mg "letters_of" FD yH f1 cg)(X5:-aA (iv P w) 4 f1 cg yH (Q6 aD e6)):
  -aA (iv P w) 5 f fd f7 (aaa a_ CW aD e6):=by
 show-je F ž (λ_ fO _ s0 H vs Q E ao h=>?_);show#[_,(a3 (dg 2 ž.aC (qW (aj (ck e4 (aa 1) bt) (aj (ck e4 (aa 1) bt) (aj (ck e4 (aa 1) bt) ay)))))
  (a3 (jo (aa 0) (dp X5 uP ao.mono vd (aj (dE (aa 0)) (aj (c5 oo (dE (aa 0)) (gc (aj (aa 2) ay))) ay))) rfl)
  (a9 (ct (iP qA B.str o_ (aj (c5 Jk (d4 jC B.len iT (aj (dE (aa 0)) ay)) bt) ay)))))),4]
 ac_rfl
 show-cut λdf u=>?_;let#[x,v,A,s,a,b,t,2,D,aT,hq,aB,ae,q,gp]:=h;let G:=aM.of (K:=K) aT;show#[1,v,_,3,G,7,v,_,3,G,7,v,_,3,G,2,sz_,λd M6=>?_];show-jd df u λdf u=>?_;show h4 _ _ _ _ (upd H d (.tup [.str a,.int t,.str b]));let L:av H (upd H d (.tup [.str a,.int t,.str b])):=b7 M6;let Y:upd H d (.tup [.str a,.int t,.str b]) d=ja (.tup [.str a,.int t,.str b]):=aN;generalize upd H d (.tup [.str a,.int t,.str b])=N at L Y⊢;generalize iX:s.bN++[(a,(t:Int),b)]=r at q gp;let Ly:r.map qT=s.bN.map qT++[qT (a,(t:Int),b)]:=by rw[<-iX,fP];rfl
 cases D.lt.same L with
 |@lst _ xs _ au hz Z=>
 let ov:xs.Z=s.bN.Z:=by rw[Z.len,bQ]
 let lf:=hq.lf;show#[1,x,a_,A.ah,_,1,L _ _ D.ins,g.cl,g.nn,2,#[1,x,a_,A.ah,_,1,L _ _ D.ins,g.cl,g.nl,7,sz_,λp J=>#[A.l,p,xs,1,2,b7 J _ _ au,aN,e8 (by rw[ov];lia),λc mK=>?_]]];let V':=gQ (b7 (o:=.lst [.ref d]) J) mK;let i:av N (upd (upd N p (.lst [.ref d])) c (.lst (xs++[.ref d]))):=gE V' (b7 J);let X:upd (upd N p (.lst [.ref d])) c (.lst (xs++[.ref d])) c=ja (.lst (xs++[.ref d])):=aN;generalize upd (upd N p (.lst [.ref d])) c (.lst (xs++[.ref d]))=ag at i X⊢;let l:=L.trans i;let kp:b8 ag (.ref c) (.list (r.map qT)):=by rw[Ly];show-.lst X (by rw[dT,ov];show s.bN.Z+1<=100;lia) ((Z.same i).append (.cons (.tup (ds:=[.str a,.int t,.str b]) (i _ _ Y) (by show 3<=100;decide) (.cons (aB.same l) (.cons (.int _) (.cons (ae.same l) .nil)))) .nil))
 show#[A.n,A.bb,A.bh,s.hs,_,.ref c,1,D.fF.fo.same l,hq.g,kp,4,λyes V k nl O U=>?_,λno ah k aC O hd=>gp no ah k _ (gQ l aC) (l.trans O) hd]
 .simp only[E_];show-eh (Ka (HE (n:=1) λe he=>?_)) qc;let#[y,1]:=cD.mp he;show-cy 1
 let m:=l.trans O;show#[1,x,a_,A.ah,1,m _ _ D.ins,g.cl,g.nl,(by show 4<1000;decide),4];subst u;let M:∀b o,b≠x->k b=ja o->upd k x (.ins a_ A.ah (jJ A.n V A.y A.d)) b=ja o:=λb o I e=>by rwa[aJ I]
 let st:ra k (upd k x (.ins a_ A.ah (jJ A.n V A.y A.d))):=λb o to e=>M b o (λz=>to.1 _ _ _ _ _ _ (gN (e.symm.trans ((gF k z).trans (m _ _ D.ins))))) e;let#[bZ,cc]:=D.fF.ins;let vR:x≠A.t:=al.f5 D.ins D.fF.told (by intro z;cases z);let C:=q yes _ #[A.ah,A.n,V,A.y,A.t,A.bb,A.bh,A.rs,A.d] #[.inl rfl,.inr (gQ l nl),.inl rfl,.inl rfl,.inl rfl,.inl rfl,2] (λb o I e=>M b o I (m _ _ e)) #[aN,#[#[bZ,st _ _ HJ (m _ _ cc)],(D.fF.fo.same m).jw st,M _ _ vR.symm (m _ _ D.fF.told)],(D.fA.same m).jw st,U.jw st];cases U with
 |@lst _ R _ Gw aEU j=>
 let axD:R.Z=s.bN.Z+1:=by rw[j.len,bQ,<-iX,dT];rfl
 let T:((R.Z:Nat):Int)-1=((s.bN.Z:Nat):Int):=by lia
 show#[1,x,a_,A.ah,_,1,aN,g.cl,g.nl,2,V,R,2,.inl (aM.of (st _ _ z4 Gw)),4];show#[3,1,4,4]
 .rw[T];exact Dn jQ
 rwa[T,si]
abbrev Ny:Stmt:=gT (top 120) 0
def as4:cp eg eg (bW Ny):=({})
inductive abf(a_ CW aD:Addr)(vs:aL)(H:af)(Q:aO)(E:bF):Prop where
 |mk(x ah:Addr)(_:vs=[.ref x])(_:H x=ja (.ins a_ ah []))(_:∀H'(A:gr),A.ah=ah->A.d=.cw->H A.t=jp->(∀b o,b≠x->H b=ja o->H' b=ja o)->iE a_ CW aD H' x A ⟨[],[],[],[]⟩->Q .cw H')
def arc{f:Addr}(F:b1 K "__init__" "Desk.__init__" Ny f fd)(g:oz K a_)(l1:ef K a_)(sk:mg "Net"=ja (.ref aD))(r9:mg "Ways"=ja (.ref CW))(Em:nQ K aD kl)(nc:mi K aD "Net.__init__" x9 rF kl uS)(xf:-aA a6 5 kl uS rF (Jn K aD))(IM:nQ K CW lZ)(n6:mi K CW "Ways.__init__" DB mj lZ uT)(u0:-aA a6 1 lZ uT mj (KV CW)):
  -aA a6 7 f fd eg (abf a_ CW aD):=by
 show-F.ok as4 (λ_ fO _ s0 H vs Q E ao h=>?_);show#[_,(a3 (jo (aa 0) (tI Em xf ao.mono qF sk nc.bd .nil cd (aj (gc ay) (aj (gc ay) ay))) rfl)
  (a3 (jo (aa 0) (gc ay) rfl)
  (a3 (jo (aa 0) (tI IM u0 ao.mono qF r9 n6.bd .nil cd (aj (dE (aa 0)) ay)) rfl)
  (a9 (jo (aa 0) kn rfl))))),4]
 ac_rfl
 show-cut λI j=>?_;let#[x,c,2,D,q]:=h;show#[sz_,λa na=>#[sz_,λb d=>?_]];let s:av H (upd (upd H a (.lst [])) b (.lst [])):=(b7 na).trans (b7 d);let aB:upd (upd H a (.lst [])) b (.lst []) a=ja (.lst []):=b7 d _ _ aN;let ae:upd (upd H a (.lst [])) b (.lst []) b=ja (.lst []):=aN;generalize upd (upd H a (.lst [])) b (.lst [])=H1 at s aB ae⊢;intro n J nn aC ad6;let u:av H1 (upd (upd H1 J (.own n)) n (.ins aD J [])):=gE nn (b7 aC);show#[n,J,a,b,[],[],[],2,aN,u _ _ aB,#[λ_ z=>bk z ee,pI,ei _],u _ _ ae,ν [],ei _,λk Z gb cf ai ak aV er jL=>#[2,4]];let xp:=gQ s nn;let s3:av H k:=λb o e=>cf b o (cI e xp) (u _ _ (s _ _ e));let L:x≠Z:=cI (u _ _ (s _ _ D)) er;let V:x≠gb:=cI (u _ _ (s _ _ D)) jL;show#[1,x,a_,c,1,s3 _ _ D,g.cl,g.nn,(by show 0<1000;decide),4];show-jd I j λI j=>?_;show h4 _ _ _ _ (upd k x (.ins a_ c [("net",.ref n)]));let IP:n≠x:=(cI D xp).symm;let O:∀b o,b≠x->k b=ja o->upd k x (.ins a_ c [("net",.ref n)]) b=ja o:=λb o d e=>by rwa[aJ d]
 let Y:∀b o,b≠x->H b=ja o->upd k x (.ins a_ c [("net",.ref n)]) b=ja o:=λb o d e=>O b o d (s3 _ _ e);let N:ih aD (upd k x (.ins a_ c [("net",.ref n)])) n Z gb (dK []) (bw []):=#[#[J,O _ _ IP ai],O _ _ L.symm ak,O _ _ V.symm aV]
 let U:upd k x (.ins a_ c [("net",.ref n)]) x=ja (.ins a_ c [("net",.ref n)]):=aN;generalize upd k x (.ins a_ c [("net",.ref n)])=m at Y N U⊢;show#[sz_,λl nl=>#[1,x,a_,c,1,b7 nl _ _ U,g.cl,g.nl,(by show 1<1000;decide),4]];show-jd I j λI j=>?_;show h4 _ _ _ _ (upd (upd m l (.lst [])) x (.ins a_ c [("net",.ref n),("kept_letters",.ref l)]));let i:l≠x:=(cI U nl).symm;let X:∀b o,b≠x->m b=ja o->upd (upd m l (.lst [])) x (.ins a_ c [("net",.ref n),("kept_letters",.ref l)]) b=ja o:=λb o d e=>by rw[aJ d];show-b7 nl _ _ e
 let Gx:upd (upd m l (.lst [])) x (.ins a_ c [("net",.ref n),("kept_letters",.ref l)]) l=ja (.lst []):=by rw[aJ i];show-aN
 let B:upd (upd m l (.lst [])) x (.ins a_ c [("net",.ref n),("kept_letters",.ref l)]) x=ja (.ins a_ c [("net",.ref n),("kept_letters",.ref l)]):=aN;generalize upd (upd m l (.lst [])) x (.ins a_ c [("net",.ref n),("kept_letters",.ref l)])=p at X Gx B⊢;show#[1,x,a_,c,_,1,B,g.cl,g.nn,2,λy bZ M Hb aee=>#[y,bZ,1,aN,λt eT=>#[2,4]]];let R:p t=jp:=gQ (gE (o:=.ins CW bZ []) M (b7 (o:=.own y) Hb)) eT;let ty:y≠t:=cI (H:=upd (upd p bZ (.own y)) y (.ins CW bZ [])) aN eT;let G:av p (upd (upd (upd (upd p bZ (.own y)) y (.ins CW bZ [])) t (.dA [])) y (.ins CW bZ [("net",.ref n),("told",.ref t)])):=gE M (gE R (gE M (b7 Hb)));let A:upd (upd (upd (upd p bZ (.own y)) y (.ins CW bZ [])) t (.dA [])) y (.ins CW bZ [("net",.ref n),("told",.ref t)]) y=ja (.ins CW bZ [("net",.ref n),("told",.ref t)]):=aN;let r:upd (upd (upd (upd p bZ (.own y)) y (.ins CW bZ [])) t (.dA [])) y (.ins CW bZ [("net",.ref n),("told",.ref t)]) t=ja (.dA []):=by rw[aJ (dG ty),aN]
 generalize upd (upd (upd (upd p bZ (.own y)) y (.ins CW bZ [])) t (.dA [])) y (.ins CW bZ [("net",.ref n),("told",.ref t)])=bo at G A r⊢;show#[1,x,a_,c,1,G _ _ B,g.cl,g.gH,(by show 2<1000;decide),4];subst j;show#[1,x,a_,c,1,aN,g.cl,g.aC,(by show 3<1000;decide),4];rw[Ou];let aAo:y≠x:=(cI B M).symm;let vR:t≠x:=(cI B R).symm;let T:∀b o,b≠x->bo b=ja o->upd bo x (.ins a_ c (jJ n l y .cw)) b=ja o:=λb o d e=>by rwa[aJ d]
 let C:∀b o,b≠x->m b=ja o->upd bo x (.ins a_ c (jJ n l y .cw)) b=ja o:=λb o d e=>T b o d (G _ _ (X b o d e));let#[jW,kq]:=N.ins;let azD:H t=jp:=by
  cases e:H t with
  |none=>rfl
  |some o=>rw[X t o vR (Y t o vR e)]at R;cases R
 refine q _ #[c,n,l,y,t,Z,gb,[],.cw] rfl rfl azD (λb o d e=>C b o d (Y b o d e)) #[aN,#[#[bZ,T _ _ aAo A],#[#[jW,C _ _ IP kq],C _ _ ?_ N.u7,C _ _ ?_ N.oA],T _ _ vR r],ν [],.lst (T _ _ i (G _ _ Gx)) (ei _) .nil]
 .exact L.J
 show-V.J
abbrev FE:Stmt:=gT (top 120) 1
def AY:cp ["self","row","words","values"] uk (bW FE):=({})
inductive OO(K:aI)(dI g5 kL:Addr)(cs:Addr->fu->Prop)(kw:Str)(x:Addr)(d:al.V)(us:aL)(H:af)(Q:aO)(E:bF):Prop where
 |auw(f:Addr)(sp:fu)(_:dw K dI kw=ja (ja (.ref f)))(_:cs f sp)(_:∀l H',H l=jp->av H H'->H' l=ja (.lst us)->sp [.ref x,.ref l] H' Q E)
 |day(bZ:Addr)(f:Addr)(sp:fu)(_:dw K dI kw=ja jp)(_:d=.ref bZ)(_:dw K g5 kw=ja (ja (.ref f)))(_:cs f sp)(_:∀l H',H l=jp->av H H'->H' l=ja (.lst us)->sp [.ref bZ,.ref l] H' Q E)
 |none(_:dw K dI kw=ja jp)(_:d=.cw)(_:∀H',av H H'->E (.ref kL) jp H')
def JD(a:Addr)(H:af)(E:bF):Prop:=∀H',av H H'->E (.ref a) jp H'
inductive FF(K:aI)(a_ kL dR:Addr)(R:m6)(cv dI g5:Addr)(cs:Addr->fu->Prop)(vs:aL)(H:af)(Q:aO)(E:bF):Prop where
 |mk(x ah n l y:Addr)(d:al.V)(row:Str)(_:vs=[.ref x,.str row])(_:H x=ja (.ins a_ ah (jJ n l y d)))(_:uD row (λkw ps=>t8 K R cv (S kw) ps (λus=>OO K dI g5 kL cs (S kw) x d us H Q E) (JD dR H E)) (JD dR H E))
inductive EJ(K:aI)(a_ kL:Addr)(R:m6)(cv dI:Addr)(vs:aL)(H:af)(Q:aO)(E:bF):Prop where
 |mk(x ah n l y:Addr)(row:Str)(kw:bg)(ps:ba)(ks:List fl)(us:aL)(_:vs=[.ref x,.str row])(_:H x=ja (.ins a_ ah (jJ n l y .cw)))(_:pB row kw ps)(_:eQ K cv (S kw) (ks.map R.f))(_:ks.Z<=10)(_:nT ks (ps.map S) us)(_:dw K dI (S kw)=ja jp)(_:∀H',av H H'->E (.ref kL) jp H')
def atv:Addr->fu->Prop:=λ_ _=>False
def anm{f:Addr}{R:m6}(F:b1 K "say" "Desk.say" FE f fd)(p:oz K a_)(e:mg "DESK_ANSWERS"=ja (.ref dI))(wU:mg "DAY_ANSWERS"=ja (.ref g5))(u:TopD w K dI)(d:oK rp T nt bm)(s:Exc K mg "NoDay" kL bm T)(vc:bO K mg "words_of" H2 ["row"] f1 I)(C:-aA (dn P w) 1 f1 I ["row"] (RH dR))(u1:bO K mg "values_of" Fm ["words"] f2 M)(B:-aA (dn P w) 4 f2 M ["words"] (QN K R cv dR)):-aA (dn P w) 9 f fd uk (λvs H Q E=>EJ K a_ kL R cv dI vs H Q E):=by
 let L:∀g sp,atv g sp->By P w K mg base a6 8 g sp:=λ_ _ z=>z.elim;show-iH F AY (λ_ fO _ s0 H vs Q E c h=>?_);show#[_,(a3 (dg 2 AY.aC (dp C vc c.mono jn (aj (aa 1) ay)))
  (a3 (dg 3 AY.aC (dp B u1 c.mono jn (aj (aa 2) ay)))
  (a3 (eu (Ja (ŕ (ck e4 (aa 2) bt) (kU e))) (a9 (ct (Iv (ID (kU e) (ck e4 (aa 2) bt) (λ_ _=>rfl)) L c.mono cd (aj (aa 0) (aj (aa 3) ay))))) eH)
  (a3 (eu (gs vy (dE (aa 0)) kn (e9 _)) (a9 (oZ d s rfl (aj cF ay))) eH)
  (a9 (ct (Iv (ID (kU wU) (ck e4 (aa 2) bt) (λ_ _=>rfl)) L c.mono cd (aj (dE (aa 0)) (aj (aa 3) ay))))))))),4]
 ac_rfl
 show-cut λr k=>?_;let#[x,D,n,l,y,row,b,m,Y,us,2,G,N,X,i,O,U,q]:=h;let#[J,t]:=N.adE;show#[1,row,2,.good b m N λa H1 s1 o=>?_];show-jd r k λr k=>?_;show#[1,a,S b,m,2,o,J,t,.good Y us X i O λt ag nl V au=>?_];subst k;let Z:al.hZ (nF (S b::m.map S)) 0=ja (.str (S b)):=jV (j:=0) rfl;let A:=s1.trans V;show#[1,a,_,3,aM.of (V _ _ o),Z,S b,dI,1,2,u,U,1,fv rfl ?_];show#[1,x,a_,D,_,1,A _ _ G,p.cl,p.aC,2,7,ey (cQ rfl) #[sz_,q _ A]]
def ano{f:Addr}{R:m6}{M:Addr->fu->Prop}(F:b1 K "say" "Desk.say" FE f fd)(o:oz K a_)(Z:mg "DESK_ANSWERS"=ja (.ref dI))(wU:mg "DAY_ANSWERS"=ja (.ref g5))(N:TopD w K dI)(Fl:TopD w K g5)(vc:bO K mg "words_of" H2 ["row"] f1 cg)(s:-aA (dn P w) 1 f1 cg ["row"] (RH dR))(u1:bO K mg "values_of" Fm ["words"] f2 dY)(V:-aA (dn P w) 4 f2 dY ["words"] (QN K R cv dR))(T:∀g sp,M g sp->By P w K mg base (iv P w) 8 g sp):-aA (iv P w) 9 f fd uk (λvs H Q E=>FF K a_ kL dR R cv dI g5 M vs H Q E/\¬EJ K a_ kL R cv dI vs H Q E):=by
 let Yz:=aA.wide (CX':=iv P w) s (λ_ _ _ _ _ _ h=>q_ h) (cy _);let Yd:=aA.wide (CX':=iv P w) V (λ_ _ _ _ _ _ h=>q_ h) (cy _);show-je F AY (λ_ fO _ s0 H vs Q E m h=>?_);show#[_,(a3 (dg 2 AY.aC (dp Yz vc m.mono vd (aj (aa 1) ay)))
  (a3 (dg 3 AY.aC (dp Yd u1 m.mono vd (aj (aa 2) ay)))
  (a3 (eu (Ja (ŕ (ck e4 (aa 2) bt) (kU Z))) (a9 (ct (Iv (ID (kU Z) (ck e4 (aa 2) bt) (λ_ _=>rfl)) T m.mono vd (aj (aa 0) (aj (aa 3) ay))))) eH)
  (a3 (eu (gs vy (dE (aa 0)) kn (e9 _)) (a9 Il) eH)
  (a9 (ct (Iv (ID (kU wU) (ck e4 (aa 2) bt) (λ_ _=>rfl)) T m.mono vd (aj (dE (aa 0)) (aj (aa 3) ay))))))))),4]
 ac_rfl
 show-cut λO C=>?_;let#[#[x,i,n,l,y,d,row,2,u,h],no]:=h;show#[1,row,2,h.imp (λc D U h a H1 L G=>?_) λb=>b];let#[dX,p]:=U.adE;show-jd O C λO C=>?_;show#[1,a,S c,D,2,G,dX,p,h.imp (λks us kl GO fN an p I X Y J=>?_) λb H' s'=>b H' (L.trans s')];subst C;let A:al.hZ (nF (S c::D.map S)) 0=ja (.str (S c)):=jV (j:=0) rfl;let r:=L.trans Y;let k:=aM.of (K:=K) (Y _ _ G);rcases an with⟨g,sp,t,B,q⟩|⟨bZ,g,sp,e,rfl,t,B,q⟩|⟨e,rfl,q⟩
 .show#[1,a,_,3,k,A,S c,dI,1,2,N,t,1,ey rfl ?_];show#[1,a,_,3,k,A,S c,dI,g,2,2,N,t,g,sp,2,B,5,q p I (gQ L X) r J]
 .show#[1,a,_,3,k,A,S c,dI,1,2,N,e,1,fv rfl ?_];show#[1,x,a_,i,_,1,r _ _ u,o.cl,o.aC,2,7,fv (dJ (by intro z;cases z)) ?_];show#[1,a,_,3,k,A,S c,g5,g,2,2,Fl,t,g,sp,2,B,1,x,a_,i,_,1,r _ _ u,o.cl,o.aC,7,q p I (gQ L X) r J]
 show-bk #[x,i,n,l,y,row,c,D,ks,us,2,u,U,kl,GO,fN,e,q] no
theorem apx{f:Addr}{R:m6}{m:Addr->fu->Prop}(A:-aA (iv P w) 9 f fd uk (λvs H Q E=>FF K a_ kL dR R cv dI g5 m vs H Q E/\¬EJ K a_ kL R cv dI vs H Q E))(N:-aA (dn P w) 9 f fd uk (λvs H Q E=>EJ K a_ kL R cv dI vs H Q E)):
  -aA (iv P w) 9 f fd uk (FF K a_ kL dR R cv dI g5 m):=
 #[λvs H Q E h=>by
  let#[x,t,n,l,y,d,row,2,_]:=h;rfl,λb a s H args p vs Q E k o g c r=>by
  by_cases z:EJ K a_ kL R cv dI vs H Q E
  .exact(aA.wide N (λ_ _ _ _ _ _ h=>q_ h) (cy _)).run b a s H args p vs Q E k o g c z
  show-A.run b a s H args p vs Q E k o g c #[r,z]]
def nC(a b:bg)(c:Nat):List Nat:=if c=0 then a else if c=1 then b else[c]
def bf(a b:bg):List Nat->List Nat
 |[]=>[]
 |c::r=>nC a b c++bf a b r
theorem qZ(a b:bg):∀t u:List Nat,bf a b (t++u)=bf a b t++bf a b u
 |[],_=>rfl
 |c::t,u=>by show nC a b c++bf a b (t++u)=nC a b c++bf a b t++bf a b u;rw[qZ,mX]
def nH(t:bg):Bool:=t.all λc=>iy 2 c
theorem lB(a b:bg):∀{t:bg},nH t=jx->bf a b t=t
 |[],_=>rfl
 |c::t,h=>by
  unfold nH at h;rw[JN,cJ]at h;let d:2<=c:=hM h.1;let e:nC a b c=[c]:=by unfold nC;rw[bL jQ,bL jQ]
  show nC a b c++bf a b t=c::t;rw[e,lB a b h.2];rfl
end
def eV:List Nat->List bg
 |[]=>[[]]
 |c::r=>if c=32 then[]::eV r else match eV r with
  |[]=>[[c]]
  |w::ws=>(c::w)::ws
theorem PX:∀t:List Nat,eV t≠[]
 |[]=>nofun
 |c::r=>by
  unfold eV;split
  .exact nofun
  split<;>exact nofun
theorem Ij(a b:bg):∀t:List Nat,cM [32] ((eV t).map (bf a b))=bf a b t
 |[]=>rfl
 |c::r=>by
  let d:=Ij a b r;let f:=PX r;unfold eV;split
  .rename_i h;subst h;cases e:eV r with
   |nil=>show-bk e f
   |cons w ws=>
    rw[e]at d;show[]++[32]++cM [32] (bf a b w::ws.map (bf a b))=[32]++bf a b r;rw[List.nil_append];show-gF ([32]++·) d
  cases e:eV r with
  |nil=>show-bk e f
  |cons w ws=>
   rw[e]at d;show cM [32] ((nC a b c++bf a b w)::ws.map (bf a b))=nC a b c++bf a b r;rw[<-d];cases ws with
   |nil=>rfl
   |cons u us=>
    show nC a b c++bf a b w++[32]++_=nC a b c++(bf a b w++[32]++_);rw[mX,mX,mX]
def IF(w:bg):Bool:=decide (w=[0])||decide (w=[1])||(w.all λc=>iy 2 c&&û c 256&&!decide (c=32))&&iy w.length 20
def aab(g:f3 a)(k:f3 b)(h:IF w=jx):32∉bf a b w/\(bf a b w).Z<=20/\∀c∈bf a b w,c<256:=by
 let f:∀{n:bg},f3 n->32∉n/\n.Z<=20/\∀c∈n,c<256:=λh=>#[λz=>by have:=h.2.2 _ z;lia,by have:=h.2.1;lia,λc d=>by have:=h.2.2 c d;lia]
 unfold IF at h;rw[lO,lO]at h;rcases h with(h|h)|h
 .rw[j2 h,show bf a b [0]=a from kK _];show-f g
 .rw[j2 h,show bf a b [1]=b from kK _];show-f k
 rw[cJ,iw]at h;let e:∀c∈w,2<=c/\c<256/\c≠32:=λc d=>by have:=h.1 c d;rw[cJ,cJ,mf]at this;show#[hM this.1.1,hM this.1.2,of_decide_eq_false this.2]
 rw[lB a b (by unfold nH;rw[iw];exactλc d=>E5 (e c d).1)];show#[λz=>(e _ z).2.2 rfl,hM h.2,λc d=>(e c d).2.1]
def OZ{c:Nat}{r:bg}(h:c≠99):Fn (S (c::r)) (dH "check ")=jA:=by
 rw[rt];intro z;unfold Fn aA2 at z;let#[_,z]:=(cJ _ _).mp z;let z:=eq_of_beq z;let e:=gF (λa:Array Nat=>a[0]?) z;let b:(dH "check ").cps[0]?=ja 99:=by left
 let d:(dH "check ").Z=6:=by left
 dsimp only at e;rw[b,d]at e;let f:((S (c::r)).cps.extract 0 (0+6))[0]?=ja c:=by rw[Array.getElem?_extract];simp[S]
 rw[f]at e;show-h (gN e)
def at9:List Nat:=[99,104,101,99,107,115,32]
def V_:List Nat->Bool
 |[]=>jx
 |c::r=>(iy 2 c&&!decide (c=99))||decide (c::r=D_)||decide (c::r=at9)
theorem ard:∀{t:bg},V_ t=jx->Fn (S (bf a b t)) (dH "check ")=jA
 |[],_=>by show Fn (S []) _=jA;decide+kernel
 |c::r,h=>by
  unfold V_ at h;rw[lO,lO]at h;rcases h with(h|h)|h
  .rw[cJ,mf]at h;let d:2<=c:=hM h.1;let e:bf a b (c::r)=c::bf a b r:=by show nC a b c++_=_;unfold nC;rw[bL jQ,bL jQ];rfl
   rw[e];show-OZ (of_decide_eq_false h.2)
  .rw[j2 h,lB a b rfl];decide+kernel
  rw[j2 h,lB a b rfl];decide+kernel
def sQ(t:bg):Bool:=(eV t).all IF&&iy (eV t).length 6&&V_ t
def aac{t:bg}(f:f3 a)(g:f3 b)(h:sQ t=jx):vZ ((eV t).map (bf a b)):=by unfold sQ at h;rw[cJ,cJ,iw]at h;show#[λz=>PX t (Ô.mp z),by rw[bQ];show-hM h.1.2,λp c=>?_,by rw[Ij];show-ard h.2];let#[w,d,2]:=cD.mp c;show-aab f g (h.1.1 w d)
def vP:List (List Nat×List fl):=[([104,111,117,115,101],[.t]),([114,111,97,100],[.t,.t,.n,.n]),([108,101,116,116,101,114],[.t,.t,.n]),([119,97,121],[.t,.t,.r]),([115,104,111,114,116,101,115,116],[]),([100,97,121],[.f]),([102,97,114],[.t,.t]),([114,111,117,116,101],[.t,.t]),([114,117,110],[]),([104,111,109,101],[]),(D_,[.t]),([109,111,115,116],[.n]),([108,101,97,115,116],[]),([98,111,117,110,100,115],[]),([112,111,115,116],[.t,.t]),([112,97,115,115],[]),([116,117,114,110],[]),([115,112,111,116],[.n]),([115,104,117,116],[.n]),([114,101,111,112,101,110],[.n]),([108,111,103],[])]
def abg:List bg:=[[72,111,117,115,101],[104,111,117,115,101,115],[80,97,115,115],[112,97,115,115,101,115]]
structure aad(K:aI)(R:m6)(cv:Addr):Prop where
 yes:∀f∈vP,eQ K cv (S f.1) (f.2.map R.f)
 no:∀kw∈abg,dw K cv (S kw)=ja jp
def abh:List bg:=[[49,48,48,48,48,48,48,48,48,49],[57,57,57,57,57,57,57,57,57,57]]
def xt(k:fl)(w:bg):Bool:=nH w&&match k with
 |.t=>jA
 |.n=>!hU w
 |.r=>!decide (w=[45])&&!hU w
 |.f=>!hU w||decide (w∈abh)
def arf{k:fl}(h:xt k w=jx):k.no (bf a b w):=by
 unfold xt at h;rw[cJ]at h;rw[lB a b h.1];let h:=h.2;cases k with
 |t=>exact nomatch h
 |n=>exact(mf _).mp h
 |r=>
  rw[cJ,mf,mf]at h;show#[λz=>of_decide_eq_false h.1 (kX (z.trans (by left:PP=S [45]))),h.2]
 |f=>
  rw[lO,mf]at h;rcases h with h|h
  .exact .inl h
  right;let h:=j2 h;unfold abh at h;rcases dQ.mp h with rfl|h
  .show#[1000000001,8,8,by left]
  rw[d2.mp h];show#[9999999999,8,8,by left]
def xq(t:bg):Bool:=sQ t&&(decide ([]∈eV t)||match eV t with
 |[]=>jA
 |kw::e=>nH kw&&(decide (kw∈abg)||vP.any λf=>decide (f.1=kw)&&(!decide (e.Z=f.2.Z)||(f.2.zip e).any λx=>xt x.1 x.2)))
def apy(f:f3 a)(g:f3 b)(e:bf a b w=[]):w=[]:=by
 cases w with
 |nil=>rfl
 |cons c r=>
  let e:nC a b c++bf a b r=[]:=e;let d:=(List.append_eq_nil_iff.mp e).1;unfold nC at d;split at d
  .rw[d]at f;show-bk f.1 qc
  split at d
  .rw[d]at g;show-bk g.1 qc
  cases d
def O0(d:f3 a)(f:f3 b){t:bg}:[]∈(eV t).map (bf a b)↔[]∈eV t:=by
 constructor
 .intro h;let#[w,c,e]:=cD.mp h;rwa[<-apy d f e]
 intro h;show-cD.mpr #[[],h,2]
def apz{K:aI}{R:m6}(A:aad K R cv){t:bg}(o:f3 a)(p:f3 b)(h:xq t=jx){good:List Nat->List al.V->Prop}{bad:Prop}(q:bad):uD (S (bf a b t)) (λc r=>t8 K R cv (S c) r (good c) bad) bad:=by
 unfold xq at h;rw[cJ,lO]at h;let g:=aac o p h.1;by_cases z:[]∈eV t
 .exact .bad _ (by rw[Ij]) g ((O0 o p).mpr z) q
 let h:=h.2.resolve_left λy=>z (j2 y);let m:[]∉(eV t).map (bf a b):=λy=>z ((O0 o p).mp y);rw[<-Ij a b t];cases e:eV t with
 |nil=>show-bk e (PX t)
 |cons c r=>
  rw[e]at h g m;rw[cJ]at h;rw[hL]at g m⊢;rw[lB a b h.1]at g m⊢;show-.good c _ (.pl c _ g m) ?_;let h:=h.2;rw[lO]at h;rcases h with h|h
  .exact .no (A.no c (j2 h)) q
  let#[f,L,h]:=oN.mp h;rw[cJ,lO,mf]at h;let n:=A.yes f L;rw[j2 h.1]at n;let d:f.2.Z<=10:=by have:vP.all (λf=>iy f.2.length 10)=jx:=rfl;exact hM (iw.mp this f L)
  by_cases l:r.Z=f.2.Z
  .let h:=h.2.resolve_left λy=>of_decide_eq_false y l;let#[#[k,w],j,u]:=oN.mp h;let#[i,s]:=qk j;let#[N,V]:=List.getElem?_zip_eq_some.mp s;show-.word f.2 n d (by rwa[bQ]) #[i,k,bf a b w,N,by rw[ea,V];rfl,arf u] q
  show-.len f.2 n d (by rwa[bQ]) q
def À{L:eG}{l:TE}{b:al.St}{H1:af}{Q:aO}{J:ff}{xs:aL}(M:∀R:ff->af->Prop,R J H1->L U H R)(B:hG cs U=jp::b)(s:nZ J H1 xs)(V:xs.Z<sizeLine)(F:Addr->Nat->al.V->af->Prop)(st:∀D i v a w,av a w->F D i v a->F D i v w)(q:∀D i v a O,F D i v a->F D i v (upd a D (.lst O)))(r:∀(D:Addr)(i:Nat)(x:al.V)(a:af)(R:aO),xs[i]?=ja x->av H1 a->H1 D=jp->(∃c,a D=ja (.lst c))->(∀v d,av a d->F D i v d->R v d)->l (ja x::b) a R)(t:∀(D:Addr)(H':af)(vs:aL),H1 D=jp->H' D=ja (.lst vs)->vs.Z=xs.Z->(∀i v,vs[i]?=ja v->F D i v H')->av H1 H'->Q (.ref D) H'):jf L cs (hR 0) oE l U H Q:=by
 show-M _ λD a8=>?_;show#[λi m c A H'=>m=xs.Z-i/\i<=xs.Z/\(c.Z=i/\∀j v,c[j]?=ja v->F D j v H')/\(∃o,A=o::b)/\av H1 H'/\H' D=ja (.lst c),#[xs.Z,by simp,ei _,#[2,λj v e=>by simp at e],#[jp,by rw[B]],b7 a8,aN],4];rintro i m c A H' ⟨rfl,P,⟨k,K⟩,⟨o,rfl⟩,f,g⟩;let#[E,I,G]:=s H' f;show#[g,qq jQ V,4];by_cases p:i<xs.Z
 .refine .inr #[I i p,λx a y=>?_];let#[2,z]:=G i x a p y;show l (ja x::b) a _;show-r D i x a _ z f a8 #[c,g] λv d n N=>#[n _ _ g,xs.Z-(i+1),9,2,p,#[by rw[dT,k];rfl,λj u e=>?_],#[1],gE a8 (f.trans n),aN]
  show-q D j u d _ ?_;by_cases h:j<c.Z
  .rw[Bc h]at e;show-st D j u _ _ n (K j u e)
  rw[Qc jQ]at e;let C:j=i:=by
   by_cases T:j-c.Z=0
   .lia
   rw[Ð (by simp;lia)]at e;cases e
  subst C;rw[k,ā]at e;cases e;show-N
 let e:i=xs.Z:=by lia
 subst e;show-.inl #[E,t D H' c a8 g k K f]
open PySem.Spec PyProof.Rows
def jc(a b t:bg):PyData:=.str (S (bf a b t))
def mJ(a b:bg)(p:List Nat×List Nat):PyData:=.list [.str (S p.1),jc a b p.2]
def Ao(t:bg):Nat:=t.foldr (λc n=>(if c<2 then 8 else 1)+n) 0
def anp(t u:bg):Ao (t++u)=Ao t+Ao u:=by
 unfold Ao
 induction t with
 |nil=>exact(Nat.zero_add _).symm
 |cons c t e=>rw[Í,ahY,ahY,e,ú]
theorem PY(d:f3 a)(f:f3 b):∀t:List Nat,(bf a b t).Z<=Ao t
 |[]=>cy _
 |c::t=>by
  let g:=PY d f t;show(nC a b c++bf a b t).Z<=(if c<2 then 8 else 1)+Ao t;rw[dT];show-aiA ?_ g;unfold nC;split
  .rename_i h;rw[b2 jQ];show-d.2.1
  split
  .rename_i h;rw[b2 jQ];show-f.2.1
  rw[bL jQ];show-cy 1
section
variable{X:bA}{e a b:Expr}{es:hO}{pos:Pos}{c8:List (Option kv)}{A B:bg}{t u:bg}{α β:Type}{f:α->PyData}{d:α}{bB us:List α}
def K5(x:Str):S x.cps.G=x:=(ů x)
def aZ{x:Str}{j:Nat}(l:nH x.cps.G=jx:=by left)(n:iy x.length 100=jx:=by left)(o:m3 x=jx:=by left):a' X (.Constant (.str x) j pos) (h9 c8 (c6 (jc A B x.cps.G))):=(ó cF λH=>by show b8 H (.str x) (.str (S (bf A B x.cps.G)));rw[lB A B l,K5];show-.str _ (hM n) o)
def bx(c:f3 A)(g:f3 B)(k:a' X a (h9 c8 (c6 (jc A B t))))(l:a' X b (h9 c8 (c6 (jc A B u))))(z:iy (Ao (t++u)) 100=jx:=by rfl):a' X (.BinOp a .Add b pos) (h9 c8 (c6 (jc A B (t++u)))):=by
 let h:=aoa (pos:=pos) k l (by
  have:=hM z;rw[anp]at this;let m:=PY c g t;let n:=PY c g u;rw[eY,eY]
  lia)
 rwa[q',<-qZ]at h
def hQ:fI X [] (tP c8 (([]:List α).map f)):=(ō)
def b'(c:a' X e (h9 c8 (c6 (jc A B t)))){bB:ba}(g:fI X es (tP c8 (bB.map (jc A B))))(k:dh (e::es) X.env=(jA,eval e X.env)::dh es X.env:=by rfl):fI X (e::es) (tP c8 ((t::bB).map (jc A B))):=(OD c g k)
def tJ{p:List Nat×List Nat}(c:a' X e (h9 c8 (c6 (mJ A B p)))){bB:List (List Nat×List Nat)}(g:fI X es (tP c8 (bB.map (mJ A B))))(k:dh (e::es) X.env=(jA,eval e X.env)::dh es X.env:=by rfl):fI X (e::es) (tP c8 ((p::bB).map (mJ A B))):=(OD c g k)
def hS(h:fI X es (tP c8 (bB.map f)))(z:iy bB.length 100=jx:=by rfl):a' X (.List es pos) (h9 c8 (c6 (.list (bB.map f)))):=(aao h (by rw[bQ];show-hM z))
def i1(c:a' X a (h9 c8 (c6 (.list (bB.map f)))))(g:a' X b (h9 c8 (c6 (.list (us.map f)))))(z:iy (bB++us).length 100=jx:=by rfl):a' X (.BinOp a .Add b pos) (h9 c8 (c6 (.list ((bB++us).map f)))):=by let h:=aqy (pos:=pos) c g (by rw[bQ,bQ,<-dT];show-hM z);rwa[<-fP]at h
theorem sR{x:Str}{j:Nat}(h:a' X e (h9 c8 (c6 (jc A B t))))(n:iy x.length 100=jx:=by left)(o:m3 x=jx:=by left)(c:dh [.Constant (.str x) j p,e] X.env=(jA,eval (.Constant (.str x) j p) X.env)::dh [e] X.env:=by rfl)(g:dh [e] X.env=(jA,eval e X.env)::dh [] X.env:=by rfl):a' X (.List [.Constant (.str x) j p,e] pos) (h9 c8 (c6 (mJ A B (x.cps.G,t)))):=
 aao (OD (ó cF λH=>by
  show b8 H (.str x) (.str (S x.cps.G));rw[K5];show-.str _ (hM n) o) (OD h ō g) c)
theorem š{H:af}{g:α->PyData}:∀{vs:aL}{bB:List α},vs.Z=bB.Z->(∀(i:Nat)(v:al.V)(t:α),vs[i]?=ja v->bB[i]?=ja t->b8 H v (g t))->eP H vs (bB.map g)
 |[],[],_,_=>.nil
 |v::vs,t::bB,l,h=>.cons (h 0 v t rfl rfl) (š (rG l) λi v t c k=>h (i+1) v t c k)
 |[],_::_,l,_=>nomatch l
 |_::_,[],l,_=>nomatch l
def Á{K:aI}{a:Addr}{k:bg}{wi:eG}{H:af}{Q:aO}{xs:aL}{bB:ba}(z:x=S k)(n:k.Z<=100)(o:m3 (S k)=jx)(G:∀R:ff->af->Prop,R (j9 K a) H->wi U H R)(h:H a=ja (.lst xs))(Y:xs.Z<=100)(N:eP H xs (bB.map (jc A B))){m:al.St}(j:hG cs U=jp::m)(q:∀v H',av H H'->b8 H' v (.list ((bB.map λt=>(k,t)).map (mJ A B)))->Q v H'):jf wi cs (hR 0) oE (Bu (js (j6 (.str x)) (js (pz 0) vV))) U H Q:=by
 let O:xs.Z=bB.Z:=by rw[N.len,bQ]
 show-À (J:=j9 K a) (H1:=H) (xs:=xs) G j (oj (aM.of h)) (e8 jQ) (λD i v r=>∃p y,v=.ref p/\p≠D/\xs[i]?=ja y/\r p=ja (.lst [.str (S k),y])) ?_ ?_ (λD i y r R c L E a8 s=>?_) (λD H' vs E a8 M l L=>?_)
 .rintro D i v r T P ⟨p,y,rfl,w,c,g⟩;show#[p,y,2,w,c,P _ _ g]
 .rintro D i v r zs ⟨p,y,rfl,w,c,g⟩;show#[p,y,2,w,c,by rwa[aJ w]]
 .let#[Z,a8]:=a8;show#[y,2,sz_,λp V=>s _ _ (b7 V) #[p,y,2,(cI a8 V).symm,c,by rw[aN,z]]]
 show-q _ H' L (.lst a8 jQ ?_);rw[hp];show-š (by rw[M,O]) λi v t C I=>?_;let#[p,y,2,_,c,g]:=l i v C;let#[d,dc,F]:=N.get c;rw[ea,I]at dc;cases dc;show-.lst g (by show 2<=100;decide) (.cons (.str _ (by rwa[eY]) o) (.cons (F.same L) .nil))
def BN{i:Nat}{x:Str}{bB:ba}(h:a' X e (jf (QC X.K (pz i)) [jp] (hR 0) oE (Bu (js (j6 (.str x)) (js (pz 0) vV)))))(g:c8[i]?=ja (ja (c6 (.list (bB.map (jc A B))))):=by rfl)(n:iy x.length 100=jx:=by left)(o:m3 x=jx:=by left):a' X e (h9 c8 (c6 (.list ((bB.map λt=>(x.cps.G,t)).map (mJ A B))))):=(DO h λU H Q y=>by let#[w,q]:=y;let#[v,p,k]:=w.get i _ g;let#[a,K,2,c,l,m]:=qX k;exact Á (K5 x).symm (hM n) (by rwa[K5]) (λR r=>#[_,p,a,2,#[_,aM.of c],r]) c l m rfl q)
def M7(w:bg):Bool:=iy 1 w.Z&&iy w.length 8&&w.all λc=>iy 97 c&&iy c 122
def ow(w:bg):Bool:=nH w&&!M7 w
def okN(w:bg):Bool:=decide (w=[0])||decide (w=[1])||ow w
end
def qY(u v:bg):Bool:=okN u&&okN v&&(decide (u=v)||ow u||ow v)
def iF(w:bg):Nat:=w.foldl (λn c=>10*n+(c-48)) 0
def jé(w:bg):Bool:=û (iF w) 10000000000&&decide (w=b_ (iF w))
def l7:List Nat:=[104,111,117,115,101]
def pf:List Nat:=[114,111,97,100]
def oF:List Nat:=[108,101,116,116,101,114]
def ua:List Nat:=[119,97,121]
def K6:List Nat:=[102,97,114]
def Ec:List Nat:=[114,111,117,116,101]
def sA:List Nat:=[112,111,115,116]
def Q9:List Nat:=[115,112,111,116]
def Q':List Nat:=[115,104,117,116]
def PC:List Nat:=[114,101,111,112,101,110]
def FG:List Nat:=[110,101,116]
def aae:List Nat:=[116,101,120,116]
def rq:List Nat:=[114,111,119]
def sS:List Nat:=[100,97,121]
def K7(l:bg):Bool:=!decide (l=[])&&decide (59∉l.dropLast)&&nH l&&match eV l with
 |p::q::r::rs=>!decide (q.getLast?=ja 58)||!hU p||!(r::rs).all hU
 |_=>jx
def R0(x:List Nat×List Nat):Bool:=sQ x.2&&!decide ([]∈eV x.2)&&match eV x.2 with
 |[kw,u]=>decide (kw=l7/\x.1=FG)&&okN u
 |[kw,u,v]=>(decide ((kw=K6\/kw=Ec)/\x.1=l7)&&okN u&&okN v&&(ow u||ow v))||decide (kw=Ec/\x.1=ua/\u=[1]/\v=[0])
 |[kw,u,v,n]=>(decide (kw=oF/\x.1=oF)&&okN u&&okN v&&jé n&&(qY u v||û 1000000000 (iF n)))||(decide (kw=ua/\x.1=l7)&&qY u v&&(jé n||decide (n=[45])))||(decide (kw=ua/\x.1=pf)&&(decide (u=[0]/\v=[1])&&iy 1 (iF n)||decide (u=[1]/\v=[0]))&&jé n)
 |[kw,u,v,n,m]=>decide (kw=pf/\x.1=FG)&&okN u&&okN v&&jé n&&jé m&&(qY u v||!(iy 1 (iF n)&&iy (iF n) 9)||!(iy 1 (iF m)&&iy (iF m) 1000000000))
 |_=>jA
def So(x:List Nat×List Nat):Bool:=decide (x.1=aae/\x.2.take 6=rT)&&K7 (x.2.drop 6)&&iy x.2.length 100
def h3(x:List Nat×List Nat):Bool:=sQ x.2&&!decide ([]∈eV x.2)&&match eV x.2 with
 |[kw,n]=>(decide ((kw=Q9/\x.1=oF)\/((kw=Q'\/kw=PC)/\x.1=pf)))&&jé n&&iy 1 (iF n)
 |[kw,u,v]=>decide (kw=sA/\x.1=oF)&&qY u v
 |_=>jA
def abi:List (List Nat×List fl):=[(sA,[.t,.t]),([112,97,115,115],[]),([116,117,114,110],[]),(Q9,[.n]),(Q',[.n]),(PC,[.n]),([108,111,103],[])]
def adW(t:bg):Bool:=sQ t&&!decide ([]∈eV t)&&match eV t with
 |kw::e=>nH kw&&abi.any λf=>decide (f.1=kw)&&decide (e.Z=f.2.Z)&&(f.2.zip e).all λx=>match x.1 with
  |.t=>jx
  |.n=>nH x.2&&jé x.2
  |_=>jA
 |_=>jA
section
variable{P:cx}{w:b0}{K:aI}{mg:b6}{base:Heap}
def sT(A B:bg):bf A B [0]=A:=(kK _)
def sU(A B:bg):bf A B [1]=B:=(kK _)
theorem vQ(h:f3 n):b8 H (.str (S n)) (.str (S n)):=.str _ (by rw[eY];have:=h.2.1;lia) (by
 simp only[m3,S];rw[OP];intro x a;have:=h.2.2 x (by simpa using a);show-cQ jQ)
def K8(b:f3 A)(c:f3 B){a:List (Option kv)}{U:al.St}(e:lK a U H):lK (ja (c6 (jc A B [0]))::ja (c6 (jc A B [1]))::a) (ja (.str (S A))::ja (.str (S B))::U) H:=by
 refine(e.cons ?_).cons ?_
 .show b8 H (.str (S B)) (.str (S (bf A B [1])));rw[sU];show-vQ c
 show b8 H (.str (S A)) (.str (S (bf A B [0])));rw[sT];show-vQ b
inductive aqM{α:Type}(f:List Nat->List Nat->α->PyData)(ok:α->Bool)(m:Nat)(vs:aL)(H:af)(Q:aO)(E:bF):Prop where
 |mk(A B:bg)(us:aL)(_:vs=.str (S A)::.str (S B)::us)(_:us.Z=0\/us=[.int 1])(_:f3 A)(_:f3 B)(_:∀(bB:List α)v H',bB.all ok=jx->bB.Z=m->av H H'->b8 H' v (.list (bB.map (f A B)))->Q v H')
def xN{a:Type}(f:List Nat->List Nat->a->PyData)(ok:a->Bool)(m n:Nat):fu:=λvs H Q E=>vs.Z=n/\aqM f ok m vs H Q E
def G5{b:Type}(A B:bg)(f:List Nat->List Nat->b->PyData)(ok:b->Bool)(m:Nat):kv:=#[λH v=>∃a:List b,a.all ok=jx/\a.Z=m/\b8 H v (.list (a.map (f A B))),λk⟨a,d,g,c⟩=>#[a,d,g,c.same k]]
def Ke{b:Type}{f:List Nat->List Nat->b->PyData}{ok:b->Bool}{m:Nat}{a:List b}(c:a.all ok=jx)(d:a.Z=m):∀H v,(c6 (.list (a.map (f A B)))).p H v->(G5 A B f ok m).p H v:=(λ_ _ h=>#[a,c,d,h])
abbrev K9:Stmt:=top 126
def pg:cp ["_law_a","_law_b","_law_some"] nP (bW K9):=({})
seal fI a' i7 ie
def apA{f:Addr}(F:b1 K "_law_no_rows" "_law_no_rows" K9 f fd):-aA a6 1 f fd nP (xN jc xq 68 2):=by
 show-F.ok pg (len:=λvs H Q E h=>h.1) (λr L c s H vs Q E y h=>?_);let#[l,A,B,t,2,_,a,b,q]:=h;obtain rfl:t=[]:=Bd.mp (rG (rG l));show#[An [ja (c6 (jc A B [0])),ja (c6 (jc A B [1])),jp] (G5 A B jc xq 68),(h1 (k:=2) pg.aC rfl (hr rfl) (hS (b' aZ (b' aZ (b' aZ (b' aZ (b' aZ (b' (bx a b (bx a b (bx a b aZ (cj (aa 0) rfl)) aZ) (cj (aa 1) rfl)) (b' aZ (b' aZ (b' aZ (b' aZ hQ)))))))))))
   (h1 (k:=2) pg.aC rfl (hr rfl) (i1 (cj (aa 2) rfl) (hS (b' (bx a b (bx a b (bx a b (bx a b aZ (cj (aa 0) rfl)) aZ) (cj (aa 1) rfl)) aZ) (b' (bx a b (bx a b (bx a b (bx a b aZ (cj (aa 0) rfl)) aZ) (cj (aa 1) rfl)) aZ) (b' (bx a b (bx a b (bx a b (bx a b aZ (cj (aa 0) rfl)) aZ) (cj (aa 1) rfl)) aZ) hQ)))))
   (h1 (k:=2) pg.aC rfl (hr rfl) (i1 (cj (aa 2) rfl) (hS (b' (bx a b (bx a b (bx a b (bx a b aZ (cj (aa 0) rfl)) aZ) (cj (aa 1) rfl)) aZ) (b' (bx a b (bx a b (bx a b (bx a b aZ (cj (aa 0) rfl)) aZ) (cj (aa 1) rfl)) aZ) (b' (bx a b (bx a b aZ (cj (aa 0) rfl)) aZ) hQ)))))
   (h1 (k:=2) pg.aC rfl (hr rfl) (i1 (cj (aa 2) rfl) (hS (b' (bx a b (bx a b (bx a b (bx a b aZ (cj (aa 0) rfl)) aZ) (cj (aa 1) rfl)) aZ) (b' (bx a b (bx a b (bx a b aZ (cj (aa 0) rfl)) aZ) (cj (aa 1) rfl)) (b' (bx a b (bx a b (bx a b (bx a b aZ (cj (aa 0) rfl)) aZ) (cj (aa 1) rfl)) aZ) hQ)))))
   (h1 (k:=2) pg.aC rfl (hr rfl) (i1 (cj (aa 2) rfl) (hS (b' (bx a b (bx a b (bx a b (bx a b aZ (cj (aa 0) rfl)) aZ) (cj (aa 0) rfl)) aZ) (b' (bx a b (bx a b (bx a b (bx a b aZ (cj (aa 0) rfl)) aZ) (cj (aa 1) rfl)) aZ) (b' (bx a b (bx a b aZ (cj (aa 1) rfl)) aZ) (b' (bx a b aZ (cj (aa 0) rfl)) hQ))))))
   (h1 (k:=2) pg.aC rfl (hr rfl) (i1 (cj (aa 2) rfl) (hS (b' (bx a b (bx a b (bx a b aZ (cj (aa 0) rfl)) aZ) (cj (aa 1) rfl)) (b' (bx a b (bx a b (bx a b (bx a b aZ (cj (aa 0) rfl)) aZ) (cj (aa 1) rfl)) aZ) (b' (bx a b (bx a b (bx a b (bx a b aZ (cj (aa 0) rfl)) aZ) (cj (aa 1) rfl)) aZ) (b' aZ hQ))))))
   (h1 (k:=2) pg.aC rfl (hr rfl) (i1 (cj (aa 2) rfl) (hS (b' (bx a b (bx a b (bx a b (bx a b aZ (cj (aa 0) rfl)) aZ) (cj (aa 1) rfl)) aZ) (b' aZ (b' (bx a b aZ (cj (aa 0) rfl)) (b' aZ (b' aZ hQ)))))))
   (h1 (k:=2) pg.aC rfl (hr rfl) (i1 (cj (aa 2) rfl) (hS (b' aZ hQ)))
   (h1 (k:=2) pg.aC rfl (hr rfl) (i1 (cj (aa 2) rfl) (hS (b' aZ (b' aZ (b' (bx a b aZ (cj (aa 0) rfl)) (b' (bx a b (bx a b (bx a b (bx a b aZ (cj (aa 0) rfl)) aZ) (cj (aa 1) rfl)) aZ) (b' (bx a b aZ (cj (aa 0) rfl)) (b' aZ (b' aZ hQ)))))))))
   (h1 (k:=2) pg.aC rfl (hr rfl) (i1 (cj (aa 2) rfl) (hS (b' aZ (b' aZ (b' aZ (b' aZ (b' aZ (b' aZ (b' aZ (b' aZ (b' aZ hQ)))))))))))
   (h1 (k:=2) pg.aC rfl (hr rfl) (i1 (cj (aa 2) rfl) (hS (b' (bx a b aZ (cj (aa 0) rfl)) hQ)))
   (h1 (k:=2) pg.aC rfl (hr rfl) (i1 (cj (aa 2) rfl) (hS (b' (bx a b (bx a b (bx a b (bx a b aZ (cj (aa 0) rfl)) aZ) (cj (aa 1) rfl)) aZ) (b' aZ (b' aZ (b' aZ (b' aZ (b' aZ (b' aZ hQ)))))))))
   (h1 (k:=2) pg.aC rfl (hr rfl) (i1 (cj (aa 2) rfl) (hS (b' aZ (b' aZ hQ))))
   (Ju (i1 (cj (aa 2) rfl) (hS (b' aZ (b' aZ (b' aZ (b' aZ (b' aZ (b' aZ (b' aZ (b' aZ (b' aZ hQ))))))))))) (Ke qL qL))))))))))))))),4]
 show#[K8 a b OB.skip,λv H' o d=>by let#[p,m,n,g]:=d;show-q p v H' m n o g]
theorem apB:∀(H:af)(vs:aL)(Q:aO),Fh [c6 (.int 1)] H vs->Ez (c6 (jc A C [49])) H Q->∃i,vs=[.int i]/\i.natAbs.log2<1920/\Q (.str (toString i)) H:=λH vs Q a q=>by
 let#[v,2,b]:=atW a;rw[PQ b];show#[(1),2,8,q _ H (av.refl _) (by
  show b8 H _ (.str (S (bf A C [49])));rw[lB A C rfl];let e:(toString (1:Int):Str)=S [49]:=by left
  rw[e];show-.str _ qc qL)]
def z1(x:List Nat×List Nat):Bool:=R0 x||So x
abbrev K':Stmt:=top 127
abbrev atw:List Str:=["_law_a","_law_b","_law_nets","_law_letters","_law_houses_here","_law_roads","_law_texts","_law_some"]
def ph:cp atw nP (bW K'):=({})
def apC{f:Addr}(F:b1 K "_law_others" "_law_others" K' f fd):-aA a6 1 f fd nP (xN mJ z1 36 2):=by
 show-F.ok ph (len:=λvs H Q E h=>h.1) (λe u o s H vs Q E j h=>?_);let#[l,A,B,i,2,_,a,b,q]:=h;obtain rfl:i=[]:=Bd.mp (rG (rG l));show#[An [ja (c6 (jc A B [0])),ja (c6 (jc A B [1])),jp,jp,jp,jp,jp,jp] (G5 A B mJ z1 36),(h1 (k:=2) ph.aC rfl (hr rfl) (hS (b' (bx a b aZ (cj (aa 0) rfl)) (b' (bx a b aZ (cj (aa 1) rfl)) (b' aZ (b' aZ (b' aZ (b' (bx a b (bx a b (bx a b (bx a b aZ (cj (aa 0) rfl)) aZ) (cj (aa 0) rfl)) aZ) hQ)))))))
   (h1 (k:=2) ph.aC rfl (hr rfl) (i1 (cj (aa 2) rfl) (hS (b' (bx a b (bx a b aZ (cj (aa 0) rfl)) aZ) (b' (bx a b (bx a b (bx a b (bx a b aZ (cj (aa 0) rfl)) aZ) (cj (aa 1) rfl)) aZ) (b' (bx a b (bx a b (bx a b (bx a b aZ (cj (aa 0) rfl)) aZ) (cj (aa 1) rfl)) aZ) hQ)))))
   (h1 (k:=2) ph.aC rfl (hr rfl) (i1 (cj (aa 2) rfl) (hS (b' (bx a b (bx a b (bx a b (bx a b aZ (cj (aa 0) rfl)) aZ) (cj (aa 1) rfl)) aZ) (b' (bx a b (bx a b (bx a b (bx a b aZ (cj (aa 0) rfl)) aZ) (cj (aa 1) rfl)) aZ) (b' (bx a b (bx a b aZ (cj (aa 1) rfl)) aZ) hQ)))))
   (h1 (k:=3) ph.aC rfl (hr rfl) (hS (b' (bx a b (bx a b (bx a b (bx a b aZ (cj (aa 0) rfl)) aZ) (cj (aa 0) rfl)) aZ) (b' (bx a b (bx a b aZ (cj (aa 0) rfl)) aZ) (b' (bx a b (bx a b aZ (cj (aa 1) rfl)) aZ) hQ))))
   (h1 (k:=3) ph.aC rfl (hr rfl) (i1 (cj (aa 3) rfl) (hS (b' (bx a b (bx a b (bx a b (bx a b aZ (cj (aa 0) rfl)) aZ) (cj (aa 1) rfl)) aZ) hQ)))
   (h1 (k:=4) ph.aC rfl (hr rfl) (hS (b' (bx a b (bx a b (bx a b (bx a b aZ (cj (aa 0) rfl)) aZ) (cj (aa 0) rfl)) aZ) (b' (bx a b (bx a b aZ (cj (aa 0) rfl)) aZ) (b' (bx a b (bx a b aZ (cj (aa 1) rfl)) aZ) (b' (bx a b aZ (cj (aa 0) rfl)) hQ)))))
   (h1 (k:=4) ph.aC rfl (hr rfl) (i1 (cj (aa 4) rfl) (hS (b' (bx a b (bx a b aZ (cj (aa 0) rfl)) aZ) hQ)))
   (h1 (k:=4) ph.aC rfl (hr rfl) (i1 (cj (aa 4) rfl) (hS (b' (bx a b aZ (cj (aa 1) rfl)) (b' (bx a b (bx a b aZ (cj (aa 0) rfl)) aZ) (b' aZ (b' (bx a b (bx a b (bx a b (bx a b aZ (cj (aa 1) rfl)) aZ) (cj (aa 1) rfl)) aZ) hQ))))))
   (h1 (k:=5) ph.aC rfl (hr rfl) (hS (b' (bx a b (bx a b (bx a b (bx a b aZ (cj (aa 0) rfl)) aZ) (cj (aa 1) rfl)) aZ) (b' (bx a b (bx a b (bx a b (bx a b aZ (cj (aa 1) rfl)) aZ) (cj (aa 0) rfl)) aZ) (b' (bx a b (bx a b (bx a b (bx a b aZ (cj (aa 0) rfl)) aZ) (cj (aa 1) rfl)) aZ) hQ))))
   (h1 (k:=6) ph.aC rfl (hr rfl) (hS (b' aZ (b' aZ (b' aZ (b' aZ (b' aZ (b' aZ hQ)))))))
   (h1 (k:=6) ph.aC rfl (hr rfl) (i1 (cj (aa 6) rfl) (hS (b' aZ hQ)))
   (h1 (k:=7) ph.aC rfl (hr rfl) (i1 (BN (j0 (N':=oP) (cs:=[jp]) rfl (hF (aa 2)) rfl qL rfl qL (hv (λp c=>bk c (ee))) rfl
    (.own .nil)
    (λC n d g m=>#[(ed 0 (by show(oP:bY).Nodup;decide+kernel)),iQ,(gc (aj cF (aj (aa 0) ay)))]))) (BN (j0 (N':=oP) (cs:=[jp]) rfl (hF (aa 3)) rfl qL rfl qL (hv (λp c=>bk c (ee))) rfl
    (.own .nil)
    (λC n d g m=>#[(ed 0 (by show(oP:bY).Nodup;decide+kernel)),iQ,(gc (aj cF (aj (aa 0) ay)))]))))
   (h1 (k:=7) ph.aC rfl (hr rfl) (i1 (i1 (cj (aa 7) rfl) (BN (j0 (N':=oP) (cs:=[jp]) rfl (hF (aa 4)) rfl qL rfl qL (hv (λp c=>bk c (ee))) rfl
    (.own .nil)
    (λC n d g m=>#[(ed 0 (by show(oP:bY).Nodup;decide+kernel)),iQ,(gc (aj cF (aj (aa 0) ay)))])))) (BN (j0 (N':=oP) (cs:=[jp]) rfl (hF (aa 5)) rfl qL rfl qL (hv (λp c=>bk c (ee))) rfl
    (.own .nil)
    (λC n d g m=>#[(ed 0 (by show(oP:bY).Nodup;decide+kernel)),iQ,(gc (aj cF (aj (aa 0) ay)))]))))
   (Ju (i1 (i1 (cj (aa 7) rfl) (BN (j0 (N':=oP) (cs:=[jp]) rfl (hF (aa 6)) rfl qL rfl qL (hv (λp c=>bk c (ee))) rfl
    (.own .nil)
    (λC n d g m=>#[(ed 0 (by show(oP:bY).Nodup;decide+kernel)),iQ,(gc (aj cF (aj (aa 0) ay)))])))) (hS (tJ (sR (bx a b (bx a b (bx a b aZ (cj (aa 1) rfl)) aZ) (cj (aa 0) rfl))) hQ))) (Ke qL qL))))))))))))))),4]
 show#[K8 a b OB.skip.skip.skip.skip.skip.skip,λv H' N r=>by let#[V,y,L,t]:=r;show-q V v H' y L N t]
def vm(x:List Nat×List Nat):Bool:=decide (x.1=sS)&&adW x.2
abbrev K_:Stmt:=top 129
def Q_:cp ["_law_a","_law_b","_law_some"] nP (bW K_):=({})
def apD{f:Addr}(F:b1 K "_law_no_day" "_law_no_day" K_ f fd):-aA a6 1 f fd nP (xN mJ vm 10 2):=by
 show-F.ok Q_ (len:=λvs H Q E h=>h.1) (λy j c s H vs Q E V h=>?_);let#[l,A,B,L,2,_,a,b,q]:=h;obtain rfl:L=[]:=Bd.mp (rG (rG l));show#[An [ja (c6 (jc A B [0])),ja (c6 (jc A B [1])),jp] (G5 A B mJ vm 10),(h1 (k:=2) Q_.aC rfl (hr rfl) (hS (b' (bx a b (bx a b (bx a b aZ (cj (aa 0) rfl)) aZ) (cj (aa 1) rfl)) (b' aZ (b' aZ (b' aZ (b' aZ (b' aZ (b' aZ (b' aZ hQ)))))))))
   (h1 (k:=2) Q_.aC rfl (hr rfl) (i1 (cj (aa 2) rfl) (hS (b' aZ (b' aZ hQ))))
   (Ju (BN (j0 (N':=oP) (cs:=[jp]) rfl (hF (aa 2)) rfl qL rfl qL (hv (λp o=>bk o (ee))) rfl
    (.own .nil)
    (λC u N e i=>#[(ed 0 (by show(oP:bY).Nodup;decide+kernel)),iQ,(gc (aj cF (aj (aa 0) ay)))]))) (Ke qL qL)))),4]
 show#[K8 a b OB.skip,λv H' r d=>by let#[t,m,n,g]:=d;show-q t v H' m n r g]
abbrev La:Stmt:=top 128
def Ra:cp ["_law_a","_law_b","_law_posted","_law_some"] EW (bW La):=({})
def apE{f:Addr}(F:b1 K "_law_in_day" "_law_in_day" La f fd)(B:fc mg):-aA a6 1 f fd EW (xN mJ h3 9 3):=by
 show-F.ok Ra (len:=λvs H Q E h=>h.1) (λr N c s H vs Q E L h=>?_);let#[l,A,C,y,2,t,a,b,q]:=h;obtain rfl:y=[.int 1]:=t.resolve_left λz=>by rw[e5,e5,z]at l;cases l
 show#[An [ja (c6 (jc A C [0])),ja (c6 (jc A C [1])),ja (c6 (.int 1)),jp] (G5 A C mJ h3 9),(h1 (k:=3) Ra.aC rfl (hr rfl) (hS (tJ (sR (bx a b (bx a b (bx a b aZ (cj (aa 0) rfl)) aZ) (cj (aa 0) rfl))) (tJ (sR (bx a b aZ (cj (aa 1) rfl))) (tJ (sR (bx a b (bx a b aZ (cj (aa 0) rfl)) aZ)) hQ))))
   (h1 (k:=3) Ra.aC rfl (hr rfl) (i1 (cj (aa 3) rfl) (hS (tJ (sR (bx a b aZ (akM (R:=c6 (jc A C [49])) qA qF B.str o_ (amx (cj (aa 2) rfl) aob) apB))) (tJ (sR aZ) (tJ (sR aZ) hQ)))))
   (Ju (i1 (cj (aa 3) rfl) (hS (tJ (sR aZ) (tJ (sR aZ) (tJ (sR aZ) hQ))))) (Ke qL qL)))),4]
 show#[K8 a b (OB.skip.cons (.int 1)),λv H' o d=>by let#[p,m,n,g]:=d;show-q p v H' m n o g]
unseal fI a' i7 ie
structure Step where
 left:Int
 at6:Option Int
 pW:Str
 kj:Int
abbrev hu:= List (List Step)
def at5:Option Int->al.V
 |none=>.cw
 |some i=>.int i
def H8(s:Step):List al.V:=[.int s.left,at5 s.at6,.str s.pW,.int s.kj]
def Ep(n g st:Addr):List (Str×al.V):=[("net",.ref n),("goals",.ref g),("steps",.ref st)]
def gP(H:af)(l:Addr)(b:List Step):Prop:=∃a,H l=ja (.lst (bw a))/\h5 H a (b.map H8)
structure WalkAt(C:Addr)(H:af)(x n g st:Addr)(cC:bY)(ls:b5)(bE:hu):Prop where
 ins:∃ah,H x=ja (.ins C ah (Ep n g st))
 goals:H g=ja (.lst (cC.map V.str))
 steps:H st=ja (.lst (bw ls))
 each:b9 (gP H) ls bE
end
structure rb(K:aI)(C:Addr):Prop where
 cl:ef K C
 nn:cK K (.ref C) "net"=ja jp
 i2:cK K (.ref C) "goals"=ja jp
 ns:cK K (.ref C) "steps"=ja jp
inductive Ţ(C:Addr)(vs:aL)(H:af)(Q:aO)(fE:bF):Prop where
 |mk(x n g st:Addr)(cC:bY)(ls:b5)(bE:hu)(k:Nat)(y:Str)(_:vs=[.ref x,.int k])(_:WalkAt C H x n g st cC ls bE)(_:cC[k]?=ja y)(_:Q (.str y) H)
inductive OG(C:Addr)(vs:aL)(H:af)(Q:aO)(fE:bF):Prop where
 |mk(x n g st:Addr)(cC:bY)(ls:b5)(bE:hu)(k:Nat)(ss:List Step)(s:Step)(_:vs=[.ref x,.int k])(_:WalkAt C H x n g st cC ls bE)(_:bE[k]?=ja (ss++[s]))(_:Q (.str s.pW) H)
inductive IQ(C:Addr)(vs:aL)(H:af)(Q:aO)(fE:bF):Prop where
 |mk(x n g st:Addr)(cC:bY)(ls:b5)(bE:hu)(k:Nat)(ss:List Step)(s:Step)(_:vs=[.ref x,.int k])(_:WalkAt C H x n g st cC ls bE)(_:bE[k]?=ja (ss++[s]))(_:Q (.int s.kj) H)
def ZS{a:aL}:al.hZ (a++[v]) (-1)=ja v:=by
 unfold al.hZ al.tB;rw[dT,bL qc,b2 (by show -((a.Z+1:Nat):Int)<=-1;lia)];show(a++[v])[((-1:Int)+((a.Z+1:Nat):Int)).toNat]?=_;let e:((-1:Int)+((a.Z+1:Nat):Int)).toNat=a.Z:=by lia
 rw[e];simp
section
variable{P:cx}{w:b0}{K:aI}{mg:b6}{base:Heap}
abbrev Ed:Stmt:=gT (top 34) 4
def anq:cp dv dv (bW Ed):=({})
def Ď{H:af}{st:Addr}{f:b5}{m:hu}{k:Nat}{b:List Step}{s:Step}(W:WalkAt C H x n g st i f m)(e:m[k]?=ja (b++[s])):
  ∃l a t,f[k]?=ja l/\H l=ja (.lst (bw (a++[t])))/\H t=ja (.tup (H8 s)):=by
 let j:=jz W.each;let#[h,_]:=gM.mp e;obtain⟨l,r⟩:∃l,f[k]?=ja l:=#[_,ew jQ]
 let#[q,p,a,N,o]:=b9.get W.each r;rw[e]at p;cases p;let y:=o.len;rw[bQ,dT]at y;simp only[e5,rD]at y;obtain⟨t,c⟩:∃t,a[b.Z]?=ja t:=#[_,ew jQ]
 let#[d,dc,V]:=b9.get o c;rw[fP,Qc (by rw[bQ];lia),bQ,ā]at dc;cases dc;show#[l,a.take b.Z,t,r,4,V];let L:a=a.take b.Z++[t]:=by
  let this:=(Qi b.length a).symm;let A:a.drop b.Z=[t]:=by rw[JP (by lia:b.Z<a.Z)];rw[ew (by lia:b.Z<a.Z)]at c;cases c;rw[List.drop_eq_nil_of_le jQ]
  rwa[A]at this
 rwa[<-L]
def alC{f:Addr}(F:b1 K "last_house" "Walk.last_house" Ed f fd)(a:rb K C):-aA a6 1 f fd dv (OG C):=by
 show-F.ok anq (λ_ A _ s H vs Q E L h=>?_);let#[x,n,g,st,V,e,N,k,j,i,2,W,r,q]:=h;let#[b,d]:=W.ins;let#[l,o,t,y,m,p]:=Ď W r;show#[_,(a9 (ct (ck eN (ck e4 (ck e4 (dE (aa 0)) (aa 1)) (AO Au bt)) bt))),4]
 ac_rfl
 let c:al.hZ (bw (o++[t])) (-1)=ja (.ref t):=by unfold bw;rw[fP];show-ZS
 show#[1,x,C,b,_,1,d,a.cl,a.ns,7,st,_,3,aM.of W.steps,jV (by unfold bw;rw[ea,y];rfl),1,l,_,3,aM.of m,c,t,_,3,cH.of p,2,q]
abbrev Aw:Stmt:=gT (top 34) 5
def anr:cp dv dv (bW Aw):=({})
def alD{f:Addr}(F:b1 K "last_turn" "Walk.last_turn" Aw f fd)(a:rb K C):-aA a6 1 f fd dv (IQ C):=by
 show-F.ok anr (λ_ A _ s H vs Q E L h=>?_);let#[x,n,g,st,V,e,N,k,j,i,2,W,r,q]:=h;let#[b,d]:=W.ins;let#[l,o,t,y,m,p]:=Ď W r;show#[_,(a9 (ct (ck eN (ck e4 (ck e4 (dE (aa 0)) (aa 1)) (AO Au bt)) bt))),4]
 ac_rfl
 let c:al.hZ (bw (o++[t])) (-1)=ja (.ref t):=by unfold bw;rw[fP];show-ZS
 show#[1,x,C,b,_,1,d,a.cl,a.ns,7,st,_,3,aM.of W.steps,jV (by unfold bw;rw[ea,y];rfl),1,l,_,3,aM.of m,c,t,_,3,cH.of p,2,q]
def sC(s:Step)(g:Str):al.V:=if s.pW=g then .int s.kj else .cw
inductive I2(C:Addr)(vs:aL)(H:af)(Q:aO)(fE:bF):Prop where
 |mk(x n g st:Addr)(cC:bY)(ls:b5)(bE:hu)(k:Nat)(ss:List Step)(s:Step)(y:Str)(_:vs=[.ref x,.int k])(_:WalkAt C H x n g st cC ls bE)(_:bE[k]?=ja (ss++[s]))(_:cC[k]?=ja y)(_:Q (sC s y) H)
abbrev Ax:Stmt:=gT (top 34) 6
def ans:cp dv dv (bW Ax):=({})
def alE{f:Addr}(F:b1 K "home_turn" "Walk.home_turn" Ax f fd)(l:rb K C)(i:cR K C "last_house" "Walk.last_house" Ed dv f1 z)(u:-aA a6 1 f1 z dv (OG C))(N:cR K C "last_turn" "Walk.last_turn" Aw dv f2 B)(G:-aA a6 1 f2 B dv (IQ C)):-aA a6 2 f fd dv (I2 C):=by
 let L:=l.cl;show-F.ok ans (λ_ A _ s H vs Q E p h=>?_);let#[x,n,g,st,m,e,r,k,j,o,y,2,W,t,D,q]:=h;let#[b,c]:=W.ins;show#[_,(a3 (eu (gs AP (fg (aa 0) L i.d5 u p.mono i.bd .nil cd (aj (aa 1) ay)) (ck e4 (dE (aa 0)) (aa 1)) (e9 _)) (a9 (ct kn)) eH)
  (a9 (ct (fg (aa 0) L N.d5 G p.mono N.bd .nil cd (aj (aa 1) ay))))),4]
 ac_rfl
 let d:al.hZ (m.map V.str) (k:Int)=ja (.str y):=jV (by rw[ea,D];rfl);show#[1,x,b,1,c,7,x,n,g,st,m,e,r,k,j,o,2,W,t,4];show#[1,x,C,b,_,1,c,l.cl,l.i2,7,g,_,3,aM.of W.goals,d,7,4];unfold sC at q;by_cases a:o.pW=y
 .rw[b2 a]at q;show-fv (by rw[a];simp) #[1,x,b,1,c,7,x,n,g,st,m,e,r,k,j,o,2,W,t,q]
 rw[bL a]at q;show-ey (by simp[a]) q
def l'(d:nY):List al.V:=[.str d.1,.int d.2.1,.str d.2.2]
def mI(d:nY):List Step:=[#[d.2.1,jp,d.1,d.2.1]]
inductive Kf(C:Addr)(vs:aL)(H:af)(Q:aO)(fE:bF):Prop where
 |mk(x ah n gx:Addr)(rs:b5)(ds:mn)(_:vs=[.ref x,.ref n,.ref gx])(_:H x=ja (.ins C ah []))(_:H gx=ja (.lst (bw rs)))(_:h5 H rs (ds.map l'))(_:rs.Z<=100)(_:∀(H':af)(g st:Addr)(iG:b5),SameBut x H H'->WalkAt C H' x n g st (ds.map λd=>d.2.2) iG (ds.map mI)->H g=jp->H st=jp->iG.Nodup->(∀l∈iG,H l=jp/\l≠st/\l≠g)->g≠st->Q .cw H')
abbrev BO:Stmt:=gT (top 34) 0
inductive PZ(C:Addr)(vs:aL)(H:af)(Q:aO)(fE:bF):Prop where
 |mk(x ah n g st r:Addr)(cC:bY)(ls:b5)(d:nY)(_:vs=[.ref x,.ref r])(_:H x=ja (.ins C ah (Ep n g st)))(_:H g=ja (.lst (cC.map V.str)))(_:H st=ja (.lst (bw ls)))(_:g≠st)(_:H r=ja (.tup (l' d)))(_:cC.Z<=100)(_:ls.Z<=100)(_:∀(H':af)(l t:Addr),(∀b o,b≠g->b≠st->H b=ja o->H' b=ja o)->H' g=ja (.lst ((cC++[d.2.2]).map V.str))->H' st=ja (.lst (bw (ls++[l])))->H l=jp->H t=jp->H' l=ja (.lst [.ref t])->H' t=ja (.tup (H8 ⟨d.2.1,jp,d.1,d.2.1⟩))->Q .cw H')
abbrev EK:Stmt:=gT (top 34) 1
def apF:cp wj wj (bW EK):=({})
def ant{f:Addr}(F:b1 K "take_in" "Walk.take_in" EK f fd)(N:rb K C):-aA a6 1 f fd wj (PZ C):=by
 show-F.ok apF (λ_ A _ s H vs Q E ao h=>?_);let#[x,J,n,g,st,r,c,ls,d,2,L,j,D,G,i,Cc,ez,q]:=h;show#[_,(a3 (gD (kV rH ur uu r6 (dE (aa 0)) (aj (ck eN (aa 1) bt) ay)))
  (a9 (gD (kV rH ur uu r6 (dE (aa 0)) (aj (gc (aj (qW (aj (ck eN (aa 1) bt) (aj kn (aj (ck eN (aa 1) bt) (aj (ck eN (aa 1) bt) ay))))) ay)) ay))))),4]
 ac_rfl
 let zT:x≠g:=al.f5 L j (by intro z;cases z);let C5:x≠st:=al.f5 L D (by intro z;cases z);let B:r≠g:=al.f5 i j (by intro z;cases z);let R:r≠st:=al.f5 i D (by intro z;cases z);show#[1,x,C,J,_,1,L,N.cl,N.i2,2,.inl #[2,_,aM.of j],1,r,_,3,cH.of i,2,g,3,j,e8 (by rw[bQ];lia),4];let O:upd H g (.lst (c.map V.str++[V.str d.2.2])) x=_:=(aJ zT).trans L;let p:upd H g (.lst (c.map V.str++[V.str d.2.2])) st=_:=(aJ G.J).trans D;let u:upd H g (.lst (c.map V.str++[V.str d.2.2])) r=_:=(aJ B).trans i;show#[1,x,C,J,_,1,O,N.cl,N.ns,2,.inl #[2,_,aM.of p],4];show#[1,r,_,3,cH.of u,7,r,_,3,cH.of u,7,r,_,3,cH.of u,2,sz_,λt a=>#[sz_,λl k=>?_]];let y:∀{b},upd H g (.lst (c.map V.str++[V.str d.2.2])) b=jp->H b=jp/\b≠g:=λ{b}e=>by
  let M:b≠g:=λz=>by rw[z,aN]at e;cases e
  rw[aJ M]at e;show#[e,M]
 let I:l≠t:=λz=>by rw[z,aN]at k;cases k
 let m:=k;rw[aJ I]at m;let Y:=(b7 (o:=.lst [.ref t]) k) _ _ ((b7 (o:=.tup (H8 #[d.2.1,jp,d.1,d.2.1])) a) _ _ p);let Z:t≠st:=λz=>by rw[z,p]at a;cases a
 let se:l≠st:=λz=>by rw[z,p]at m;cases m
 show#[st,3,Y,e8 (by rw[gX];lia),4];show-q _ l t (λb o U X e=>?_) ?_ ?_ (y m).1 (y a).1 ?_ ?_
 .let T:upd H g (.lst (c.map V.str++[V.str d.2.2])) b=ja o:=by rwa[aJ U]
  rw[aJ X];exact(b7 k) _ _ ((b7 a) _ _ T)
 .rw[aJ G,aJ (y m).2.symm,aJ (y a).2.symm,aN,fP];rfl
 .rw[aN,HP]
 .rw[aJ se,aN]
 rw[aJ Z,aJ I.J,aN];rfl
def aaf:cp ["self","net","letters","letter"] uj (bW BO):=({})
inductive atx(C:Addr)(H:af)(x ah n g st gx:Addr)(ds:mn)(j:Nat)(U:al.St)(el:af):Prop where
 |mk(md:lh)(iG:b5)(_:U=[ja (.ref x),ja (.ref n),ja (.ref gx),md])(_:∀b o,b≠x->H b=ja o->el b=ja o)(_:el x=ja (.ins C ah (Ep n g st)))(_:el g=ja (.lst (((ds.take j).map λd=>d.2.2).map V.str)))(_:el st=ja (.lst (bw iG)))(_:b9 (gP el) iG ((ds.take j).map mI))(_:iG.Nodup)(_:∀l∈iG,H l=jp/\l≠st/\l≠g)
def apG{f:Addr}(F:b1 K "__init__" "Walk.__init__" BO f fd)(m:rb K C)(rR:cR K C "take_in" "Walk.take_in" EK wj f1 cg)(W4:-aA a6 1 f1 cg wj (PZ C)):-aA a6 2 f fd uj (Kf C):=by
 let g6:=m.cl;show-F.ok aaf (λ_ A _ s H vs Q E ao h=>?_);let#[x,k,n,gx,rs,ds,2,aq,X,di,dy,q]:=h;show#[_,(a3 (jo (aa 0) (aa 1) rfl)
  (a3 (jo (aa 0) (gc ay) rfl)
  (a3 (jo (aa 0) (gc ay) rfl)
  (a9 (l6 lT rfl (hF (aa 2)) (ed 3 aaf.aC)
   (a9 (gD (fg (aa 0) g6 rR.d5 W4 ao.mono rR.bd .nil cd (aj (aa 3) ay))))))))),4]
 ac_rfl
 show#[5,x,C,k,1,aq,m.cl,m.nn,(by show 0<1000;decide),4];let Z:gx≠x:=al.f5 X aq (by intro z;cases z);show#[sz_,λg i2=>?_];let Y:g≠x:=λz=>by rw[z,aN]at i2;cases i2
 let I:=i2;rw[aJ Y]at I;show#[1,x,C,k,1,(by rw[aJ Y.J,aN]),m.cl,m.i2,(by show 1<1000;decide),sz_,λst c=>?_];let J:st≠x:=λz=>by rw[z,aN]at c;cases c
 rw[aJ J]at c;let Nb:st≠g:=λz=>by rw[z,aN]at c;cases c
 rw[aJ Nb,aJ J]at c;show#[1,x,C,k,1,(by rw[aJ J.J,aN]),m.cl,m.ns,(by show 2<1000;decide),4];show#[1,gx,2,#[_,aM.of (xs:=bw rs) ?_],4]
 .rwa[aJ Z,aJ (cI X c),aJ Z,aJ (cI X I),aJ Z]
 let vk:=gX rs;let axx:rs.Z=ds.Z:=by have:=jz di;rwa[bQ]at this
 refine tC (K:=K) (a:=gx) (xs:=bw rs) (atx C H x k n g st gx ds)
  #[jp,[],2,λb o L e=>?_,aN,4,4,.nil,pI,λl O=>bk O ee] (λj U V _⟨_,_,_,h,_,_,_,_,_,_⟩=>aM.of (h _ _ Z X)) ?_ ?_
 .rwa[aJ L,aJ (cI e c),aJ L,aJ (cI e I),aJ L]
 .rw[aJ Y,aJ Nb.J,aJ Y,aN];rfl
 .rw[aJ J,aN];rfl
 .rintro j z U V eo ⟨md,iG,rfl,T,D,N,G,u,aC,fr⟩;unfold bw at eo;rw[ea]at eo;let#[r,h2,2]:=hN.mp eo;let#[y,dk,cc]:=b9.get di h2;rw[ea]at dk;let#[d,dc,2]:=hN.mp dk;let aE7:=(gM.mp dc).1;let hx:=jz u;rw[bQ,yA]at hx;let bc:ds.take (j+1)=ds.take j++[d]:=by rw[Bj,dc];rfl
  show#[1,x,k,1,D,7,x,k,n,g,st,r,_,iG,d,2,D,N,G,Nb.J,T _ _ (al.f5 cc aq (by intro z;cases z)) cc,(by rw[bQ,yA];lia),jQ,4];intro H' l t cf awm UT B eT awx Mz;let ax3:∀{o},V l=ja o->False:=λ{o}e=>by rw[B]at e;cases e
  let R:∀{b},V b=jp->H b=jp:=λ{b}e=>by
   by_cases M:b=x
   .rw[M,D]at e;cases e
   cases aP:H b with
   |none=>rfl
   |some o=>rw[T _ _ M aP]at e;cases e
  show#[_,iG++[l],2,λb o L e=>?_,cf _ _ Y.symm J.symm D,4,UT,4,4,4]
  .exact cf _ _ (λz=>by rw[z,I]at e;cases e) (λz=>by rw[z,c]at e;cases e) (T _ _ L e)
  .rw[awm,bc];simp only[fP,hL,JW]
  .rw[bc,fP];show-Paired.snoc #[[t],awx,.cons Mz .nil] ?_;let go:∀{ms:b5}{Aq:hu},b9 (gP V) ms Aq->(∀l∈ms,l≠st/\l≠g)->b9 (gP H') ms Aq:=λ{ms Aq}p=>by
    induction p with
    |nil=>exactλ_=>.nil
    |cons r t aW=>
     refineλh=>.cons ?_ (aW λl O=>h l (.tail _ O))
     let#[bB,ai,ak]:=r;show#[bB,cf _ _ (h _ (.head _)).2 (h _ (.head _)).1 ai,b9.ju ak λa b e=>cf _ _ (al.f5 e N (by intro z;cases z)) (al.f5 e G (by intro z;cases z)) e]
   show-go u λl O=>(fr l O).2
  .rw[Bg];show#[aC,jj.mpr #[ee,pI],λa aB b M=>?_];rw[d2]at M;subst M;rintro rfl;let#[i,hi,e]:=JU aB;let#[6,bB,ai,_]:=b9.get u (gM.mpr #[hi,e]);show-ax3 ai
  intro dr mC;rw[iM,d2]at mC;rcases mC with h|rfl
  .exact fr _ h
  show#[R B,λz=>(by rw[z]at B;rw[B]at G;cases G),λz=>(by rw[z]at B;rw[B]at N;cases N)]
 rintro U V ⟨md,iG,rfl,T,D,N,G,u,aC,fr⟩;rw[vk,axx,ui]at N u;show-q V g st iG (λb o L e=>T b o L e) #[#[k,D],N,G,u] I c aC fr Nb.J
end
end dP
namespace bX
open PySem PySem.Spec PyProof.Rows al PySem.W
section
variable{prog:cx}{w:b0}{A:et}{E:cL}{s:aS}
def anu{c f d g:Int}{Q:cL}(V:rC s.heap a (List.toArray [.int c t1,.int f fq]))(e:rC s.heap b (List.toArray [.int d q,.int g u]))(i:A.units<cLine)(h:Q (.bool (if c=d then decide (f<=g)else decide (c<=d))) s):aQ (bj prog w) A (jU .LtE (.ref a) (.ref b)) Q E s:=by
 let#[p,k,m,B,o]:=V;let#[x,L,n,C,j]:=e;let N:s.TypeIs (.ref a) "tuple":=#[p,k,m]
 let K:s.TypeIs (.ref b) "tuple":=#[x,L,n]
 show aQ _ _ (richCompare .LtE (.ref a) (.ref b)) _ _ _;show-wpAny_richCompare_same_room (op:=.LtE) N K F.slot_tuple_le (nI F.slot_tuple_le N F.entry_tuple_le ?_ (F.args_tuple_le_2 _ _)) i;show aQ _ _ (GJ (.ref b) (.type "tuple") >>=_) _ _ s;show-az (YD K isSubtype_tuple_tuple ?_);simp only[ZB,AV,if_false];show-az (aAh k o ?_);show-az (aAh L j ?_);show-az ?_;simp only[aik,List.zip_nil_left,JS,Ï];show-az (az (afk ?_));by_cases l:c=d
 .rw[b2 l]at h;let t:(c==d)=jx:=by simp[l]
  rw[t];simp only[ZB,AV,if_false];show-bu (az (az (afk ?_)));by_cases y:f=g
  .let r:(f==g)=jx:=by simp[y]
   rw[r];simp only[ZB,AV,if_false];show-bu (bu ?_);show-bu #[1,(λz=>nomatch z),4];rwa[cQ jQ]at h
  let r:(f==g)=jA:=by simp[y]
  rw[r];simp only[af0,if_true];show-az (xZ (az ?_));show aQ _ _ (jU .LtE (qu f fq) (qu g u)) _ _ _;show-le_int (az (bu (bu (bu (bu #[1,(λz=>nomatch z),h])))))
 rw[bL l]at h;let t:(c==d)=jA:=by simp[l]
 rw[t];simp only[af0,if_true];show-az (xZ (az ?_));show aQ _ _ (jU .LtE (qu c t1) (qu d q)) _ _ _;show-le_int (az (bu (bu (bu (bu #[1,(λz=>nomatch z),h])))))
end
section
variable{X:bA}
def apb(t:X.A.units<cLine):hD X (jU .LtE) (λx y H Q=>∃a b f k g l,x=.ref a/\y=.ref b/\cH X.K H a [.int f,.int k]/\cH X.K H b [.int g,.int l]/\Q (.aX (if f=g then decide (k<=l)else decide (f<=g))) H):=by
 intro m s U H x y v u Q I p r h;let#[a,b,f,k,g,l,2,2,n,o,q]:=h;cases p;cases r;let#[K,c,A,_]:=I.tuple n;let#[L,d,w,_]:=I.tuple o;cases c with
 |cons fM c=>
  cases c with
  |cons fz c=>
   cases c;cases d with
   |cons bV d=>
    cases d with
    |cons dj d=>
     cases d;let#[1]:=fM;let#[1]:=fz;let#[1]:=bV;let#[1]:=dj;show-anu A w t (xT I q rfl)
end
end bX
namespace dP
open PySem al bX cE
abbrev ib:=Int×Nat
abbrev uA:= List (ib×List Nat)
def Dt:cE.f9:=#[0,0,0,0]
def v8(a:ba)(ds:cY)(r:Nat):Str:=S (a.getD (ds.getD r Dt).a [])
def v9(a:ba)(ds:cY)(r:Nat):Str:=S (a.getD (ds.getD r Dt).b [])
def sm(ds:cY)(r:Nat):Int:=(ds.getD r Dt).t
def z9(ds:cY)(r:Nat):Int:=(ds.getD r Dt).m
def stepK(a:ba)(ds:cY)(k:ib):Step:=#[k.1,ja k.2,v9 a ds k.2,k.1+sm ds k.2]
def pj(st:Step)(c:bg)(b:hu):List (List Step):=b.mapIdx λi a=>if i∈c then a++[st]else a
def N6(st:Step)(b:bg)(a:hu):(pj st b a).Z=a.Z:=by unfold pj;rw[List.length_mapIdx]
def Df(st:Step)(b:bg)(a:hu)(i:Nat):(pj st b a)[i]?=(a[i]?).map λc=>if i∈b then c++[st]else c:=by unfold pj;rw[List.getElem?_mapIdx]
def akh(st:Step)(a:hu):pj st [] a=a:=by apply Qa;intro i;rw[Df];simp
def ahp(st:Step){a:bg}{n:Nat}(h:n∉a){b:hu}{d:List Step}(e:b[n]?=ja d):pj st (a++[n]) b=(pj st a b).set n (d++[st]):=by
 apply Qa;intro i;rw[Df,Ñ,Df,N6];by_cases c:n=i
 .subst c;let f:=(gM.mp e).1;rw[b2 rfl,b2 f,e];simp
 rw[bL c];have:(i∈a++[n])↔i∈a:=by rw[iM,d2];show#[λz=>z.elim id λw=>bk w.symm c,.inl]
 simp only[this]
def mask(H:af)(a:b5):af:=λb=>if b∈a then jp else H b
def iS{H:af}{a:b5}{b:Addr}(e:H b=ja o)(n:b∉a):mask H a b=ja o:=by unfold mask;rwa[bL n]
def I3{a:b5}{b:Addr}(h:b∈a):mask H a b=jp:=(b2 h)
theorem Dg(H:af)(a:b5):av (mask H a) H:=λb o e=>by
 unfold mask at e;split at e
 .cases e
 show-e
def iZ(H:af)(a:Addr)(b:ib×List Nat):Prop:=∃c,H a=ja (.tup [.int b.1.1,.int b.1.2,.ref c])/\H c=ja (.tup (b.2.map λn:Nat=>V.int n))
def iZ.same{b:ib×List Nat}(h:iZ H a b)(d:av H H'):iZ H' a b:=(let⟨c,f,g⟩:=h;#[c,d _ _ f,d _ _ g])
structure p_(C:Addr)(H:af)(x n g st:Addr)(cC:bY)(ls:b5):Prop where
 ins:∃ah,H x=ja (.ins C ah (Ep n g st))
 goals:H g=ja (.lst (cC.map V.str))
 steps:H st=ja (.lst (bw ls))
theorem p_.same{st:Addr}(h:p_ C H x n g st i ls)(a:av H H'):p_ C H' x n g st i ls:=
 let⟨b,e⟩:=h.ins;#[#[b,a _ _ e],a _ _ h.goals,a _ _ h.steps]
def p_.at_{st:Addr}(h:p_ C H x n g st i ls)(e:b9 (gP H) ls bE):WalkAt C H x n g st i ls bE:=(#[h.ins,h.goals,h.steps,e])
def gP.same{d:List Step}(h:gP H l d)(c:av H H'):gP H' l d:=(let⟨f,a,b⟩:=h;#[f,c _ _ a,b.same c])
def HK(h:b9 (gP H) ls bE)(a:av H H'):b9 (gP H') ls bE:=(b9.ju h λ_ _ e=>e.same a)
theorem WalkAt.same{st:Addr}(h:WalkAt C H x n g st i ls bE)(a:av H H'):WalkAt C H' x n g st i ls bE:=
 let⟨b,e⟩:=h.ins;#[#[b,a _ _ e],a _ _ h.goals,a _ _ h.steps,HK h.each a]
theorem Â{w:List Step}(d:gP H' l w)(c:∀m y,m≠l->gP H m y->gP H' m y):∀{b:b5}{f:hu}{n:Nat},b9 (gP H) b f->b.Nodup->b[n]?=ja l->b9 (gP H') b (f.set n w)
 |_,_,n,.nil,_,e=>by simp at e
 |a::b,s0::f,0,.cons r t,aC,e=>by
  simp only[Qd,Qr]at e;subst e;rw[jj]at aC;show-.cons d ?_;have:∀{g:b5}{k:hu},b9 (gP H) g k->a∉g->b9 (gP H') g k:=λ{g k}p=>by
   induction p with
   |nil=>exactλ_=>.nil
   |cons r t i=>exactλh=>.cons (c _ _ (λz=>h (by rw[z];show-.head _)) r) (i λz=>h (.tail _ z))
  show-this t aC.1
 |a::b,s0::f,n+1,.cons r t,aC,e=>by
  rw[jj]at aC;let o:b[n]?=ja l:=by simpa using e
  show-.cons (c _ _ (λz=>aC.1 (by rw[z];show-eX o)) r) (Â d c t aC.2 o)
section
variable{P:cx}{w:b0}{K:aI}{mg:b6}{base:Heap}
inductive PD(C:Addr)(vs:aL)(H:af)(Q:aO)(fE:bF):Prop where
 |mk(x bb bh:Addr)(xs ys:aL)(k:Int)(v:al.V)(_:vs=[.ref x,.int k])(_:ih C H x bb bh xs ys)(_:0<=k)(_:k<ys.Z)(_:al.hZ ys k=ja v)(_:Q v H)
def alF{f:Addr}(F:b1 K "road" "Net.road" xM f fd)(B:fc mg)(a:sN K C):-aA a6 1 f fd dv (PD C):=by
 show-F.ok à (λ_ A _ s H vs Q E o h=>?_);let#[x,p,d,r,t,k,v,2,n,m,l,g,q]:=h;let#[b,c]:=n.ins;show#[_,(a3 (eu (jF (z5 q8 vG bt (aa 1) (d4 jC B.len iT (aj (dE (aa 0)) ay)))) (a9 Il) eH)
  (a9 (ct (ck e4 (dE (aa 0)) (aa 1))))),4]
 ac_rfl
 show#[1,3,1,4];show-ey (cQ m) #[1,x,C,b,_,1,c,a.cl,a.iq,2,d,1,.inl (aM.of n.oA),3,1,4];show-A2 l ?_;show#[1,x,C,b,_,1,c,a.cl,a.iq,7,d,_,3,aM.of n.oA,g,q]
inductive JE(C aD:Addr)(vs:aL)(H:af)(Q:aO)(fE:bF):Prop where
 |mk(bS:af)(x n g st bb bh fT:Addr)(cC:bY)(ls rs:b5)(bE:hu)(hs:ba)(ds:cY)(b:ib×List Nat)(_:vs=[.ref x,.ref fT])(_:av bS H)(_:p_ C bS x n g st cC ls)(_:b9 (gP H) ls bE)(_:ls.Nodup)(_:(∀l∈ls,bS l=jp))(_:ih aD bS n bb bh (dK hs) (bw rs))(_:gO bS hs rs ds)(_:iZ bS fT b)(_:b.1.2<ds.Z)(_:b.2.Nodup)(_:(∀i∈b.2,i<bE.Z))(_:(∀ss∈bE,ss.Z<=100))(_:∀H',av bS H'->b9 (gP H') ls (pj (stepK hs ds b.1) b.2 bE)->Q .cw H')
abbrev AZ:Stmt:=gT (top 34) 2
def P0:cp ["self","bag","road","number"] um (bW AZ):=({})
inductive aty(bS:af)(x fT r:Addr)(ls:b5)(hs:ba)(ds:cY)(b:ib×List Nat)(bE:hu)(j:Nat)(U:al.St)(el:af):Prop where
 |mk(md:lh)(_:U=[ja (.ref x),ja (.ref fT),ja (.ref r),md])(_:av bS el)(_:b9 (gP el) ls (pj (stepK hs ds b.1) (b.2.take j) bE))
def anv{f:Addr}(F:b1 K "send" "Walk.send" AZ f fd)(M:rb K C)(eW:ef K aD)(kR:cR K aD "road" "Net.road" xM dv f1 cg)(zz:-aA a6 1 f1 cg dv (PD aD)):
  -aA a6 2 f fd um (JE C aD):=by
 show-F.ok P0 (λ_ A _ s H vs Q E ao h=>?_);let#[bS,x,n,g,st,bb,bh,y,cC,ls,rs,bE,p,ds,b,2,k,W,I,aC,fr,N,R,w3,GC,G,c7,dy,q]:=h;let#[ah,aq]:=W.ins;let#[eR,hn]:=N.ins;let#[c,lz,jH]:=w3;let pk:=R.len;show#[_,(a3 (dg 2 P0.aC (fg (dE (aa 0)) eW kR.d5 zz ao.mono kR.bd .nil cd (aj (ck eN (aa 1) bt) ay)))
  (a9 (l6 lT rfl (I4 (ck eN (aa 1) bt)) (ed 3 P0.aC)
   (a9 (gD (kV rH ur uu r6 (ck e4 (dE (aa 0)) (aa 3)) (aj (qW (aj (ck eN (aa 1) bt) (aj (ck eN (aa 1) bt) (aj (ck eN (aa 2) bt) (aj (c5 p3 (ck eN (aa 1) bt) (ck eN (aa 2) bt)) ay))))) ay))))))),4]
 ac_rfl
 obtain⟨r,h2⟩:∃r,rs[b.1.2]?=ja r:=#[_,ew jQ]
 let#[d,dc,_,hd]:=R.get h2;let dB:ds.getD b.1.2 Dt=d:=A5 dc;show#[1,x,C,ah,_,1,k _ _ aq,M.cl,M.nn,2,n,eR,1,k _ _ hn,7,y,_,3,cH.of (k _ _ lz),2,n,bb,bh,6,_,1,N.same k,jQ,(by have:=gX rs;lia),(jV (by unfold bw;rw[ea,h2];rfl)),4];show#[1,y,_,3,cH.of (k _ _ lz),2,c,2,4];show#[#[_,cH.of (k _ _ jH)],4];let SE:nA p d=[.str (v8 p ds b.1.2),.str (v9 p ds b.1.2),.int (sm ds b.1.2),.int (z9 ds b.1.2)]:=by unfold nA v8 v9 sm z9;rw[dB]
 rw[SE]at hd;refine È (K:=K) (a:=c) (xs:=b.2.map λn:Nat=>V.int n) (aty bS x y r ls p ds b bE)
  #[jp,2,k,by rwa[List.take_zero,akh]] (λj U el _⟨_,_,h,_⟩=>cH.of (h _ _ jH)) ?_ ?_
 .rintro j z U el eo ⟨md,rfl,m,L⟩;rw[ea]at eo;let#[i,J,2]:=hN.mp eo;let hi:=c7 i (eX J);obtain⟨T,es⟩:∃T,bE[i]?=ja T:=#[_,ew hi]
  let D:i∉b.2.take j:=λz=>by
   let bJ:=(gM.mp J).1;let aP:=Qi j b.2;rw[JP bJ]at aP;rw[<-aP,Bg]at G;let cz:b.2[j]=i:=by rw[ew bJ]at J;show-gN J
   exact G.2.2 i z i (by rw[cz];show-.head _) rfl
  let ga:(pj (stepK p ds b.1) (b.2.take j) bE)[i]?=ja T:=by rw[Df,es];simp[D]
  let ln:=jz L;obtain⟨l,O⟩:∃l,ls[i]?=ja l:=#[_,ew (by rw[N6]at ln;lia)]
  let#[aFu,u,bB,Y,di]:=b9.get L O;rw[ga]at u;cases u;let X:=cH.of (K:=K) (m _ _ lz);let B:=cH.of (K:=K) (m _ _ hd);let eC:=di.len;rw[bQ]at eC;let fs:=dy T (eX es);let ez:(bw bB).Z<sizeLine:=e8 (by rw[gX];lia);show#[1,x,C,ah,_,1,m _ _ aq,M.cl,M.ns,7,st,_,3,aM.of (m _ _ W.steps),(show al.hZ (bw ls) (i:Int)=ja (.ref l)from jV (by unfold bw;rw[ea,O];rfl)),.inl #[2,_,aM.of Y],4];show#[1,y,_,3,X,7,y,_,3,X,7,r,_,3,B,7,y,_,3,X,7,r,_,3,B,2,3,sz_,λt eT=>?_];let e:=b7 (o:=.tup [V.int b.1.1,V.int b.1.2,V.str (v9 p ds b.1.2),V.int (b.1.1+sm ds b.1.2)]) eT;let mC:=e _ _ Y;show#[l,3,mC,ez,1,4,4]
  .exact gE (fr l (eX O)) (m.trans e)
  let bc:b.2.take (j+1)=b.2.take j++[i]:=by rw[Bj,J];rfl
  rw[bc,ahp _ D es];show-Â ?_ (λl8 sr nl h=>?_) L aC O
  .show#[bB++[t],by rw[aN];unfold bw;rw[fP];rfl,4];rw[fP];show-Paired.snoc ?_ ((di.same e).upd mC (by intro d z;cases z));show upd _ l _ t=ja (.tup (H8 (stepK p ds b.1)));rw[aJ (cI Y eT).symm,aN];rfl
  let#[Z,ai,ak]:=h;show#[Z,by rw[aJ nl];show-e _ _ ai,(ak.same e).upd mC (by intro d z;cases z)]
 rintro U el ⟨md,rfl,m,L⟩;show-q el m ?_;rw[bQ,ui]at L;show-L
abbrev Kg:Stmt:=gT (top 34) 3
def apc:cp dv dv (bW Kg):=({})
def anw{f:Addr}(F:b1 K "goal" "Walk.goal" Kg f fd)(a:rb K C):-aA a6 1 f fd dv (Ţ C):=by
 show-F.ok apc (λ_ A _ s H vs Q E l h=>?_);let#[x,n,g,st,o,p,m,k,y,2,W,d,q]:=h;let#[b,c]:=W.ins;show#[_,(a9 (ct (ck e4 (dE (aa 0)) (aa 1)))),4]
 ac_rfl
 show#[1,x,C,b,_,1,c,a.cl,a.i2,7,g,_,3,aM.of W.goals,jV (by rw[ea,d];rfl),q]
def rr(go:bg):List al.V:=go.map λn:Nat=>V.int (n:Int)
inductive η(hs:ba)(kvs:gq)(cC:bY)(bE:hu)(T:Int)(k:Nat)(kj:Int)(r:Nat)(go:bg):Prop where
 |nil(_:go=[])
 |one(ss:List Step)(s:Step)(y:Str)(_:go=[k])(_:bE[k]?=ja (ss++[s]))(_:cC[k]?=ja y)(_:s.pW∈hs.map S)(_:y∈hs.map S)(_:s.pW≠y)(_:dV kvs (h7 s.pW y)=ja (.int (r:Int)))(_:s.kj=kj)(_:kj<=T)
def BP(r:Nat)(l:Addr)(go:bg):List (bU×al.V):=go.map λ_=>(lg (r:Int),.ref l)
end
inductive aa6(K:aI)(C CW aD:Addr)(vs:aL)(H:af)(Q:aO)(fE:bF):Prop where
 |mk(x n g st gl y fj t bb bh:Addr)(cC:bY)(ls:b5)(bE:hu)(hs:ba)(ys:aL)(kvs:gq)(go:bg)(k:Nat)(kj:Int)(r:Nat)(T:Int)(_:vs=[.ref x,.ref gl,.ref y,.int T])(_:WalkAt C H x n g st cC ls bE)(_:aM K H gl (rr go))(_:oq CW aD H y fj t bb bh (dK hs) ys kvs)(_:Good hs)(_:η hs kvs cC bE T k kj r go)(_:∀(p l c:Addr)(H':af),H p=jp->av H H'->H' p=ja (.cO (BP r l go))->(go≠[]->H' l=ja (.lst [.ref c])/\H' c=ja (.tup [.int kj,.int (k:Int)]))->Q (.ref p) H')
section
variable{P:cx}{w:b0}{K:aI}{mg:b6}{base:Heap}
abbrev NG:Stmt:=top 42
def FH:cp ["walk","going","ways","turn","queues","number","came","road"] EX (bW NG):=({})
inductive atz(x gl y p:Addr)(T:Int)(kj:Int)(k r:Nat)(go:bg)(H:af)(i:Nat)(U:al.St)(cn:af):Prop where
 |mk(l c:Addr)(v1 v2 md:lh)(_:U=[ja (.ref x),ja (.ref gl),ja (.ref y),ja (.int T),ja (.ref p),v1,v2,md])(_:av H cn)(_:cn p=ja (.cO (BP r l (go.take i))))(_:i≠0->cn l=ja (.lst [.ref c])/\cn c=ja (.tup [.int kj,.int (k:Int)]))
def aqN{f:Addr}(F:b1 K "queues_at" "queues_at" NG f fd)(c3:rb K C)(rK:tS K CW)(lq:cR K C "last_turn" "Walk.last_turn" Aw dv f1 cg)(y6:-aA a6 1 f1 cg dv (IQ C))(n0:cR K C "last_house" "Walk.last_house" Ed dv f2 dY)(Gb:-aA a6 1 f2 dY dv (OG C))(zE:cR K C "goal" "Walk.goal" Kg dv cV iW)(X:-aA a6 1 cV iW dv (Ţ C))(zA:cR K CW "way" "Ways.way" NM gh f4 uR)(R:-aA (dn P w) 3 f4 uR gh (aa4 CW aD fQ)):
  -aA a6 4 f fd EX (aa6 K C CW aD):=by
 let g6:=c3.cl;let iR:=rK.cl;show-F.ok FH (λ_ A _ s H vs Q E B h=>?_);let#[x,n,g,st,gl,y,fj,t,bb,bh,cC,ls,bE,hs,ys,kvs,go,k,kj,r,T,2,W,Mo,td,G,o,q]:=h;let#[O,Y]:=W.ins;let#[bZ,cc]:=td.ins;show#[_,(a3 (dg 4 FH.aC Zi)
  (a3 (l6 lT rfl (hF (aa 1)) (ed 5 FH.aC)
   (a3 (dg 6 FH.aC (fg (aa 0) g6 lq.d5 y6 B.mono lq.bd .nil cd (aj (aa 5) ay)))
  (a9 (eu (gs q8 (aa 6) (aa 3) (e9 _)) (a3 (dg 7 FH.aC (fg (aa 2) iR zA.d5 R B.mono zA.bd .nil J2 (aj (fg (aa 0) g6 n0.d5 Gb B.mono n0.bd .nil cd (aj (aa 5) ay)) (aj (fg (aa 0) g6 zE.d5 X B.mono zE.bd .nil cd (aj (aa 5) ay)) ay))))
  (a9 (eu (gs Ov (aa 7) kn (e9 _)) (a9 (gD (kV rH ur uu r6 (ala (aa 4) (aa 7) (gc ay) #[2,2,2,2]) (aj (qW (aj (aa 6) (aj (aa 5) ay))) ay)))) eH))) eH))))
  (a9 (ct (aa 4))))),4]
 ac_rfl
 refineλp aw=>?_
 let s0:av H (upd H p (.cO [])):=b7 aw;show#[1,gl,2,#[_,s0.seq Mo],4];refine tC (xs:=rr go) (atz x gl y p T kj k r go H)
  #[x,x,jp,jp,jp,2,s0,aN,λh=>bk rfl h] (λi U D _⟨_,_,_,_,_,_,h,_,_⟩=>h.seq Mo) ?_ ?_
 .rintro i z U D eo ⟨l,c,v1,v2,md,rfl,d,a,_⟩;rcases o with rfl|⟨ss,s1,mT,rfl,aG,cz,e',i',lY,nd,rfl,hd⟩
  .cases eo
  cases i with
  |succ i=>cases eo
  |zero=>
  cases eo;let J:=W.same d;show#[1,x,O,1,d _ _ Y,7,x,n,g,st,cC,ls,bE,k,ss,s1,2,J,aG,4];show#[5,3,1,4];show-ey (cQ hd) ?_;show#[1,y,bZ,1,d _ _ cc,7,x,O,1,d _ _ Y,7,x,n,g,st,cC,ls,bE,k,ss,s1,2,J,aG,1,x,O,1,d _ _ Y,7,x,n,g,st,cC,ls,bE,k,mT,2,J,cz,4];show#[y,fj,t,bb,bh,hs,_,kvs,s1.pW,mT,2,td.same d,G,Ea G e',Ea G i',λ_ ag s2=>?_,λz=>bk (OE e' i' lY) (by rw[z];decide)];rw[nd];show#[1,7,ey qv ?_];let Ag:=d.trans s2;let a:D p=ja (.cO []):=a;show#[1,p,2,.inl #[_,.inl (s2 _ _ a)],1,ei _,λb e=>?_];let s3:=b7 (o:=.lst []) e;let L:=Ag.trans s3;let M:=s3 _ _ (s2 _ _ a);let I:upd ag b (.lst []) b=ja (.lst []):=aN;let ayr:=gQ Ag e;generalize upd ag b (.lst [])=u at s3 L M I⊢;show#[[],lg (r:Int),2,M,8,λv aT=>(nomatch aT),λ_=>?_];let np:b≠p:=λz=>by rw[z,M]at I;cases I
  let N:av H (upd u p (.cO (gy [] (lg (r:Int)) (.ref b)))):=gE aw L;let j:upd u p (.cO (gy [] (lg (r:Int)) (.ref b))) b=ja (.lst []):=by rwa[aJ np]
  let m:upd u p (.cO (gy [] (lg (r:Int)) (.ref b))) p=ja (.cO [(lg (r:Int),.ref b)]):=aN;generalize upd u p (.cO (gy [] (lg (r:Int)) (.ref b)))=c9 at N j m⊢;show#[.inl #[2,_,aM.of j],5,sz_,λc iq=>?_];let b4:=b7 (o:=.tup [V.int s1.kj,V.int (k:Int)]) iq;show#[b,3,b4 _ _ j,(by show 0<sizeLine;decide),4];let mK:c≠b:=dG (f5 j iq);show#[b,c,6,1,gE ayr (N.trans b4),by rw[aJ (dG np)];show-b4 _ _ m,λ_=>#[aN,by rw[aJ mK];show-aN]]
 rintro U D ⟨l,c,v1,v2,md,rfl,d,a,Z⟩;unfold rr at a Z;rw[bQ]at a Z;rw[ui]at a;show#[1,q p l c D aw d a λh=>Z λz=>h (ahV z)]
end
def anx{K:aI}{F:eG}{l:TE}{rest:al.St}{H:af}{Q:aO}{ds:List aL}(O:∀R:ff->af->Prop,(∀p c k,H p=jp->av H c->c p=ja (.lst (bw k))->h5 c k ds->R (j9 K p) c)->F U H R)(M:hG cs U=jp::jp::rest)(G:ds.Z<sizeLine)(f:Nat->al.V)(j:∀d∈ds,∃u v,d=[u,v])(w:∀(i:Nat)(u v:al.V)(a:af)(R:aO),ds[i]?=ja [u,v]->av H a->(∀n,av a n->R (f i) n)->l (ja u::ja v::rest) a R)(L:∀(D:Addr)(H':af),H D=jp->H' D=ja (.lst ((fk ds.Z).map f))->av H H'->Q (.ref D) H'):jf F cs (vU K 2 (p9 (hR 0) (p9 (hR 1) yo))) oE l U H Q:=by
 show-O _ λp c k Y h I B D a8=>?_;let T:=B.len;show#[λi m q s H'=>m=ds.Z-i/\i<=ds.Z/\q=(fk i).map f/\(∃o1 o2,s=o1::o2::rest)/\av c H'/\H' D=ja (.lst q),#[ds.Z,by simp,ei _,2,#[jp,jp,by rw[M]],λb o e=>?_,aN],4]
 .rwa[aJ (cI e a8)]
 rintro i m q s H' ⟨rfl,X,rfl,⟨o1,o2,rfl⟩,g,r⟩;let#[N,E,C]:=oj (aM.of (K:=K) I) H' g;show#[r,qq (by rw[bQ,s6];lia) G,4];rw[gX]at N E C;by_cases J:i<ds.Z
 .refine .inr #[E i jQ,λx a y=>?_];let#[2,A]:=C i x a jQ y;unfold bw at A;rw[ea]at A;let#[t,P,2]:=hN.mp A;let#[d,dc,V]:=b9.get B P;let V:=g _ _ V;let#[u,v,2]:=j d (eX dc);show#[t,1,cH.of V,2,_,1,3,4];show l (ja u::ja v::rest) a _;show-w i u v a _ dc (h.trans g) λn z=>#[z _ _ r,ds.Z-(i+1),9,2,J,4,#[_,1],λb Z e=>?_,aN]
  .rw[Bh,fP];rfl
  rw[aJ (cI e a8)];show-z _ _ (g _ _ e)
 let e:i=ds.Z:=by lia
 subst e;rw[T]at N;show-.inl #[N,L D H' (gQ h a8) r (h.trans g)]
def EL{i:Nat}{U:al.St}{Q:al.St->af->Prop}(h:Q (U.set i (ja v)) H):hR i v U H Q:=(h)
def iZ.upd{H:af}{b:ib×List Nat}(h:iZ H a b)(g:H l=ja (.lst xs)):iZ (al.upd H l (.lst e)) a b:=by let#[c,d,f]:=h;show#[c,by rw[aJ λz=>by rw[z,g]at d;cases d];show-d,by rw[aJ λz=>by rw[z,g]at f;cases f];show-f]
def anb(v:al.V){m:Int}(h:1<=m):rh [v] jp (ja m)=[v]:=by
 obtain⟨k,rfl⟩:∃k:Nat,m=((k+1:Nat):Int):=#[m.toNat - 1,9]
 let a:fe.dS [v].length [v].length (ja ((k+1:Nat):Int))=min (k+1) [v].Z:=fe.NC _ _ (k+1);unfold rh;rw[a,show min (k+1) [v].Z=1 from aiK (aiE 1 k)];rfl
def aa7(T:Int)(r:Nat)(go:bg):List (ib×List Nat):=go.map λk=>((T,r),[k])
inductive RQ(K:aI)(C CW aD:Addr)(vs:aL)(H:af)(Q:aO)(fE:bF):Prop where
 |mk(x n g st gl y t bb bh:Addr)(cC:bY)(ls rs:b5)(bE:hu)(hs:ba)(ds:cY)(kvs:gq)(go:bg)(k:Nat)(kj:Int)(r:Nat)(T:Int)(_:vs=[.ref n,.ref x,.ref gl,.ref y,.int T])(_:WalkAt C H x n g st cC ls bE)(_:aM K H gl (rr go))(_:oq CW aD H y n t bb bh (dK hs) (bw rs) kvs)(_:gO H hs rs ds)(_:Good hs)(_:η hs kvs cC bE T k kj r go)(_:r<ds.Z)(_:∀(aX:Addr)(H':af)(as:b5),H aX=jp->av H H'->H' aX=ja (.lst (bw as))->b9 (iZ H') as (aa7 T r go)->Q (.ref aX) H')
section
variable{P:cx}{w:b0}{K:aI}{mg:b6}{base:Heap}
abbrev HT:Stmt:=top 43
def BQ:cp ["net","walk","going","ways","turn","queues","bags","road","room","chosen"] yD (bW HT):=({})
inductive atA(n x gl y p aX bz:Addr)(T:Int)(r:Nat)(go:bg)(H1:af)(j:Nat)(U:al.St)(cn:af):Prop where
 |mk(as:b5)(v1 v2 md:lh)(_:U=[ja (.ref n),ja (.ref x),ja (.ref gl),ja (.ref y),ja (.int T),ja (.ref p),ja (.ref aX),v1,v2,md])(_:av H1 cn)(_:cn bz=ja (.lst ((go.map λ_=>(r:Int)).map V.int)))(_:cn aX=ja (.lst (bw as)))(_:b9 (iZ cn) as (aa7 T r (go.take j)))
def aqO{f:Addr}(F:b1 K "bags_at" "bags_at" HT f fd)(B:fc mg)(eW:ef K aD)(CE:bO K mg "queues_at" NG EX f1 cg)(ahj:-aA a6 4 f1 cg EX (aa6 K C CW aD))(kR:cR K aD "road" "Net.road" xM dv f2 dY)(zz:-aA a6 1 f2 dY dv (PD aD)):
  -aA a6 5 f fd yD (RQ K C CW aD):=by
 show-F.ok BQ (λ_ A _ s H vs Q E ao h=>?_);let#[x,n,g,st,gl,y,t,bb,bh,cC,ls,rs,bE,hs,ds,kvs,go,k,kj,r,T,2,W,Mo,td,R,G,o,Xg,q]:=h;let#[eR,hn]:=td.fo.ins;show#[_,(a3 (dg 5 BQ.aC (dp ahj CE ao.mono cd (aj (aa 1) (aj (aa 2) (aj (aa 3) (aj (aa 4) ay))))))
  (a3 (dg 6 BQ.aC (gc ay))
  (a3 (l6 lT rfl (hF (d4 (agd rfl) B.sorted N5 (aj (aa 5) ay))) (ed 7 BQ.aC)
   (a3 (dg 8 BQ.aC (ck eN (fg (aa 0) eW kR.d5 zz ao.mono kR.bd .nil cd (aj (aa 7) ay)) bt))
  (a3 (z3 (i:=9) BQ.aC rfl rfl rfl (N':=["came","number"]) (cs:=[jp,jp]) rfl (hF (z2 Pf (d4 X4 B.sorted N5 (aj (xA (kW ao) (aa 5) (aa 7) (λ_ _=>rfl)) ay)) Ab (Ac (aa 8)))) rfl qL rfl qL (hv (λp aw=>bk aw (ee))) rfl
   (.own (.own .nil))
   (λC s3 aK bP de=>#[(IB (K:=K) (n:=2) rfl rfl (ng (ed 0 (by show(["came","number"]:bY).Nodup;decide+kernel)) (ng (ed 1 (by show(["came","number"]:bY).Nodup;decide+kernel)) xx))),iQ,(aa 1)]))
  (a9 (gD (kV rH ur uu r6 (aa 6) (aj (qW (aj (aa 4) (aj (aa 7) (aj (iP W9 B.tuple Du (aj (d4 X4 B.sorted N5 (aj (aa 9) ay)) ay)) ay)))) ay)))))))
  (a9 (ct (aa 6)))))),4]
 ac_rfl
 show#[5,5,x,n,g,st,gl,y,n,t,bb,bh,cC,ls,bE,hs,_,kvs,go,k,kj,r,T,2,W,Mo,td,G,o,λp l c H1 np s1 Z bp=>?_];show#[ei _,λaX zR=>?_];let s2:=b7 (o:=.lst []) zR;let T7:upd H1 aX (.lst []) aX=ja (.lst []):=aN;generalize upd H1 aX (.lst [])=ag at s2 T7⊢;let e_:(BP r l go).map (·.1)=(go.map λ_=>(r:Int)).map lg:=by unfold BP;rw[hp,hp];rfl
 let dX:(go.map λ_=>(r:Int)).Z<2:=by
  rw[bQ];rcases o with rfl|⟨_,_,_,rfl,_⟩
  .decide
  show-ý 1
 show#[1,p,BP r l go,go.map λ_=>(r:Int),2,s2 _ _ Z,e_,dX,λb se=>#[b,2,#[_,aM.of aN],4]];let s3:=b7 (o:=.lst ((go.map λ_=>(r:Int)).map V.int)) se;let M:upd ag b (.lst ((go.map λ_=>(r:Int)).map V.int)) b=ja (.lst ((go.map λ_=>(r:Int)).map V.int)):=aN;let m:=s3 _ _ T7;let azb:b≠aX:=dG (f5 T7 se);generalize upd ag b (.lst ((go.map λ_=>(r:Int)).map V.int))=aK at s3 M m⊢;refine tC (xs:=(go.map λ_=>(r:Int)).map V.int) (atA n x gl y p aX b T r go H1)
  #[[],jp,jp,jp,2,s2.trans s3,M,m,.nil] (λi U cn _⟨_,_,_,_,_,_,h,_,_⟩=>aM.of h) ?_ ?_
 .rintro j z U cn eo ⟨as,v1,v2,md,rfl,a,O,T9,mq⟩;rcases o with rfl|⟨ss,s0,afA,rfl,_⟩
  .cases eo
  cases j with
  |succ j=>cases eo
  |zero=>
  cases eo;cases mq;let#[awy,ar]:=bp nofun
  let Xk:=s1.trans a;let akz:=R.same Xk;let aFq:=R.len;obtain⟨so,X⟩:∃so,rs[r]?=ja so:=#[_,ew jQ]
  let#[d,dc,vu,hd]:=akz.get X;show#[1,n,eR,1,Xk _ _ hn,7,n,bb,bh,6,_,1,td.fo.same Xk,jQ,(by have:=gX rs;lia),(jV (by unfold bw;rw[ea,X];rfl)),so,_,3,cH.of hd,2,4];let e2:=vu.m.1;let I:=j4.k (k:=lg (r:Int)) (a _ _ Z);rw[show dV (BP r l [k]) (lg (r:Int):bU)=ja (.ref l)from o3 rfl]at I;show-EL ?_;dsimp only;show-Al ?_;refine anx (K:=K) (rest:=[]) (ds:=[[V.int kj,V.int (k:Int)]]) (λux TK=>?_) rfl (e8 (by show 1<=1000;decide)) (λ_=>V.int (k:Int)) (λd' w6=>#[6,d2.mp w6]) (λi u v bo ux kS c2 dm=>?_) (λD bo h6 a8 c2=>?_)
  .show#[5,p,1,I,l,[.ref c],2,aM.of (a _ _ awy),ý 1,λdX zU=>?_];let b4:=b7 (o:=.lst [V.ref c]) zU;show#[5,dX,1,aM.of aN,λdr p5=>#[dr,2,#[_,aM.of aN],4]];rw[anb _ e2];show-TK dr _ [c] (gQ b4 p5) (b4.trans (b7 p5)) aN (.cons (b7 p5 _ _ (b4 _ _ (a _ _ ar))) .nil)
  .cases i with
   |succ i=>cases kS
   |zero=>
    cases kS;show#[1,dm bo (av.refl _)]
  let a8:bo D=ja (.lst [V.int (k:Int)]):=a8;let T8:=c2 _ _ T9;show#[1,.inl #[2,_,aM.of T8],5,1,D,1,aM.of a8,ý 1,λou J=>#[ou,1,.inl #[aM.of aN,λc mK=>#[sz_,λY MZ=>#[aX,[],1,2,b7 MZ _ _ (b7 mK _ _ (b7 J _ _ T8)),qc,4]]]]];let fC:=b7 (o:=.lst [V.int (k:Int)]) J;generalize upd bo ou (.lst [V.int (k:Int)])=g_ at fC mK MZ⊢;let kH:=b7 (o:=.tup [V.int (k:Int)]) mK;let N:upd g_ c (.tup [V.int (k:Int)]) c=ja (.tup [V.int (k:Int)]):=aN;generalize upd g_ c (.tup [V.int (k:Int)])=kJ at kH N MZ⊢;let h8:=b7 (o:=.tup [V.int T,V.int (r:Int),V.ref c]) MZ;let L:upd kJ Y (.tup [V.int T,V.int (r:Int),V.ref c]) Y=ja (.tup [V.int T,V.int (r:Int),V.ref c]):=aN;let e:=h8 _ _ N;generalize upd kJ Y (.tup [V.int T,V.int (r:Int),V.ref c])=g0 at h8 L e⊢;let Xp:=fC.trans (kH.trans h8);let av7:=Xp _ _ T8;let nb:iZ g0 Y ((T,r),[k]):=#[c,L,e]
  show#[[Y],6,1,gE zR (a.trans (c2.trans Xp)),by rw[aJ azb];show-Xp _ _ (c2 _ _ O),aN,.cons (nb.upd av7) .nil]
 rintro U cn ⟨as,v1,v2,md,rfl,a,O,T9,mq⟩;rw[bQ,bQ,ui]at mq;show#[1,q aX cn as (gQ s1 zR) (s1.trans a) T9 mq]
end
end dP
namespace bX
open PySem PySem.Spec PyProof.Rows al
def aqP(K:aI)(f:tc)(R:Addr)(d:fJ):fJ:=λD U H=>f D (λg b k H'=>∃C c,b=.ref C/\k=ja c/\o' K C R=jx/\∀a,H' a=jp->d D g (upd H' a (SR a C c))) U H
def anc{X:bA}{st m9:Stmt}{tO:List Stmt}{Q:tc}(L:X.stack=X.env::X.outer)(Ul:X.env.frame=ja X.env.locals)(ae:ě X st Q)(hg:jR X x)(hm:X.mg x=ja (.ref R))(cW:o' X.K R R=jx)(UY:∀g,ie (xy X g) (m9::tO) bB)(jr:(x==("__debug__":Str))=jA:=by decide):i7 X (.Try [st] [.ExceptHandler (ja (.Name x np)) jp (m9::tO) adf] [] [] pos) (aqP X.K Q R bB):=by
 intro a s U H D I h;show-az4 (YC (gB (ae a s U H D _ I h) (λf K q=>?_) λe K q=>?_))
 .cases f with
  |next=>show-AD (AD q)
  |ret v=>show-q
  |brk=>show-q
  |cont=>show-q
 let#[rm,cn,sc,g,cls,a0,H',B,ek,2,yg,T,lk,C,y,2,2,kA,k]:=q;let#[o0,V,i]:=lk y rfl;let zo:X.A.frames=ja (X.env::X.outer):=by rw[<-L];show-I.ok.frames
 let M:=T.ez;rw[L]at M;show-alX zo Ul M λcT Uh Ip j=>alY Uh λY G Yh E=>?_;let J:=G;rw[<-L]at J;let w:=T.move J (Ip.trans Yh);let lP:Inv X a rm H' {K with heap:=Y}:=yg.Lm (s':={K with heap:=Y}) (ch:=[]) w.os w.un w.bC w.bare (λb z=>bk z qv);let#[ob,qJ,UM]:=G.there;show-az7 (aub (vq (X:=xy X g) (bX.Inv.tO lP g) hg hm (ç lP.e1 kA cW qJ UM ?_) jr)) (by intro q;cases q);show-codeAny_handlers_suite (alZ G λZ O Yi F=>?_);let P:=O;rw[<-L]at P;let m7:=w.move P Yi;let#[N,v6,o,p,t,_]:=O.first;let r:N.dict=ja y:=(((j.trans E).trans F).dict V o).trans i;let w':Z.get? g=ja #[.ref C,ja y,.fields v6,N.slots]:=by rw[o];let#[c,d,uM,bz]:=N;dsimp only at p t r;rw[p,t,r]
 let eD:=T.new;let ue:Inv X a rm (upd H' g (SR g C y)) {K with heap:=Z}:=lA.inv yg m7 (aof w');show-gB (UY g a _ _ _ _ (bX.Inv.tO ue g) (k g eD)) (λS5 h8 A=>?_) λ_ _ z=>i6 z;cases S5 with
 |next=>let#[n,l,m,q]:=A;show#[n,l,Inv.Io I.ok.hd m,q]
 |brk=>let#[n,l,m,q]:=A;show#[n,l,Inv.Io I.ok.hd m,q]
 |cont=>let#[n,l,m,q]:=A;show#[n,l,Inv.Io I.ok.hd m,q]
 |ret u=>let#[Yn,n,l,m,HD,q]:=A;show#[Yn,n,l,Inv.Io I.ok.hd m,HD,q]
section
variable{X:bA}{e o:Expr}{es:hO}{pos fS p:Pos}{k:Nat}{f C:Addr}{fd:nM}{ps:bY}{sp:fu}{cu:TE}{t:fR}{m x:Str}
def ane{pl:Sem Bool}(G:a' X.vn o cu)(c:ef X.K C)(hm:Meth X.K C m f)(F:aA X.prog X.w X.K X.mg X.base (iv X.prog X.w) k f fd ps sp)(i:gU k X.A)(L:Binds X.K fd ps [])(A:fI X.vn (e::es) t)(J:dh (e::es) X.env=(jA,eval e X.env)::dh es X.env:=by rfl)(fV:(hE pos (dh es X.env)).any (·.1)=jA:=by rfl)(z:eval (.Call (.Attribute o m fS) (e::es) [] pos) X.env=(do
   let w <-eval o X.env
   vC fS.atName
   let(f,first) <-tr [w] (zj w m pl)
   y1 pos f first (hE pos (dh (e::es) X.env)) (n3 pos (ot [] X.env))):=by rfl):
  ę X (.Call (.Attribute o m fS) (e::es) [] pos) (ń C m sp cu t):=by intro pins s U H Q E I h;show-Fd (pl:=pl) (xt (X:=X) (pins:=pins) (bT (G pins s U H _ (I.mQ _) h) λu M d=>?_)) z;let#[x,y,b,j,a,O,P,D,K,l,q]:=d;subst D;obtain rfl:u=c1 a:=j;let b:=b.pw;show-Hj b K c hm l ?_;show-BC (first:=[.ref a]) (h₀:=X.base) I.ok.mod.tF hm.fL (xt (X:=X) (pins:=pins) (bT (A pos pins M U y _ (b.mQ _) q) λus R d=>?_)) J fV;let#[vs,N,n,r,B]:=d;show#[n.pw.e1,4];show-amc (us:=.ref a::us) (vs:=.ref a::vs) F i L n.pw (.cons rfl r) ?_;let g:sp (V.ref a::(vs++[])) N Q E:=B;rwa[kK]at g
end
end bX
namespace dP
open PySem al bX cE
def atB:Out->Bool
 |.ok _=>jx
 |.no _ _=>jA
def JF(a:gq)(b:ba)(ds:cY)(d:nY):Bool:=atB (kY a b ds d.2.2 13 d.1 [d.1] [])
inductive aa8(C aD:Addr)(vs:aL)(H:af)(Q:aO)(fE:bF):Prop where
 |mk(lt x n t bb bh:Addr)(hs:ba)(rs:b5)(ds:cY)(kvs:gq)(d:nY)(_:vs=[.ref lt,.ref x])(_:H lt=ja (.tup (l' d)))(_:oq C aD H x n t bb bh (dK hs) (bw rs) kvs)(_:Good hs)(_:gO H hs rs ds)(_:yS kvs ds.Z)(_:d.1∈hs.map S)(_:d.2.2∈hs.map S)(_:∀H',av H H'->Q (.aX (JF kvs hs ds d)) H')
section
variable{P:cx}{w:b0}{K:aI}{mg:b6}{base:Heap}
abbrev NB:Stmt:=top 41
def atC:cp Bo Bo (bW NB):=({})
def aqQ{f:Addr}(F:b1 K "has_route" "has_route" NB f fd)(T:ef K C)(a:o' K dR dR=jx)(Y:mg "NoWay"=ja (.ref dR))(r:cR K C "route" "Ways.route" HX gh f1 M)(y:-aA (iv P w) 3 f1 M gh (RA C aD fQ dR)):
  -aA a6 4 f fd Bo (aa8 C aD):=by
 show-F.ok atC (λJ A g s H vs Q E N h=>?_);let#[p,x,n,t,u,B,o,rs,ds,b,d,2,m,W,G,I,k,O,R,q]:=h;let#[c,V]:=W.ins;show#[_,(a3 (anc rfl rfl (akJ (ane (aa 1) T r.d5 y N.mono r.bd (aj (ck eN (aa 0) bt) (aj (ck eN (aa 0) bt) ay)))) rfl Y a (λL=>(a9 (ct nv))))
  (a9 (ct nv))),4]
 show#[1,x,c,1,V,7,p,_,3,cH.of m,7,p,_,3,cH.of m,2,x,n,t,u,B,o,rs,ds,b,d.1,d.2.2,2,W,G,I,k,λ_ _=>?_,λU=>U.elim (λz=>bk O z) λz=>bk R z];unfold JF at q;cases e:kY b o ds d.2.2 13 d.1 [d.1] []with
 |ok bc=>
  rw[e]at q;intro l H' X D i;show-q H' D
 |no rg sn=>
  rw[e]at q;intro c l H' aC X zS j Gs i;show#[dR,c,2,2,a,λL Z=>?_];show-q _ (j.trans (b7 Z))
end
theorem apd{K:aI}{n:eG}{xs:aL}{rest:al.St}{m:iz}{l:TE}{Q:aO}{H1:af}(A:∀R:ff->af->Prop,R (yk K a) H1->n U H R)(w:hG cs U=jp::jp::rest)(o:aM K H1 a xs)(r:xs.Z<sizeLine)(p:Nat->Bool)(f:Nat->al.V)(d:∀(i:Nat)(x:al.V)(b:af)(R:Bool->af->Prop),xs[i]?=ja x->av H1 b->(∀c,av b c->R (p i) c)->m (ja (.int i)::ja x::rest) b R)(g:∀(i:Nat)(x:al.V)(b:af)(R:aO),xs[i]?=ja x->p i=jx->av H1 b->(∀c,av b c->R (f i) c)->l (ja (.int i)::ja x::rest) b R)(k:∀(D:Addr)(H':af),H1 D=jp->H' D=ja (.lst (((fk xs.Z).filter p).map f))->av H1 H'->Q (.ref D) H'):
  jf n cs (vU K 2 (p9 (hR 0) (p9 (hR 1) yo))) m l U H Q:=A _ (é w o r (λi _=>p i) (λi _=>f i) d g λD H' y a8 t=>k D H' y (by
   let e:((xs.zipIdx.filter λz=>p z.2).map λz=>f z.2)=((fk xs.Z).filter p).map f:=by rw[aic,<-aii,Î,hp];rfl
   rw[<-e];show-a8) t)
def Ay{H:af}{b:b5}(h:b9 (gP H) b bE):∀l∈b,∃a,H l=ja (.lst (bw a)):=(λl d=>by let#[i,f]:=qk d;let#[g,_,a,c,_]:=b9.get h f;show#[a,c])
def ape{st:Addr}{a:b5}(W:p_ C H x n g st i a)(e:b9 (gP H) a bE)(c:∀l∈a,l≠st/\l≠g):p_ C (mask H a) x n g st i a:=by let#[d,b]:=W.ins;show#[#[d,iS b λz=>?_],iS W.goals λz=>(c g z).2 rfl,iS W.steps λz=>(c st z).1 rfl];let#[f,h]:=Ay e x z;rw[b]at h;cases h
def O1{b:ib×List Nat}(h:iZ H a b)(e:b9 (gP H) ls bE):iZ (mask H ls) a b:=by
 let#[c,d,f]:=h;show#[c,iS d λz=>?_,iS f λz=>?_]
 .let#[g,h]:=Ay e a z;rw[d]at h;cases h
 let#[g,h]:=Ay e c z;rw[f]at h;cases h
def aki{H:af}{a:b5}(c:av H H')(d:∀l∈a,H l=jp):av H (mask H' a):=(λb o e=>iS (c _ _ e) λz=>by rw[d b z]at e;cases e)
def alu{H:af}{a:b5}{p:Addr}(h:b9 (gP H) a bE)(g:H p=ja (.lst xs))(l:p∉a):b9 (gP (upd H p (.lst i))) a bE:=by
 let all:∀{a:b5}{bE:hu},b9 (gP H) a bE->p∉a->b9 (gP (upd H p (.lst i))) a bE:=λ{a bE}q=>by
  induction q with
  |nil=>exactλ_=>.nil
  |cons r t e=>
   intro b;let#[k,c,f]:=r;show-.cons #[k,by rw[aJ λz=>b (by rw[z];show-.head _)];show-c,f.upd g (by intro d z;cases z)] (e λz=>b (.tail _ z))
 show-all h l
def p_.upd{H:af}{st:Addr}(W:p_ C H x n g st e ls)(f:H p=ja (.lst xs))(c:p≠g)(d:p≠st):p_ C (al.upd H p (.lst h)) x n g st e ls:=by let#[b,a]:=W.ins;show#[#[b,by rw[aJ λz=>by rw[z,f]at a;cases a];show-a],by rw[aJ (dG c)];show-W.goals,by rw[aJ (dG d)];show-W.steps]
structure A0(C:Addr)(H cn:af)(x n g st gl pl:Addr)(cC:bY)(ls as:b5)(bE:hu)(go:bg)(bs:uA):Prop where
 ax:av H cn
 xX:p_ C cn x n g st cC ls
 each:b9 (gP cn) ls bE
 wZ:cn gl=ja (.lst (rr go))
 i2:gl∉ls
 Wf:gl≠pl
 Dk:cn pl=ja (.lst (bw as))
 Lk:b9 (iZ cn) as bs
theorem A0.same{st:Addr}{a:uA}(h:A0 C H i x n g st gl pl e ls as bE go a)(s:av i j):A0 C H j x n g st gl pl e ls as bE go a:=
 #[h.ax.trans s,h.xX.same s,HK h.each s,s _ _ h.wZ,h.i2,h.Wf,s _ _ h.Dk,b9.ju h.Lk λ_ _ b=>b.same s]
inductive ru(hs:ba)(ds:cY)(kvs:gq)(r:Nat)(bN:mn):Prop where
 |nil(_:bN=[])
 |one(d:nY)(_:bN=[d])(_:d.1∈hs.map S)(_:d.2.2∈hs.map S)(_:d.1≠d.2.2)(_:dV kvs (h7 d.1 d.2.2)=ja (.int (r:Int)))(_:v9 hs ds r=d.2.2)(_:0<=d.2.1)(_:v8 hs ds r=d.1)
def yx(r:Nat)(a:mn):List (ib×List Nat):=a.map λd=>((d.2.1,r),[0])
theorem ru.avH{b:ba}{a:gq}{r:Nat}{c:mn}(o:ru b ds a r c):∀d∈c,d.1∈b.map S/\d.2.2∈b.map S/\JF a b ds d=jx:=λd f=>by
 rcases o with rfl|⟨q,rfl,ai,ak,h,i,j,_,_⟩
 .cases f
 obtain rfl:=d2.mp f;show#[ai,ak,4];let w:sy a d.1 d.2.2=ja r:=by unfold sy;rw[i];rfl
 let e:px b ds r=d.2.2:=j;unfold JF kY;rw[bL h,w];dsimp only;rw[e,bL (λz=>h (d2.mp z).symm)];unfold kY;rw[b2 rfl];rfl
inductive Q3(C CW aD:Addr)(vs:aL)(H:af)(Q:aO)(fE:bF):Prop where
 |mk(n gx y t bb bh:Addr)(hs:ba)(rs vk:b5)(ds:cY)(kvs:gq)(bN:mn)(r:Nat)(_:vs=[.ref n,.ref gx,.ref y])(_:H gx=ja (.lst (bw vk)))(_:h5 H vk (bN.map l'))(_:oq CW aD H y n t bb bh (dK hs) (bw rs) kvs)(_:Good hs)(_:gO H hs rs ds)(_:yS kvs ds.Z)(_:ru hs ds kvs r bN)(_:r<ds.Z)(_:∀(l:Addr)(H':af)(as:b5),H l=jp->av H H'->H' l=ja (.lst (bw as))->b9 (iZ H') as (yx r bN)->Q (.ref l) H')
inductive ņ(r:Nat)(bN:mn)(m:Nat)(T:Int)(go:bg)(bE:hu)(bs:uA):Prop where
 |go(d:nY)(_:bN=[d])(_:m=1)(_:go=[0])(_:T=-1)(_:bE=bN.map mI)(_:bs=[])
 |done(_:go=[])(_:bs=yx r bN)
section
variable{P:cx}{w:b0}{K:aI}{mg:b6}{base:Heap}
abbrev Fx:Stmt:=top 44
abbrev atD:List Str:=["net","letters","ways","walk","going","plan","turn","bag"]
def x4:cp atD yE (bW Fx):=({})
def apf{f:Addr}(F:b1 K "run" "run" Fx f fd)(B:fc mg)(c3:rb K C)(r':mg "Walk"=ja (.ref C))(IK:nQ K C kl)(n7:mi K C "Walk.__init__" BO uj kl uS)(G8:-aA a6 2 kl uS uj (Kf C))(CF:bO K mg "has_route" NB Bo f1 cg)(ahk:-aA a6 4 f1 cg Bo (aa8 CW aD))(lq:cR K C "last_turn" "Walk.last_turn" Aw dv f2 dY)(y6:-aA a6 1 f2 dY dv (IQ C))(ve:bO K mg "bags_at" HT yD cV iW)(Za:-aA a6 5 cV iW yD (RQ K C CW aD))(n8:cR K C "send" "Walk.send" AZ um f4 uR)(G9:-aA a6 2 f4 uR um (JE C aD))(lr:cR K C "home_turn" "Walk.home_turn" Ax dv fU F6)(y7:-aA a6 2 fU F6 dv (I2 C)):
  -aA a6 6 f fd yE (Q3 C CW aD):=by
 let g6:=c3.cl;show-F.ok x4 (λ_ A _ s H vs Q E ao h=>?_);let#[n,gx,y,t,bb,bh,hs,rs,vk,ds,kvs,u,r,2,mD,vD,td,G,R,kb,O,Xg,q]:=h;show#[_,(a3 (dg 3 x4.aC (tI IK G8 ao.mono qF r' n7.bd .nil cd (aj (aa 0) (aj (aa 1) ay))))
  (a3 (z3 (i:=4) x4.aC rfl rfl rfl (N':=["number","letter","ways"]) (cs:=[jp,jp,ja 2]) rfl (OA rfl B.enumerate (aj (aa 1) ay)) rfl qL rfl qL (hv (c'.mpr #[2,(λp aw=>bk aw (ee))])) rfl
   (.own (.own (.mu rfl (.inl rfl) (.inl rfl) rfl .nil)))
   (λC s3 aK bP de=>#[(IB (K:=K) (n:=2) rfl rfl (ng (ed 0 (by show(["number","letter","ways"]:bY).Nodup;decide+kernel)) (ng (ed 1 (by show(["number","letter","ways"]:bY).Nodup;decide+kernel)) xx))),(DL (jE (dp ahk CF ao.mono cd (aj (aa 1) (aj (aa 2) ay))))),(aa 0)]))
  (a3 (dg 5 x4.aC (gc ay))
  (a3 (dg 6 x4.aC (AO Au bt))
  (a3 (Zd lT (akA (aa 4) (λ_=>rfl))
   (a3 (dg 6 x4.aC (d4 (aiY rfl) B.max aqC (aj (c5 p3 (aa 6) bt) (aj (d4 (ZP rfl) B.min aaq (aj (j0 (N':=Bp) (cs:=[jp,ja 3]) rfl (hF (aa 4)) rfl qL rfl qL (hv (c'.mpr #[2,(λp aw=>bk aw (ee))])) rfl
   (.own (.mu rfl (.inl rfl) (.inl rfl) rfl .nil))
   (λC s3 aK bP de=>#[(ed 0 (by show(Bp:bY).Nodup;decide+kernel)),iQ,(fg (aa 1) g6 lq.d5 y6 ao.mono lq.bd .nil cd (aj (aa 0) ay))])) ay)) ay))))
  (a3 (l6 lT rfl (hF (dp Za ve ao.mono cd (aj (aa 0) (aj (aa 3) (aj (aa 4) (aj (aa 2) (aj (aa 6) ay))))))) (ed 7 x4.aC)
   (a3 (gD (fg (aa 3) g6 n8.d5 G9 ao.mono n8.bd .nil cd (aj (aa 7) ay)))
  (a9 (gD (kV rH ur uu r6 (aa 5) (aj (aa 7) ay))))))
  (a9 (z3 (i:=4) x4.aC rfl rfl rfl (N':=Bp) (cs:=[jp,ja 3]) rfl (hF (aa 4)) rfl qL rfl qL (hv (c'.mpr #[2,(λp aw=>bk aw (ee))])) rfl
   (.own (.mu rfl (.inl rfl) (.inl rfl) rfl .nil))
   (λC s3 aK bP de=>#[(ed 0 (by show(Bp:bY).Nodup;decide+kernel)),(DL (gs vy (fg (aa 1) g6 lr.d5 y7 ao.mono lr.bd .nil cd (aj (aa 0) ay)) kn (e9 _))),(aa 0)]))))))
  (a9 (ct (aa 5)))))))),4]
 let axw:vk.Z=u.Z:=by have:=vD.len;rwa [bQ]at this
 let dy:u.Z<=1:=by
  rcases O with rfl|⟨_,rfl,_⟩
  .exact ei 1
  show-cy 1
 obtain⟨cC,abZ⟩:∃cC,cC=u.map λd=>d.2.2:=#[1]
 let VI:=gX vk;show#[5,λx ah dq sd aC=>?_];let mk:∀{b:Addr}{v:hX},H b=ja v->upd (upd H ah (.own x)) x (.ins C ah []) b=ja v:=λ{b v}e=>by rwa[aJ (cI e dq),aJ (cI e sd)]
 show#[x,ah,n,gx,vk,u,2,aN,mk mD,vD.same (λb v e=>mk e),jQ,λH1 g st N cf W C2 aFk zS fr aEF=>#[2,4]];let s1:av H H1:=ZZ dq sd cf;let azT:∀{b:Addr},upd (upd H ah (.own x)) x (.ins C ah []) b=jp->H b=jp:=λ{b}e=>by
  cases aP:H b with
  |none=>rfl
  |some v=>rw[mk aP]at e;cases e
 let LW:∀l∈N,H l=jp:=λl au=>azT (fr l au).1;let avt:∀l∈N,l≠st/\l≠g:=λl au=>(fr l au).2;rw[<-abZ]at W;show-EL ?_;dsimp only;show-Al ?_;refine apd (K:=K) (a:=gx) (H1:=H1) (xs:=bw vk) (rest:=[ja (.ref y)]) (λux h=>#[1,gx,2,#[_,aM.of (s1 _ _ mD)],h]) rfl (aM.of (s1 _ _ mD)) (e8 jQ) (λ_=>jx) (λi=>.int (i:Int)) (λi v M ux ev D Z=>?_) (λi v M ux ev _ D Z=>#[1,Z M (av.refl _)]) (λCg M ax4 Gv D=>?_)
 .unfold bw at ev;rw[ea]at ev;let#[a,h2,2]:=hN.mp ev;let#[c,pR,w6]:=b9.get vD h2;rw[ea]at pR;let#[d,dc,2]:=hN.mp pR;let f6:=s1.trans D;let#[ai,ak,aV]:=O.avH d (eX dc);show#[5,a,y,n,t,bb,bh,hs,rs,ds,kvs,d,2,f6 _ _ w6,td.same f6,G,R.same f6,kb,ai,ak,λaK s3=>#[1,4]];rw[aV];show-Z aK s3
 rw[VI,axw,JR.mpr λ_ _=>rfl]at Gv;let Gv:M Cg=ja (.lst (rr (fk u.Z))):=Gv;show#[ei _,λpl vo=>?_];let s3:=b7 (o:=.lst []) vo;let ade:upd M pl (.lst []) pl=ja (.lst []):=aN;let KA:=W.same D;let aea:=gQ (s1.trans D) vo;let aym:pl≠g:=dG (f5 KA.goals vo);let ayo:pl≠st:=dG (f5 KA.steps vo);let aeb:pl∉N:=λz=>by let#[bB,h]:=Ay KA.each pl z;rw[vo]at h;cases h
 let ax5:Cg∉N:=λz=>by let#[bB,h]:=Ay W.each Cg z;rw[ax4]at h;cases h
 let ax6:Cg≠pl:=f5 Gv vo;let acX:=s3 _ _ Gv;let wF:=KA.same s3;let vx:=(s1.trans D).trans s3;generalize upd M pl (.lst [])=aK at s3 ade acX wF vx⊢;show#[1,4];show-EL ?_;dsimp only;let a0:A0 C H aK x n g st Cg pl cC N [] (u.map mI) (fk u.Z) []:=#[vx,#[wF.ins,wF.goals,wF.steps],wF.each,acX,ax5,ax6,ade,.nil]
 let jN:ņ r u u.length (-1) (fk u.Z) (u.map mI) []:=by
  rcases O with rfl|⟨d,rfl,_⟩
  .exact .done rfl rfl
  exact .go d rfl rfl rfl rfl rfl rfl
 obtain⟨I,SD⟩:∃I:Nat->al.St->af->Prop,I=λm U cn=>∃(T:Int)(go:bg)(bE:hu)(Y:Addr)(as:b5)(bs:uA)(rd:lh),U=[ja (.ref n),ja (.ref gx),ja (.ref y),ja (.ref x),ja (.ref Y),ja (.ref pl),ja (.int T),rd]/\A0 C H cn x n g st Y pl cC N as bE go bs/\ņ r u m T go bE bs:=#[1]
 show#[I,#[u.Z,by rw[SD];show#[-1,6,Cg,[],[],jp,2,a0,jN]],4];intro m U cn Ci;rw[SD]at Ci;let#[T,go,bE,Y,as,bs,rd,2,X,cU]:=Ci;show#[1,!(rr go).isEmpty,.inl #[_,aM.of X.wZ,2],4];rcases cU with⟨d,iV,rfl,rfl,rfl,rfl,rfl⟩|⟨rfl,rfl⟩
 rotate_left
 .exact fv rfl #[1,q pl cn as aea X.ax X.Dk X.Lk]
 let#[FV,U']:=X.xX.ins;rcases O with rfl|⟨c,rfl,o1,o2,C6,Hg,aeg,Hh,_⟩
 .cases iV
 obtain rfl:c=d:=(Ì iV).1;clear iV;let adB:=jz X.Lk;obtain rfl:=ahV adB;subst abZ;refine ey rfl #[I 0,λbq H' h=>#[0,8,h],4];let BR:=X.xX.at_ X.each;dsimp only[h4,t5,pq,js];show#[1,3,4];refine DM (J:=j9 K Y) (H1:=cn) (xs:=rr [0]) (rest:=[ja (.ref x)]) (λux h=>#[1,Y,2,#[_,aM.of X.wZ],h]) rfl (oj (aM.of X.wZ)) (e8 qc) (λ_=>.int c.2.1) (λi v M ux ev D Z=>?_) (λiL c9 aFc Gh b4=>?_)
 .let#[k,aU,2]:=cD.mp (eX ev);obtain rfl:=d2.mp aU;show#[1,x,FV,1,D _ _ U',7,x,n,g,st,_,N,_,0,[],#[c.2.1,jp,c.1,c.2.1],2,BR.same D,2,Z M (av.refl _)]
 let Gh:c9 iL=ja (.lst ([c.2.1].map V.int)):=Gh;show#[iL,[c.2.1],2,aM.of Gh,by simp,_,1,4];let auG:(if p' [c.2.1] > -1+1 then p' [c.2.1]else -1+1)=c.2.1:=by rw[show p' [c.2.1]=c.2.1 from rfl];split<;>lia
 rw[auG];let x7:=X.same b4;show-EL ?_;show#[5,5,1,x,n,g,st,Y,y,t,bb,bh,_,N,rs,_,hs,ds,kvs,[0],0,c.2.1,r,c.2.1,2,BR.same b4,aM.of x7.wZ,td.same x7.ax,R.same x7.ax,G,.one [] #[c.2.1,jp,c.1,c.2.1] c.2.2 rfl rfl rfl o1 o2 C6 Hg rfl (oL _),Xg,λaX bo abA zR c2 w4 Sj=>#[aX,2,#[_,aM.of w4],4]];let Sj:b9 (iZ bo) abA [((c.2.1,r),[0])]:=Sj;obtain⟨fT,rfl,av3⟩:∃fT,abA=[fT]/\iZ bo fT ((c.2.1,r),[0]):=by
  cases Sj with
  |cons a t=>cases t;show#[1,a]
 let Zl:=x7.same c2;let ax0:aX∉N:=λz=>by let#[bB,h]:=Ay x7.each aX z;rw[zR]at h;cases h
 let axZ:aX≠pl:=dG (f5 x7.Dk zR);obtain⟨fs,LA⟩:∃fs:Nat->List (List Step),fs=λj=>if j=0 then[mI c]else[mI c++[stepK hs ds (c.2.1,r)]]:=#[1]
 refine tC (xs:=bw [fT]) (λj U hl=>∃rd,U=[ja (.ref n),ja (.ref gx),ja (.ref y),ja (.ref x),ja (.ref Y),ja (.ref pl),ja (.int c.2.1),rd]/\A0 C H hl x n g st Y pl [c.2.2] N ([fT].take j) (fs j) [0] ([((c.2.1,r),[0])].take j)/\hl aX=ja (.lst (bw [fT]))/\iZ hl fT ((c.2.1,r),[0]))
  #[rd,2,by rwa[LA],w4,av3] (λj U hl _⟨_,_,_,h,_⟩=>aM.of h) ?_ ?_
 .rintro j z U hl eo ⟨rd,rfl,L,acH,ae⟩;cases j with
  |succ j=>cases eo
  |zero=>
  cases eo;let#[FV,U_]:=L.xX.ins;let XC:=aki L.ax LW;let Zp:=ape L.xX L.each avt;let dB:fs 0=[mI c]:=by rw[LA];rfl
  show#[1,x,FV,1,U_,7,mask hl N,x,n,g,st,bb,bh,fT,_,N,rs,_,hs,ds,((c.2.1,r),[0]),2,Dg hl N,Zp,L.each,zS,(λl au=>I3 au),td.fo.same XC,R.same XC,O1 ae L.each,Xg,(by show[0].Nodup;decide),4,4,λg_ fC SG=>?_]
  .intro i hi;rw[d2.mp hi,dB];show-Kc
  .intro ss tv;rw[dB]at tv;rw[d2.mp tv];exact(by decide:1<=100)
  let SG:b9 (gP g_) N (fs 1):=by
   let aG:fs 1=pj (stepK hs ds (c.2.1,r)) [0] (fs 0):=by rw[LA];rfl
   rwa[aG]
  let Cp:=fC _ _ (iS L.Dk aeb);show#[1,.inl #[2,_,aM.of Cp],1,pl,3,Cp,(by show 0<sizeLine;decide),1,4,4,4]
  .show#[gE aea (XC.trans fC),(Zp.same fC).upd Cp aym ayo,alu SG Cp aeb,4,L.i2,L.Wf,aN,.cons (((O1 ae L.each).same fC).upd Cp) .nil];rw[aJ L.Wf];show-fC _ _ (iS L.wZ L.i2)
  .rw[aJ axZ];show-fC _ _ (iS acH ax0)
  exact((O1 ae L.each).same fC).upd Cp
 rintro U hl ⟨rd,rfl,L,acH,ae⟩;let#[FV,U_]:=L.xX.ins;let yV:=L.xX.at_ L.each;let aG:fs 1=[mI c++[stepK hs ds (c.2.1,r)]]:=by rw[LA];rfl
 dsimp only;refine an6 (J:=j9 K Y) (H1:=hl) (xs:=rr [0]) (rest:=[ja (.ref x)]) (λux h=>#[1,Y,2,#[_,aM.of L.wZ],h]) rfl (oj (aM.of L.wZ)) (e8 qc) (λ_=>jA) id (λi v M ux ev D Z=>?_) (λi v M ux ev _ D Z=>#[1,Z M (av.refl _)]) (λTz c9 ad1 Un ay4=>?_)
 .let#[k,aU,2]:=cD.mp (eX ev);obtain rfl:=d2.mp aU;show#[1,x,FV,1,D _ _ U_,7,x,n,g,st,_,N,_,0,mI c,stepK hs ds (c.2.1,r),c.2.2,2,yV.same D,by show(fs 1)[0]?=_;rw[aG];rfl,2,7,4];rw[show sC (stepK hs ds (c.2.1,r)) c.2.2=.int (stepK hs ds (c.2.1,r)).kj from b2 aeg];show-Z M (av.refl _)
 let Un:c9 Tz=ja (.lst (rr [])):=Un;rw[SD];let AU:=L.same ay4;show#[6,_,Tz,[fT],_,rd,2,#[AU.ax,AU.xX,AU.each,Un,λz=>?_,dG (f5 L.Dk ad1),AU.Dk,AU.Lk],.done rfl rfl];let#[bB,h]:=Ay L.each Tz z;rw[ad1]at h;cases h
def Fy(s:Step)(y h:Str)(t:Int):Bool:=decide (s.pW≠y)&&(decide (s.pW=h)&&decide (s.kj<=t))
inductive ŝ(C:Addr)(vs:aL)(H:af)(Q:aO)(fE:bF):Prop where
 |mk(x n g st:Addr)(cC:bY)(ls:b5)(bE:hu)(k:Nat)(ss:List Step)(s:Step)(y h:Str)(t:Int)(_:vs=[.ref x,.int k,.str h,.int t])(_:WalkAt C H x n g st cC ls bE)(_:bE[k]?=ja (ss++[s]))(_:cC[k]?=ja y)(_:Q (.aX (Fy s y h t)) H)
abbrev Ki:Stmt:=gT (top 34) 7
def apg:cp Bk Bk (bW Ki):=({})
def anf{f:Addr}(F:b1 K "can_leave" "Walk.can_leave" Ki f fd)(G:rb K C)(B:cR K C "last_house" "Walk.last_house" Ed dv f1 J)(D:-aA a6 1 f1 J dv (OG C))(j:cR K C "last_turn" "Walk.last_turn" Aw dv f2 M)(U:-aA a6 1 f2 M dv (IQ C))(u:cR K C "home_turn" "Walk.home_turn" Ax dv I T)(X:-aA a6 2 I T dv (I2 C)):-aA a6 3 f fd Bk (ŝ C):=by
 let L:=G.cl;show-F.ok apg (λ_ A _ s H vs Q E l h=>?_);let#[x,n,g,st,p,N,o,k,i,a,y,R,t,2,W,r,O,q]:=h;let#[d,m]:=W.ins;show#[_,(a9 (ct (kT (oi vy (fg (aa 0) L u.d5 X l.mono u.bd .nil cd (aj (aa 1) ay)) kn (e9 _)) (kT (oi q7 (fg (aa 0) L B.d5 D l.mono B.bd .nil cd (aj (aa 1) ay)) (aa 2) (e9 _)) (qV (oi q8 (fg (aa 0) L j.d5 U l.mono j.bd .nil cd (aj (aa 1) ay)) (aa 3) (e9 _))))))),4];show#[1,x,d,1,m,7,x,n,g,st,p,N,o,k,i,a,y,2,W,r,O,7,4];unfold Fy at q;by_cases b:a.pW=y
 .let e:decide (sC a y=al.V.cw)=jA:=by unfold sC;rw[b2 b];show-dJ (by intro z;cases z)
  rw[dJ (λz=>z b),sP]at q;show-fv e q
 let e:decide (sC a y=al.V.cw)=jx:=by unfold sC;rw[bL b];exact cQ rfl
 rw[cQ b,qi]at q;show-ey e #[1,x,d,1,m,7,x,n,g,st,p,N,o,k,i,a,2,W,r,1,7,4];by_cases c:a.pW=R
 .rw[cQ c,qi]at q;show-ey (cQ (gF V.str c)) #[1,x,d,1,m,7,x,n,g,st,p,N,o,k,i,a,2,W,r,1,3,q]
 rw[dJ c,sP]at q;show-fv (dJ λz=>c (V.str.inj z)) q
abbrev JG:Stmt:=top 35
def ang:cp j' j' (bW JG):=({})
inductive ď(vs:aL)(H:af)(Q:aO)(fE:bF):Prop where
 |mk(a:Addr)(b:ib×List Nat)(_:vs=[.ref a])(_:iZ H a b)(_:b.2≠[])(_:b.2.Z<=100)(_:∀H',av H H'->Q (.aX jx) H')
def alv{f:Addr}(F:b1 K "is_bag" "is_bag" JG f fd)(B:fc mg)(r:bO K mg "is_whole" Ei j' f1 x)(l:-aA a6 1 f1 x j' Pk)(T:bO K mg "is_tuple_of" Av rE f2 G)(e:-aA a6 1 f2 G rE í):-aA a6 2 f fd j' ď:=by
 show-F.ok ang (λ_ A _ s H vs Q E g h=>?_);let#[a,b,2,#[c,y,m],O,dy,q]:=h;show#[_,(a9 (ct (kT (dp e T g.mono cd (aj (aa 0) (aj bt ay))) (kT (dp l r g.mono cd (aj (ck eN (aa 0) bt) ay)) (kT (dp l r g.mono cd (aj (ck eN (aa 0) bt) ay)) (kT (d4 vf B.isinstance kg (aj (ck eN (aa 0) bt) (aj (tL qF B.tuple Du) ay))) (kT (oi AQ (d4 jC B.len iT (aj (ck eN (aa 0) bt) ay)) bt (e9 _)) (qV (d4 (Dl rfl) B.BU D6 (aj (j0 (N':=oQ) (cs:=[jp]) rfl (I4 (ck eN (aa 0) bt)) rfl qL rfl qL (hv (λp u=>bk u (ee))) rfl
   (.own .nil)
   (λC s3 X Y Z=>#[(ed 0 (by show(oQ:bY).Nodup;decide+kernel)),iQ,(dp l r g.mono cd (aj (aa 0) ay))])) ay)))))))))),4]
 let d:=cH.of (K:=K) y;let o:=cH.of (K:=K) m;show#[1,a,_,(3),2,y,7,hb ?_];show#[1,a,_,3,d,2,b.1.1,7,hb ?_];show#[1,a,_,3,d,2,b.1.2,7,hb ?_];show#[1,a,_,3,d,2,4];show#[6,6,1,#[2,.tup m,ļ _ _],1,hb ?_];let U:0<b.2.Z:=Be.mpr O;show#[1,a,_,3,d,2,c,1,.inr o,3,1,ey (cQ (by rw[bQ];lia)) ?_];dsimp only[pq,js];refine xB (J:=ym K c) (H1:=H) (xs:=b.2.map λn:Nat=>V.int n) (rest:=[]) (λR h=>#[1,a,_,3,d,2,c,2,#[_,o],h]) rfl (P2 o λH' L=>cH.of (L _ _ m)) (e8 (by rw[bQ];lia)) (λ_=>.aX jx) (λi v t R N L k=>?_) (λD t h6 a8 M=>?_)
 .rw[ea]at N;let#[j,fm,2]:=hN.mp N;show#[1,j,2,k t (av.refl _)]
 show#[D,(fk (b.2.map λn:Nat=>V.int n).Z).map (λ_=>jx),2,aM.of (by rw[a8,hp];rfl),4];show-aan ?_ (q _ M);rw[iw];intro z I;let#[_,1]:=cD.mp I;rfl
abbrev K1:Stmt:=top 36
def Kj:cp ["numbers","bound","ahead","number"] E0 (bW K1):=({})
inductive aag(vs:aL)(H:af)(Q:aO)(fE:bF):Prop where
 |mk(c:Addr)(ns:bg)(m:Int)(_:vs=[.ref c,.int m])(_:H c=ja (.tup (ns.map λn:Nat=>V.int n)))(_:ns.Pairwise (· < ·))(_:(∀n∈ns,(n:Int)<m))(_:Q (.aX jx) H)
def aph{f:Addr}(F:b1 K "are_rising_below" "are_rising_below" K1 f fd):-aA a6 1 f fd E0 aag:=by
 show-F.ok Kj (λ_ A _ s H vs Q E C h=>?_);let#[c,b,m,2,t,p,x,q]:=h;show#[_,(a3 (dg 2 Kj.aC (AO Au bt))
  (a3 (l6 lT rfl (I4 (aa 0)) (ed 3 Kj.aC)
   (a3 (eu (jF (z5 vG vG (aa 2) (aa 3) (aa 1))) (a9 (ct nv)) eH)
  (a9 (dg 2 Kj.aC (aa 3)))))
  (a9 (ct nv)))),4]
 show#[5,c,2,#[_,cH.of t],4];show-È (K:=K) (a:=c) (xs:=b.map λn:Nat=>V.int n) (λj U g=>∃(o:Int)(v:lh),U=[ja (.ref c),ja (.int m),ja (.int o),v]/\g=H/\∀n,n∈b.drop j->o<n) #[-1,jp,2,2,λn _=>by lia] (λj U g _⟨_,_,_,h,_⟩=>h▸cH.of t) ?_ ?_
 .rintro j z U g L ⟨o,v,rfl,rfl,r⟩;rw[ea]at L;let#[n,l,2]:=hN.mp L;let y:=(gM.mp l).1;let B:b[j]=n:=by rw[ew y]at l;show-gN l
  let N:b.drop j=n::b.drop (j+1):=by rw[JP y,B]
  let i:=r n (by rw[N];show-.head _);let u:=x n (eX l);show#[5,3,1,4];show-ey (cQ i) #[1,3,1,4];show-A2 u ?_;show#[1,n,ja (.int n),2,2,λk e=>?_];let d:(b.drop j).Pairwise (· < ·):=p.sublist (List.drop_sublist _ _);rw[N,List.pairwise_cons]at d;have:=d.1 k e
  lia
 rintro U g ⟨o,v,rfl,rfl,r⟩;show-q
def aqR:Option ib->ib->Prop
 |none,_=>True
 |some a,k=>a.1<k.1\/(a.1=k.1/\a.2<k.2)
def Eg(H:af)(v:al.V):Option ib->Prop
 |none=>v=.cw
 |some k=>∃a b,v=.ref a/\iZ H a (k,b)
theorem Eg.same{H:af}(b:av H H'):∀{o:Option ib},Eg H v o->Eg H' v o
 |none,h=>h
 |some _,⟨a,ns,e,h⟩=>#[a,ns,e,h.same b]
structure aah(hs:ba)(ds:cY)(cC:bY)(bE:hu)(jB:Option ib)(b:ib×List Nat):Prop where
 ne:b.2≠[]
 dy:b.2.Z<=100
 ord:aqR jB b.1
 fN:b.1.2<ds.Z
 room:(b.2.Z:Int)<=z9 ds b.1.2
 aeA:b.2.Pairwise (· < ·)
 lt:∀i∈b.2,i<bE.Z
 wL:∀i∈b.2,∃ss s y,bE[i]?=ja (ss++[s])/\cC[i]?=ja y/\Fy s y (v8 hs ds b.1.2) b.1.1=jx
inductive aai(C aD:Addr)(vs:aL)(H:af)(Q:aO)(fE:bF):Prop where
 |mk(x n g st bb bh fT gx:Addr)(cC:bY)(ls rs:b5)(bE:hu)(hs:ba)(ds:cY)(b:ib×List Nat)(nD:al.V)(jB:Option ib)(bB:aL)(_:vs=[.ref x,.ref n,.ref gx,nD,.ref fT])(_:WalkAt C H x n g st cC ls bE)(_:ih aD H n bb bh (dK hs) (bw rs))(_:gO H hs rs ds)(_:rs.Z<=40)(_:iZ H fT b)(_:Eg H nD jB)(_:H gx=ja (.lst bB))(_:bB.Z=bE.Z)(_:aah hs ds cC bE jB b)(_:∀H',av H H'->Q .cw H')
abbrev K2:Stmt:=top 37
def Q4:cp ["walk","net","letters","ahead","thing","roads","road"] EV (bW K2):=({})
def api{f:Addr}(F:b1 K "reason_against" "reason_against" K2 f fd)(B:fc mg)(g6:ef K C)(eW:ef K aD)(Dp:bO K mg "is_bag" JG j' f1 cg)(X:-aA a6 2 f1 cg j' ď)(B5:bO K mg "are_rising_below" K1 E0 f2 dY)(Z:-aA a6 1 f2 dY E0 aag)(lp:cR K aD "roads" "Net.roads" Ak eg cV iW)(qB:-aA a6 1 cV iW eg (Ir aD))(y9:cR K C "can_leave" "Walk.can_leave" Ki Bk f4 uR)(U:-aA a6 3 f4 uR Bk (ŝ C)):
  -aA a6 4 f fd EV (aai C aD):=by
 show-F.ok Q4 (λ_ A _ s H vs Q E M h=>?_);let#[x,n,g,st,bb,bh,L,gx,cC,ls,rs,bE,hs,ds,b,nD,jB,bB,2,W,N,R,dy,w3,Gn,mD,eC,ok,q]:=h;show#[_,(a3 (eu (jF (jE (dp X Dp M.mono cd (aj (aa 4) ay)))) (a9 (ct cF)) eH)
  (a3 (eu (lS.pt (ĸ (gs Ov (aa 3) kn (e9 _)) (Ü (gs (apb (þ (kW M))) (z2 Ň (aa 4) Ab (Ac bt)) (z2 Ň (aa 3) Ab (Ac bt)) (e9 _))))) (a9 (ct cF)) eH)
  (a3 (dg 5 Q4.aC (oa (aa 1) eW lp.d5 qB M.mono lp.bd .nil cd))
  (a3 (eu (jF (z5 q8 vG bt (ck eN (aa 4) bt) (d4 jC B.len iT (aj (aa 5) ay)))) (a9 (ct cF)) eH)
  (a3 (dg 6 Q4.aC (ck e4 (aa 5) (ck eN (aa 4) bt)))
  (a3 (eu (gs AQ (d4 jC B.len iT (aj (ck eN (aa 4) bt) ay)) (ck eN (aa 6) bt) (e9 _)) (a9 (ct cF)) eH)
  (a3 (eu (jF (jE (dp Z B5 M.mono cd (aj (ck eN (aa 4) bt) (aj (d4 jC B.len iT (aj (aa 2) ay)) ay))))) (a9 (ct cF)) eH)
  (a3 (eu (jF (jE (d4 (Dl rfl) B.BU D6 (aj (j0 (N':=["number","walk","road","thing"]) (cs:=[jp,ja 0,ja 6,ja 4]) rfl (I4 (ck eN (aa 4) bt)) rfl qL rfl qL (hv (c'.mpr #[2,(c'.mpr #[2,(c'.mpr #[2,(λp aw=>bk aw (ee))])])])) rfl
   (.own (.mu rfl (.inl rfl) (.inl rfl) rfl (.mu rfl (.inl rfl) (.inl rfl) rfl (.mu rfl (.inl rfl) (.inl rfl) rfl .nil))))
   (λC m aK bP de=>#[(ed 0 (by show(["number","walk","road","thing"]:bY).Nodup;decide+kernel)),iQ,(fg (aa 1) g6 y9.d5 U M.mono y9.bd .nil cd (aj (aa 0) (aj (ck (Ae (K:=K) rfl) (aa 2) bt) (aj (ck (Ae (K:=K) rfl) (aa 3) bt) ay))))])) ay)))) (a9 (ct cF)) eH)
  (a9 (ct kn)))))))))),4]
 ac_rfl
 show#[1,L,b,2,w3,ok.ne,ok.dy,λH1 s1=>#[1,gV ?_]];let#[c,lz,jH]:=id w3;dsimp only[tV,h4];show-am0 (t:=Kz _ _ _) (λeE=>∀I,av H I->eE.dq [ja (.ref x),ja (.ref n),ja (.ref gx),ja nD,ja (.ref L),jp,jp] I) ?_ λeE rest=>?_
 .intro I G;let#[eR,hn]:=N.ins;show#[1,n,eR,1,G _ _ hn,2,n,bb,bh,_,1,N.same G,λl nl=>?_];let m:=G.trans (b7 (o:=.lst (bw rs)) nl);let T:=aN (H:=I) (a:=l) (o:=.lst (bw rs));generalize upd I l (.lst (bw rs))=aK at m T⊢;let O:=cH.of (K:=K) (m _ _ lz);let fq:=cH.of (K:=K) (m _ _ jH);let pk:=R.len;let rfl':=gX rs;let GC:=ok.fN;show#[1,L,_,3,O,2,3,1,4];show-ey (cQ jQ) #[1,l,1,.inl (aM.of T),3,1,4];show-A2 jQ ?_;obtain⟨r,h2⟩:∃r,rs[b.1.2]?=ja r:=#[_,ew jQ]
  let#[d,dc,_,hd]:=R.get h2;let dB:ds.getD b.1.2 Dt=d:=A5 dc;let SE:nA hs d=[.str (v8 hs ds b.1.2),.str (v9 hs ds b.1.2),.int (sm ds b.1.2),.int (z9 ds b.1.2)]:=by unfold nA v8 v9 sm z9;rw[dB]
  rw[SE]at hd;let eU:=cH.of (K:=K) (m _ _ hd);show#[5,L,_,3,O,2,l,_,3,aM.of T,(show al.hZ (bw rs) (b.1.2:Int)=ja (.ref r)from jV (by unfold bw;rw[ea,h2];rfl)),4];show#[1,L,_,3,O,2,c,1,.inr fq,1,r,_,3,eU,2,3,1,4];show-fv (dJ (by rw[bQ];have:=ok.room;lia)) ?_;show#[1,L,_,3,O,7,gx,1,.inl (aM.of (m _ _ mD)),c,b.2,1,m _ _ jH,ok.aeA,(λi hi=>by have:=ok.lt i hi;lia),1,gV ?_];dsimp only[tV,h4,Kz,aaJ,X2,pq,js];let wF:=W.same m;let#[ah,aq]:=wF.ins;refine xB (J:=ym K c) (H1:=aK) (xs:=b.2.map λn:Nat=>V.int n) (rest:=[ja (.ref x),ja (.ref r),ja (.ref L)]) (λR h=>#[1,L,_,3,O,2,c,2,#[_,fq],h]) rfl (P2 fq λH' u=>cH.of (u _ _ (m _ _ jH))) (e8 (by rw[bQ];have:=ok.dy;lia)) (λ_=>.aX jx) (λi v c9 Rr ev u k=>?_) (λD c9 h6 a8 lI=>?_)
  .rw[ea]at ev;let#[j,fm,2]:=hN.mp ev;let#[ss,s',y,es,dk,ar]:=ok.wL j (eX fm);show#[1,x,ah,1,u _ _ aq,7,1,r,_,3,cH.of (u _ _ (m _ _ hd)),7,L,_,3,cH.of (u _ _ (m _ _ lz)),2,x,n,g,st,cC,ls,bE,j,ss,s',y,_,1,wF.same u,es,dk,4];rw[ar];show-k c9 (av.refl _)
  show#[D,(fk (b.2.map λn:Nat=>V.int n).Z).map (λ_=>jx),2,aM.of (by rw[a8,hp];rfl),1,4];let aH:((fk (b.2.map λn:Nat=>V.int n).Z).map (λ_=>jx)).all id=jx:=by rw[iw];intro z hz;let#[_,1]:=cD.mp hz;rfl
  rw[aH];show-gV (q _ (m.trans lI))
 show#[1,7,4];cases jB with
 |none=>
  obtain rfl:nD=.cw:=Gn;exact fv rfl (rest H1 s1)
 |some e=>
  let#[a0,aFi,2,abG,Y,aEG]:=Gn;refine ey rfl #[5,L,1,cH.of (s1 _ _ lz),(by show¬((0:Nat)=0/\(2:Nat)=3);lia),λfM zW=>?_];let G:=s1.trans (b7 (o:=.tup [V.int b.1.1,V.int b.1.2]) zW);let u9:=aN (H:=H1) (a:=fM) (o:=.tup [V.int b.1.1,V.int b.1.2]);show#[5,a0,1,cH.of (G _ _ Y),(by show¬((0:Nat)=0/\(2:Nat)=3);lia),λfz He=>?_];let m:=G.trans (b7 (o:=.tup [V.int e.1,V.int e.2]) He);show#[fM,fz,6,3,cH.of (b7 He _ _ u9),cH.of aN,1,4];let q1:e.1<b.1.1\/(e.1=b.1.1/\e.2<b.1.2):=ok.ord;show-fv ?_ (rest _ m);show(if b.1.1=e.1 then decide ((b.1.2:Int)<=(e.2:Int))else decide (b.1.1<=e.1))=jA;split
  .exact dJ jQ
  show-dJ jQ
inductive uC(hs:ba)(ds:cY)(cC:bY):List (List Step)->Option ib->List (ib×List Nat)->List (List Step)->Prop
 |nil{bE jB}:uC hs ds cC bE jB [] bE
 |cons{bE jB b bs fin}(_:aah hs ds cC bE jB b)(_:uC hs ds cC (pj (stepK hs ds b.1) b.2 bE) (ja b.1) bs fin):uC hs ds cC bE jB (b::bs) fin
def aa9(fp:b5)(a:hu):Prop:=fp.Z<=99\/∀b∈a,b.Z<=100
def uC.grow{d:hu}{l:Option ib}{k:uA}{a:hu}(w:uC hs ds j d l k a):∀{i:Nat}{b:List Step},d[i]?=ja b->∃c,a[i]?=ja c/\b.Z<=c.Z:=by
 induction w with
 |nil=>intro i b e;show#[b,e,cy _]
 |cons ok t h=>
  intro i b e;let#[c,f,g]:=h (i:=i) (by rw[Df,e];rfl);show#[c,f,eh ?_ g];split
  .rw[dT];lia
  show-cy _
inductive Ş(C aD:Addr)(vs:aL)(H:af)(Q:aO)(fE:bF):Prop where
 |mk(n bb bh gx pp:Addr)(rs gf fp:b5)(j1:mn)(hs:ba)(ds:cY)(bs:uA)(fin:hu)(_:vs=[.ref n,.ref gx,.ref pp])(_:ih aD H n bb bh (dK hs) (bw rs))(_:gO H hs rs ds)(_:rs.Z<=40)(_:H gx=ja (.lst (bw gf)))(_:h5 H gf (j1.map l'))(_:gf.Z<=100)(_:H pp=ja (.lst (bw fp)))(_:b9 (iZ H) fp bs)(_:aa9 fp fin)(_:uC hs ds (j1.map λd=>d.2.2) (j1.map mI) jp bs fin)(_:∀(H':af)(x g st:Addr)(ls:b5),av H H'->WalkAt C H' x n g st (j1.map λd=>d.2.2) ls fin->Q (.ref x) H')
abbrev J6:Stmt:=top 38
def Ar:cp ["net","letters","plan","walk","ahead","place","thing","reason"] s8 (bW J6):=({})
def anh{f:Addr}(F:b1 K "walk_of" "walk_of" J6 f fd)(B:fc mg)(c3:rb K C)(r':mg "Walk"=ja (.ref C))(Ch:bO K mg "reason_against" K2 EV f1 cg)(aAC:-aA a6 4 f1 cg EV (aai C aD))(IK:nQ K C f2)(n7:mi K C "Walk.__init__" BO uj f2 dY)(G8:-aA a6 2 f2 dY uj (Kf C))(n8:cR K C "send" "Walk.send" AZ um cV iW)(G9:-aA a6 2 cV iW um (JE C aD)):
  -aA a6 5 f fd s8 (Ş C aD):=by
 let g6:=c3.cl;show-F.ok Ar (λ_ A _ s H vs Q E ao h=>?_);let#[n,bb,bh,gx,pp,rs,gf,fp,D,u,ds,bs,fin,2,N,R,dy,mD,vD,S3,Mw,Mk,S4,c0,q]:=h;show#[_,(a3 (dg 3 Ar.aC (tI IK G8 ao.mono qF r' n7.bd .nil cd (aj (aa 0) (aj (aa 1) ay))))
  (a3 (dg 4 Ar.aC kn)
  (a3 (l6 lT rfl (OA rfl B.enumerate (aj (aa 2) ay)) (PU rfl (ng (ed 5 Ar.aC) (ng (ed 6 Ar.aC) xx)))
   (a3 (dg 7 Ar.aC (dp aAC Ch ao.mono cd (aj (aa 3) (aj (aa 0) (aj (aa 1) (aj (aa 4) (aj (aa 6) ay)))))))
  (a3 (eu (gs Ov (aa 7) kn (e9 _)) (a9 Il) eH)
  (a3 (gD (fg (aa 3) g6 n8.d5 G9 ao.mono n8.bd .nil cd (aj (aa 6) ay)))
  (a9 (dg 4 Ar.aC (aa 6)))))))
  (a9 (ct (aa 3)))))),4]
 ac_rfl
 show#[5,λx ah dq sd aC=>?_];let mk:∀{b:Addr}{v:hX},H b=ja v->upd (upd H ah (.own x)) x (.ins C ah []) b=ja v:=λ{b v}e=>by rwa[aJ (cI e dq),aJ (cI e sd)]
 show#[x,ah,n,gx,gf,D,2,aN,mk mD,vD.same (λb v e=>mk e),S3,λH1 g st c cf W i2 pd zS T ax8=>#[2,4]];let s1:av H H1:=ZZ dq sd cf;let LW:∀l∈c,H l=jp:=λl k=>by
  cases e:H l with
  |none=>rfl
  |some o=>have:=(T l k).1;rw[mk e]at this;cases this
 obtain⟨r,G⟩:∃r,r=mask H1 c:=#[1]
 let ay8:av r H1:=by rw[G];show-Dg _ _
 let t:av H r:=λb o e=>by rw[G];show-iS (s1 _ _ e) λae=>by rw[LW b ae]at e;cases e
 let avu:∀l∈c,r l=jp:=λl k=>by rw[G];show-I3 k
 let IP:x∉c:=λk=>by have:=(T x k).1;rw[aN]at this;cases this
 let wY:g∉c:=λk=>(T g k).2.2 rfl;let sn:st∉c:=λk=>(T st k).2.1 rfl;let KD:p_ C r x n g st (D.map λd=>d.2.2) c:=by let#[Lv,e]:=W.ins;rw[G];show#[#[Lv,iS e IP],iS W.goals wY,iS W.steps sn]
 let VI:gf.Z=D.Z:=by have:=vD.len;rwa[bQ]at this
 let ayG:=jz Mk;let dx:=W.each;clear W cf mk dq sd aC i2 pd T ax8 IP wY sn LW G;show#[1,pp,2,#[_,aM.of (s1 _ _ Mw)],4];refine π (K:=K) (a:=pp) (xs:=bw fp) (λj U y=>∃(Y:al.V)(X:Option ib)(m:hu)(DP v6 rd:lh),U=[ja (.ref n),ja (.ref gx),ja (.ref pp),ja (.ref x),ja Y,DP,v6,rd]/\av r y/\b9 (gP y) c m/\Eg r Y X/\uC u ds (D.map λd=>d.2.2) m X (bs.drop j) fin/\m.Z=D.Z/\∀Z∈m,Z.Z<=j+1)
  #[.cw,jp,D.map mI,jp,jp,jp,2,ay8,dx,2,c0,bQ _,λZ u=>by let#[d,1]:=cD.mp u;show-cy _] (λj U y⟨_,_,_,_,_,_,_,h,_⟩=>aM.of (h _ _ (t _ _ Mw))) ?_ ?_
 .rintro j z U y p eo ⟨Y,X,m,DP,v6,rd,rfl,g8,fm,Gn,L,ln,lZ⟩ np;unfold bw at eo;rw[ea]at eo;let#[O,Lz,2]:=hN.mp eo;let#[b,SH,w3]:=b9.get Mk Lz;let aEZ:=(gM.mp Lz).1;let M:=b7 (o:=.tup [V.int (j:Int),V.ref O]) np;show#[p,1,cH.of aN,2,4];let I:=g8.trans M;let SJ:=HK fm M;generalize upd y p (.tup [V.int (j:Int),V.ref O])=fY at I SJ⊢;let lx:bs.drop j=b::bs.drop (j+1):=by let bJ:=(gM.mp SH).1;rw[JP bJ];rw[ew bJ]at SH;rw[gN SH]
  rw[lx]at L;let azZ:=L;cases L with
  |cons ok tail=>
  let nb:=t.trans I;show#[_,1,3,4];show#[5,5,1,x,n,g,st,bb,bh,O,gx,_,c,rs,m,u,ds,b,Y,X,1,(KD.same I).at_ SJ,N.same nb,R.same nb,dy,w3.same nb,Gn.same I,nb _ _ mD,(by rw[gX,VI,ln]),ok,λaAX bz=>?_];show#[1,7,fv rfl ?_];let J:=I.trans bz;let#[Lv,gm]:=KD.ins;show#[1,x,Lv,1,J _ _ gm,7,r,x,n,g,st,bb,bh,O,_,c,rs,m,u,ds,b,2,J,KD,HK SJ bz,zS,avu,N.same t,R.same t,w3.same t,ok.fN,(ok.aeA.imp λh=>fH h),ok.lt,(λZ tv=>by
   rcases S4 with bP|bP
   .have:=lZ Z tv
    lia
   let#[i,hi]:=qk tv;let#[sr,ai,ak]:=azZ.grow hi;show-eh ak (bP sr (eX ai))),λJJ ax em=>?_]
  show#[1,_,ja b.1,6,_,1,ax,em,#[O,b.2,2,w3.same t],tail,by rwa[N6],λZ tv=>?_];let#[i,hi,2]:=JU tv;let aG:=Df (stepK u ds b.1) b.2 m i;rw[ew hi]at aG;let#[s0,aP,cz]:=hN.mp aG.J;have:=lZ s0 (eX aP);rw[<-cz];split
  .rw[dT];simp only[e5,rD]
   lia
  lia
 rintro U y ⟨Y,X,m,DP,v6,rd,rfl,g8,fm,Gn,L,ln,lZ⟩;rw[gX,ayG,ahU]at L;cases L;show#[1,q y x g st c (t.trans g8) ((KD.same g8).at_ fm)]
def J7(a:List Step)(y:Str):al.V:=match a.getLast? with
 |none=>.cw
 |some s=>sC s y
def aat(C m:Addr):fu:=λvs H Q _=>∃(n o p k l:Addr)(rs c fp:b5)(b:mn)(f:ba)(ds:cY)(g:uA)(a:hu),vs=[.ref n,.ref k,.ref l]/\ih m H n o p (dK f) (bw rs)/\gO H f rs ds/\rs.Z<=40/\
 H k=ja (.lst (bw c))/\h5 H c (b.map l')/\c.Z<=100/\H l=ja (.lst (bw fp))/\b9 (iZ H) fp g/\aa9 fp a/\uC f ds (b.map λd=>d.2.2) (b.map mI) jp g a/\a.Z=b.Z/\(∀r∈a,r≠[])/\
 ∀(H':af)(D:Addr),H D=jp->av H H'->H' D=ja (.lst ((fk b.Z).map λi=>J7 (a.getD i []) ((b.map λd=>d.2.2).getD i (dH ""))))->Q (.ref D) H'
abbrev K3:Stmt:=top 39
def aau:cp ["net","letters","plan","walk"] s8 (bW K3):=({})
def apj{f:Addr}(F:b1 K "arrivals" "arrivals" K3 f fd)(B:fc mg)(g6:ef K C)(C7:bO K mg "walk_of" J6 s8 f1 cg)(r:-aA a6 5 f1 cg s8 (Ş C aD))(Z:cR K C "home_turn" "Walk.home_turn" Ax dv f2 dY)(y7:-aA a6 2 f2 dY dv (I2 C)):
  -aA a6 6 f fd s8 (aat C aD):=by
 show-F.ok aau (λcdv A G s H vs Q E M h=>?_);let#[n,bb,bh,X,pp,rs,b,fp,c,hs,ds,bs,a,2,N,R,dy,mD,vD,S3,Mw,Mk,S4,c0,ez,t,q]:=h;show#[_,(a3 (dg 3 aau.aC (dp r C7 M.mono cd (aj (aa 0) (aj (aa 1) (aj (aa 2) ay)))))
  (a9 (ct (j0 (N':=Bp) (cs:=[jp,ja 3]) rfl (Hx rfl B.range (aj (d4 jC B.len iT (aj (aa 1) ay)) ay)) rfl qL rfl qL (hv (c'.mpr #[2,(λp aw=>bk aw (ee))])) rfl
   (.own (.mu rfl (.inl rfl) (.inl rfl) rfl .nil))
   (λC s3 aK bP de=>#[(ed 0 (by show(Bp:bY).Nodup;decide+kernel)),iQ,(fg (aa 1) g6 Z.d5 y7 M.mono Z.bd .nil cd (aj (aa 0) ay))]))))),4]
 let hx:b.Z=c.Z:=by have:=vD.len;rwa[bQ]at this
 let pk:=gX b;show#[5,1,n,bb,bh,X,pp,rs,b,fp,c,hs,ds,bs,a,2,N,R,dy,mD,vD,S3,Mw,Mk,S4,c0,λH1 x g st ls I W=>?_];let#[ah,aq]:=W.ins;let L:=I _ _ mD;dsimp only[t4];refine xB (J:=yl 0 (bw b).Z) (H1:=H1) (xs:=(fk (bw b).Z).map λi:Nat=>V.int ((0:Int)+(i:Int))) (rest:=[ja (.ref x)]) (λR h=>#[1,X,1,.inl (aM.of L),1,(by show -(2 ^ 62)<=((bw b).Z:Int);lia),(by show((bw b).Z:Int)<2 ^ 62;lia),h]) rfl (χ 0 _) (e8 (by rw[bQ,s6];lia))
  (λi=>J7 (a.getD i []) ((c.map λd:Str×Int×Str=>d.2.2).getD i (dH ""))) (λi v m R U O k=>?_) (λD m Y a8 lI=>?_)
 .rw[ea]at U;let#[j,fm,2]:=hN.mp U;let#[hi,e]:=gM.mp fm;rw[s6]at hi;rw[List.getElem_range]at e;subst e;obtain⟨l,u⟩:∃l,a[i]?=ja l:=#[_,ew jQ]
  obtain⟨y,T⟩:∃y,(c.map λd=>d.2.2)[i]?=ja y:=#[_,ew (by rw[bQ];lia)]
  rw[A5 u,A5 T]at k;rcases List.eq_nil_or_concat l with z|⟨pre,s',z⟩
  .exact bk z (t l (eX u))
  rw[List.concat_eq_append]at z;subst z;unfold J7 at k;rw[ah4,ah5]at k;show#[1,x,ah,1,O _ _ aq,7,x,n,g,st,_,ls,a,i,pre,s',y,4,W.same O,u,T,k m (av.refl _)];rw[yh];rfl
 rw[bQ,s6,pk,hx]at a8;show-q m D ?_ (I.trans lI) a8;cases e:H D with
 |none=>rfl
 |some o=>rw[I _ _ e]at Y;cases Y
def alx{b:Type}[DecidableEq b]{a:List (b×al.V)}{k:b}(h:dV a k=ja v):(k,v)∈a:=by unfold dV at h;let#[p,c,2]:=hN.mp h;let e:p.1=k:=j2 (List.find?_some (p:=λd:b×al.V=>decide (d.1=k)) c);rw[<-e];show-List.mem_of_find?_eq_some c
theorem BM.tab{ds:cY}{a:List Row}(T:BM hs ds a):yS (jb a) ds.Z:=⟨λk v h=>by
 let hm:=alx h;unfold jb at hm;let#[r,f,e]:=cD.mp hm;let#[i,d,b,c,_]:=(T.ok r f).at_;show#[i,4,(gM.mp c).1];cases e;rw[b]⟩
theorem Ã{f:gq}{ds:cY}(t:yS f ds.Z):∀(n:Nat){h:Str}{m:bY}{c d:bg},kY f hs ds g n h m c=.ok d->(∀k∈c,k<ds.Z)->(∀k∈d,k<ds.Z)/\d.Z<=c.Z+n
 |0,h,m,c,d,e,ok=>by cases e;show#[ok,cy _]
 |n+1,h,m,c,d,e,ok=>by
  unfold kY at e;split at e
  .cases e;show#[ok,9]
  split at e
  .cases e
  rename_i k l;split at e
  .cases e
  rcases t.get h g with⟨_,z⟩|⟨i,_,z,j⟩
  .rw[z]at l;cases l
  rw[z]at l;cases l;let#[a,b]:=Ã t n e λk o=>by
   rcases iM.mp o with h|h
   .exact ok k h
   rwa[d2.mp h]
  show#[a,4];rw[dT,ah9]at b
  lia
abbrev RR:Stmt:=top 103
def aqS:cp f7 f7 (bW RR):=({})
inductive aav(a_ CW aD fQ:Addr)(vs:aL)(H:af)(Q:aO)(E:bF):Prop where
 |mk(x v:Addr)(A:gr)(s:ft)(a b:Str)(o:Option Nat)(_:vs=[.ref x,.ref v])(_:iE a_ CW aD H x A s)(_:H v=ja (.lst [.str a,.str b]))(_:lQ s)
   (cG:a∈s.hs.map S->b∈s.hs.map S->Fu (d3.dist (jY s.hs s.ds) a b)=rj o) (d_:∀m,o=ja m->m<10 ^ 10)
   (fW:a∈s.hs.map S->b∈s.hs.map S->∀H',av H H'->Q (.str (S (lL o))) H') (ir:a∉s.hs.map S\/b∉s.hs.map S->E (.ref fQ) jp H)
def apk{f:Addr}(F:b1 K "tell_far" "tell_far" RR f fd)(k:oz K a_)(V:ef K aD)(p:cR K aD "far" "Net.far" KM gh f1 e)(c:-aA (dn P w) 3 f1 e gh (Ÿ aD fQ))(B:bO K mg "number_or_dash" HW oQ f2 i)(t:-aA a6 1 f2 i oQ RI):
  -aA (dn P w) 4 f fd f7 (aav a_ CW aD fQ):=by
 show-iH F aqS (λ_ C _ G H vs Q E g h=>?_);show#[_,(a9 (ct (dp t B g.mono cd (aj (fg (dE (aa 0)) V p.d5 c g.mono p.bd .nil jn (aj (ck e4 (aa 1) bt) (aj (ck e4 (aa 1) bt) ay))) ay)))),4]
 ac_rfl
 let#[x,v,A,s,a,b,o,2,D,y,z,r,d,q,j]:=h;let m:=aM.of (K:=K) y;let#[N,u]:=D.fF.fo.ins;show#[1,x,a_,A.ah,_,1,D.ins,k.cl,k.nn,2,A.n,N,1,u,7,v,_,3,m,7,v,_,3,m,2,A.n,A.bb,A.bh,s.hs,A.rs,s.ds,a,b,2,D.fF.fo,D.fA,z.g.dy,λl n H' L=>?_,j];rw[r l n];show#[o,2,d,q l n H' L]
abbrev RS:Stmt:=top 104
def aqT:cp f7 f7 (bW RS):=({})
inductive aaw(a_ CW aD fQ dR:Addr)(vs:aL)(H:af)(Q:aO)(E:bF):Prop where
 |mk(x v:Addr)(A:gr)(s:ft)(a b:Str)(_:vs=[.ref x,.ref v])(_:iE a_ CW aD H x A s)(_:H v=ja (.lst [.str a,.str b]))(_:lQ s)
   (cG:a∈s.hs.map S->b∈s.hs.map S->∀bc,kY (jb s.bH) s.hs s.ds b 13 a [a] []=.ok bc->∀H',av H H'->Q (.str (S (cM [32] (bc.map b_)))) H')
   (d_:a∈s.hs.map S->b∈s.hs.map S->∀rg sn,kY (jb s.bH) s.hs s.ds b 13 a [a] []=.no rg sn->∀ah H' fs,H ah=jp->av H H'->H' ah=ja (mS ah fs)->E (.ref dR) (ja ah) H')
   (fW:a∉s.hs.map S\/b∉s.hs.map S->E (.ref fQ) jp H)
def apl{f:Addr}(F:b1 K "tell_route" "tell_route" RS f fd)(r:oz K a_)(iR:ef K CW)(N:cR K CW "route" "Ways.route" HX gh f1 T)(u:-aA (iv P w) 3 f1 T gh (RA CW aD fQ dR))(uX:bO K mg "with_blanks" H0 wk f2 X)(B:-aA a6 2 f2 X wk (RJ K)):
  -aA (iv P w) 4 f fd f7 (aaw a_ CW aD fQ dR):=by
 show-je F aqT (λ_ fO _ s0 H vs Q E o h=>?_);show#[_,(a9 (ct (dp B uX o.mono cd (aj (fg (dE (aa 0)) iR N.d5 u o.mono N.bd .nil vd (aj (ck e4 (aa 1) bt) (aj (ck e4 (aa 1) bt) ay))) ay)))),4]
 ac_rfl
 let#[x,v,A,s,a,b,2,D,I,c,q,d,Z]:=h;let y:=aM.of (K:=K) I;let#[bZ,R]:=D.fF.ins;show#[1,x,a_,A.ah,_,1,D.ins,r.cl,r.gH,2,A.y,bZ,1,R,7,v,_,3,y,7,v,_,3,y,2,A.y,A.n,A.t,A.bb,A.bh,s.hs,A.rs,s.ds,jb s.bH,a,b,2,D.fF,c.g,D.fA,c.bH.tab,λt L=>?_,Z];cases e:kY (jb s.bH) s.hs s.ds b 13 a [a] []with
 |ok i=>
  intro l n nl g p;let#[Y,h_]:=Ã c.bH.tab 13 e (λ_ z=>bk z ee);let of:=c.dy;let G:(i.map ja).map rj=i.map λk:Nat=>V.int (k:Int):=by rw[hp];rfl
  let U:(i.map ja).map lL=i.map b_:=by rw[hp];rfl
  show#[l,i.map ja,2,aM.of (by rwa[G]),by rw[rD]at h_;rw[bQ];lia,λk J m em=>?_,λH' s2=>by rw[U];show-q t L i e H' (g.trans s2)];let#[j,O,2]:=cD.mp J;cases em;show-jk (Y _ O) (eh of qc)
 |no rg sn=>
  intro M l n C nl zS g hd p;show-d t L rg sn e M n _ C g hd
def te(b:ib×List Nat):ku:=(b.1.1.toNat,b.1.2,b.2)
structure v'(b:ib×List Nat):Prop where
 t:0<=b.1.1/\b.1.1<10 ^ 10
 r:b.1.2<10 ^ 10
 n:∀n∈b.2,n<10 ^ 10
 ne:b.2≠[]
 dy:b.2.Z<=40
def v'.ok{b:ib×List Nat}(h:v' b):KS (te b):=(#[by have:=h.t;show b.1.1.toNat < 10 ^ 10;lia,h.r,h.n,h.ne,h.dy])
def YM{bs:uA}(h:b9 (iZ H) as bs)(ok:∀b∈bs,v' b):b9 (rn H) as (bs.map te):=by
 induction h with
 |nil=>show-.nil
 |@cons a b as bs h t e=>
  show-.cons ?_ (e λb d=>ok b (.tail _ d));let#[c,f,g]:=h;let o:=(ok b (.head _)).t;show#[c,4,g];show H a=ja (.tup [.int ((b.1.1.toNat:Nat):Int),.int b.1.2,.ref c]);rwa[rB o.1]
def aqU{a:ba}{ds:cY}(R:∀d∈ds,d.Ok a.Z)(r:Nat):0<=sm ds r/\sm ds r<=9:=by
 unfold sm;rw[gL];cases e:ds[r]? with
 |none=>show#[oL _,8]
 |some d=>
  have:=(R d (eX e)).t;show#[by have:=this.1;show 0<=d.t;lia,this.2]
def lQ.ld{s:ft}(O:lQ s):∀d∈s.bN,0<=d.2.1/\d.2.1<=1000000000:=(λd a=>(O.lk d a).2.2.2)
def JH(s:ft):List (Option Nat):=s.bN.map λd=>ja (d.2.1+sm s.ds 0).toNat
def Fv(s:ft):List (List Step):=s.bN.map λd=>mI d++[stepK s.hs s.ds (d.2.1,0)]
structure atE(s:ft):Prop where
 c0:uC s.hs s.ds (s.bN.map λd=>d.2.2) (s.bN.map mI) jp (yx 0 s.bN) (Fv s)
 ne:∀ss∈Fv s,ss≠[]
 st:∀ss∈Fv s,ss.Z<=100
 hm:((fk s.bN.Z).map λi=>J7 ((Fv s).getD i []) ((s.bN.map λd=>d.2.2).getD i (dH "")))=(JH s).map rj
 hn:∀o∈JH s,∀m,o=ja m->m<10 ^ 10
 each:∀b∈yx 0 s.bN,v' b
end
def ru.run{s:ft}(o:ru s.hs s.ds (jb s.bH) 0 s.bN)(O:lQ s)(R:∀d∈s.ds,d.Ok s.hs.Z)(l:0<s.ds.Z):atE s:=by
 let ld:=O.ld;let c:=aqU R 0;let k:1<=z9 s.ds 0:=by unfold z9;rw[gL,ew l];exact(R _ (uh l)).m.1
 let#[g,ds,w,t]:=s;dsimp only at o ld c k l;rcases o with rfl|⟨d,rfl,ai,ak,j,u,q,z,jG⟩
 .show#[.nil,λ_ h=>(nomatch h),λ_ h=>(nomatch h),2,λ_ h=>(nomatch h),λ_ h=>(nomatch h)]
 let a:=ld d (.head _);show#[.cons #[nofun,by show 1<=100;decide,trivial,l,by show(1:Int)<=_;show-k,List.pairwise_singleton ..,λi f=>by rw[d2.mp f];show-Kc,λi f=>?_] .nil,λr h=>?_,λr h=>?_,4,λx h m e=>?_,λb h=>?_]
 .obtain rfl:=d2.mp f;show#[[],#[d.2.1,jp,d.1,d.2.1],d.2.2,2,2,4];show Fy _ _ (v8 g ds 0) d.2.1=jx;unfold Fy;rw[jG];simp[j]
 .rw[d2.mp h];exact nofun
 .rw[d2.mp h];show 2<=100;decide
 .show[sC (stepK g ds (d.2.1,0)) d.2.2]=[V.int (((d.2.1+sm ds 0).toNat:Nat):Int)];rw[rB jQ];unfold sC;rw[b2 (show(stepK g ds (d.2.1,0)).pW=d.2.2 from q)];rfl
 .obtain rfl:=d2.mp h;cases e
  lia
 obtain rfl:=d2.mp h;show#[#[a.1,by show d.2.1<_;lia],by show 0<_;decide,λn p=>by rw[d2.mp p];decide,nofun,by show 1<=40;decide]
def apm{H:af}{d:nY}(h:b8 H v (qT d)):∃c,v=.ref c/\H c=ja (.tup (l' d)):=by let#[c,o,2,a,_,b]:=PR h;let#[l,m,n,2,g,k,f]:=aaU b;rw[(D7 g).1,PQ k,(D7 f).1]at a;show#[c,2,a]
def ani{b:mn}(h:eP H vs (b.map qT)):∃f,vs=bw f/\h5 H f (b.map l'):=by
 let p:=h.paired;clear h;generalize e:b.map qT=ds at p
 induction p generalizing b with
 |nil=>
  rw[Ô.mp e];show#[[],2,.nil]
 |cons a _ i=>
  let#[d,r,2,2,k]:=List.map_eq_cons_iff.mp e;let#[f,2,l]:=i k;let#[c,2,g]:=apm a;show#[c::f,2,.cons g l]
def iE.lets{H:af}{A:gr}{s:ft}(D:iE a_ CW aD H x A s):∃a,H A.l=ja (.lst (bw a))/\h5 H a (s.bN.map l')/\a.Z=s.bN.Z:=by
 let b:=D.lt;cases b with
 |@lst _ xs _ b hz e=>
  let#[a,2,c]:=ani e;show#[a,b,c,by have:=c.len;rwa[bQ]at this]
section
variable{P:cx}{w:b0}{K:aI}{mg:b6}{base:Heap}
abbrev RT:Stmt:=top 105
def aqV:cp f7 f7 (bW RT):=({})
inductive J8(a_ CW aD:Addr)(T:ft->Str)(vs:aL)(H:af)(Q:aO)(E:bF):Prop where
 |mk(x:Addr)(v:al.V)(A:gr)(s:ft)(_:vs=[.ref x,v])(_:iE a_ CW aD H x A s)(_:lQ s)(_:ru s.hs s.ds (jb s.bH) 0 s.bN)(_:0<s.ds.Z)(_:∀H',av H H'->Q (.str (T s)) H')
def Fw(s:ft):Str:=S (nw ((yx 0 s.bN).map te))
def EM(s:ft):Str:=S (cM [32] ((JH s).map lL))
def apn{f:Addr}(F:b1 K "tell_run" "tell_run" RT f fd)(a:oz K a_)(G:bO K mg "run" Fx yE f1 e)(k:-aA a6 6 f1 e yE (Q3 C CW aD))(u:bO K mg "show_plan" BB s_ f2 i)(m:-aA a6 2 f2 i s_ (J0 K)):
  -aA a6 7 f fd f7 (J8 a_ CW aD Fw):=by
 show-F.ok aqV (λ_ J _ T H vs Q E d h=>?_);show#[_,(a9 (ct (dp m u d.mono cd (aj (dp k G d.mono cd (aj (dE (aa 0)) (aj (dE (aa 0)) (aj (dE (aa 0)) ay)))) ay)))),4]
 ac_rfl
 let#[x,v,A,s,2,D,O,o1,g,q]:=h;let#[N,y,L,M]:=D.lets;let V:=O.lf;let fl:=o1.run O D.fA.ok g;show#[1,x,a_,A.ah,_,1,D.ins,a.cl,a.nn,7,x,a_,A.ah,_,1,D.ins,a.cl,a.nl,7,x,a_,A.ah,_,1,D.ins,a.cl,a.gH,2,A.n,A.l,A.y,A.t,A.bb,A.bh,s.hs,A.rs,N,s.ds,jb s.bH,s.bN,0,2,y,L,D.fF,O.g,D.fA,O.bH.tab,o1,g,λl I t R z p j=>?_];show#[l,t,(yx 0 s.bN).map te,2,aM.of p,YM j fl.each,λb n=>by let#[c,r,2]:=cD.mp n;exact(fl.each c r).ok,(by rw[bQ];unfold yx;rw[bQ];show-eh V qc),λo B=>q o (z.trans B)]
abbrev RU:Stmt:=top 106
def aqW:cp f7 f7 (bW RU):=({})
def apo{f:Addr}(F:b1 K "tell_home" "tell_home" RU f fd)(a:oz K a_)(R:bO K mg "run" Fx yE f1 i)(r:-aA a6 6 f1 i yE (Q3 C CW aD))(t:bO K mg "arrivals" K3 s8 f2 j)(d:-aA a6 6 f2 j s8 (aat C aD))(M:bO K mg "with_blanks" H0 wk e u)(y:-aA a6 2 e u wk (RJ K)):
  -aA a6 7 f fd f7 (J8 a_ CW aD EM):=by
 show-F.ok aqW (λ_ X _ s0 H vs Q E g h=>?_);show#[_,(a9 (ct (dp y M g.mono cd (aj (dp d t g.mono cd (aj (dE (aa 0)) (aj (dE (aa 0)) (aj (dp r R g.mono cd (aj (dE (aa 0)) (aj (dE (aa 0)) (aj (dE (aa 0)) ay)))) ay)))) ay)))),4]
 ac_rfl
 let#[x,v,A,s,2,D,O,o1,n,q]:=h;let#[p,m,o,Z]:=D.lets;let B:=O.lf;let c:A.rs.Z<=40:=by rw[D.fA.len];show-O.dy
 let fl:=o1.run O D.fA.ok n;show#[1,x,a_,A.ah,_,1,D.ins,a.cl,a.nn,7,x,a_,A.ah,_,1,D.ins,a.cl,a.nl,2,#[1,x,a_,A.ah,_,1,D.ins,a.cl,a.nn,7,x,a_,A.ah,_,1,D.ins,a.cl,a.nl,7,x,a_,A.ah,_,1,D.ins,a.cl,a.gH,2,A.n,A.l,A.y,A.t,A.bb,A.bh,s.hs,A.rs,p,s.ds,jb s.bH,s.bN,0,2,m,o,D.fF,O.g,D.fA,O.bH.tab,o1,n,λl T V nl b N G=>?_]];show#[A.n,A.bb,A.bh,A.l,l,A.rs,p,V,s.bN,s.hs,s.ds,_,1,D.fF.fo.same b,D.fA.same b,c,b _ _ m,o.same b,9,N,G,.inr fl.st,fl.c0,(by unfold Fv;rw[bQ]),fl.ne,λU z Y I k=>?_];rw[fl.hm]at k;show#[z,1,aM.of k,by unfold JH;rwa[bQ],fl.hn,λL J=>q L (b.trans (I.trans J))]
structure sO(b:ku):Prop where
 t:b.1<10 ^ 10
 r:b.2.1<10 ^ 10
 n:∀n∈b.2.2,n<10 ^ 10
 ne:b.2.2≠[]
def anj(h:QO (S p) (S [58])=jx):∃q,p=q++[58]:=by
 unfold QO at h;rw[cJ,Of]at h;let#[a,b]:=h;let a:0+1<=(S p).Z:=j2 a;rw[eY]at a;let c:p≠[]:=λz=>by rw[z]at a;simp at a
 show#[p.dropLast,4];let e:=ahT c;let b:aie 1 (List.drop ((S p).Z-1) p)=[58]:=by simpa[eY]using b
 let d:p.drop (p.Z-1)=[p.getLast c]:=by have:=JQ (l₁:=p.dropLast) (l₂:=[p.getLast c]);rwa[e,ah6]at this
 rw[eY,d]at b;have:p.getLast c=58:=by simpa using b
 rw[this]at e;show-e.J
end
def Ik{c:ba}(a:pO (S l) (S [32])=c.map S){b:ku}(d:b.2.2≠[])(e:l=iD b):c=sj b:=by rw[e,ajP d]at a;have:=gF (Ó λw:Str=>w.cps.G) a;rw[hp,hp]at this;exact((ET _).symm.trans this.J).trans (ET _)
theorem ù{H:af}:∀(vs:aL)(b:ba),vs.Z=b.Z->(∀(i:Nat)(v:al.V),vs[i]?=ja v->∃m,m<10 ^ 10/\b[i]?=ja (b_ m)/\v=.int (m:Int))->∃a:List Nat,vs=tR a/\b=a.map b_/\∀n∈a,n<10 ^ 10
 |[],[],_,_=>#[[],2,2,λ_ h=>nomatch h]
 |v::vs,q::b,e,h=>by
  let#[m,g,k,2]:=h 0 v rfl;cases k;let#[a,d,f,l]:=ù (H:=H) vs b (rG e) λi u o=>h (i+1) u o;show#[m::a,by rw[d];rfl,by rw[f];rfl,λn c=>by
   rcases dQ.mp c with rfl|c
   .exact g
   show-l n c]
 |[],_::_,e,_=>by cases e
 |_::_,[],e,_=>by cases e
section
variable{P:cx}{w:b0}{K:aI}{mg:b6}{base:Heap}
def aax(c:Addr):fu:=λvs H Q E=>∃l:List Nat,vs=[.str (S l)]/\l.Z<=50000/\(∀b,sO b->l=iD b->∀(a:Addr)(H':af),av H H'->rn H' a b->Q (.ref a) H')/\((∀b,sO b->l≠iD b)->∀H',av H H'->E (.ref c) jp H')
def apq{f:Addr}(F:b1 K "read_bag" "read_bag" NI f fd)(B:fc mg)(Y8:oK rp fy nt bm)(C':Exc K mg "NoText" lb bm fy)(wX:bO K mg "read_number" NJ iN f1 cg)(Xc:-aA (dn P w) 2 f1 cg iN (ű lb)):-aA (dn P w) 3 f fd k_ (aax lb):=by
 show-iH F Rx (λcdv A outer s H vs Q E ao h=>?_);let#[l,2,X,q,Z]:=h;show#[_,(a3 (dg 1 Rx.aC (kV yM Ģ Ĥ OJ (aa 0) (aj cF ay)))
  (a3 (eu (lS.pt (x2 (gs vG (d4 jC B.len iT (aj (aa 1) ay)) bt (e9 _)) (xS (jF (jE (kV yM PySem.F.slot_str_endswith PySem.F.type_str_endswith al3 (ck e4 (aa 1) bt) (aj cF ay))))))) (a9 (oZ Y8 C' rfl (aj cF ay))) eH)
  (a3 (dg 2 Rx.aC (iP W9 B.tuple Du (aj (P5 (N':=iN) (cs:=[jp]) rfl rfl (hF (z2 Pf (aa 1) (Ac bt) Ab)) rfl qL rfl qL (hv (λp aw=>bk aw (ee))) rfl
   (.own .nil)
   (λC s3 aK bP de=>#[(ed 0 (by show(iN:bY).Nodup;decide+kernel)),iQ,(dp Xc wX ao.mono ON (aj (aa 0) ay))])) ay)))
  (a9 (ct (qW (aj (dp Xc wX ao.mono jn (aj (ck e4 (aa 1) bt) ay)) (aj (dp Xc wX ao.mono jn (aj (z2 Ń (ck e4 (aa 1) bt) Ab (Ac (AO Au bt))) ay)) (aj (aa 2) ay))))))))),4]
 let vz:dH " "=S [32]:=by left
 let q3:dH ":"=S [58]:=by left
 rw[vz,q3];let#[d,I,F0]:=ς l [32] qc;let#[ig,gb]:=Yw [32] qc d;rw[F0]at ig gb;show#[1,2,3,2,(by rw[eY];show-D' X),λp np=>?_];rw[I];let lw:((d.map S).map V.str).Z=d.Z:=by rw[bQ,bQ]
 let L:=b7 (o:=.lst ((d.map S).map V.str)) np;let Y:upd H p (.lst ((d.map S).map V.str)) p=ja (.lst ((d.map S).map V.str)):=aN;generalize upd H p (.lst ((d.map S).map V.str))=H1 at L Y⊢;let Sh:∀{i:Nat}{x:bg},d[i]?=ja x->((d.map S).map V.str)[i]?=ja (.str (S x)):=λ{i x}e=>by rw[ea,ea,e];rfl
 show#[1,p,1,.inl (aM.of Y),3,1,4];rw[lw];by_cases aV:d.Z<3
 case pos=>
  show-ey (cQ jQ) (ey rfl #[by show 1<=sizeLine;decide,Z (λb ok e=>?_) H1 L]);have:=gF wc (Ik I ok.ne e);unfold sj at this;rw[e5,e5,bQ]at this;have:=Be.mpr ok.ne
  lia
 show-fv (dJ jQ) ?_;obtain⟨Ni,G⟩:∃x,d[0]?=ja x:=#[_,ew jQ]
 obtain⟨fM,g⟩:∃x,d[1]?=ja x:=#[_,ew jQ]
 show#[1,p,_,3,aM.of Y,jV (j:=1) (Sh g),2,3,1,4];cases gj:QO (S fM) (S [58])with
 |false=>
  refine ey rfl #[by show 1<=sizeLine;decide,Z (λb ok e=>?_) H1 L];let z:=Ik I ok.ne e;rw[z]at g;cases g;have:=aBf (S (b_ b.2.1)) (S [58]);rw[q',gj]at this;cases this
 |true=>
 let#[O,2]:=anj gj;show-gV ?_;dsimp only[tV,h4,t5,pq,js];let aue:rh ((d.map S).map V.str) (ja 2) jp=(d.drop 2).map λx=>V.str (S x):=by
  unfold rh;let f2:fe.dS ((d.map S).map V.str).length 0 (ja ((2:Nat):Int))=min 2 ((d.map S).map V.str).Z:=fe.NC _ 0 2;let cV:fe.dS ((d.map S).map V.str).length ((d.map S).map V.str).length jp=((d.map S).map V.str).Z:=rfl;let f4:min 2 ((d.map S).map V.str).Z=2:=by rw[lw];lia
  rw[show(ja (2:Int))=ja ((2:Nat):Int)from rfl,f2,cV,f4,lw,Ú (by rw[yz,lw];lia),hp,List.map_drop];rfl
 let lc:((d.drop 2).map λx=>V.str (S x)).Z=d.Z-2:=by rw[bQ,yz]
 refine ρ (K:=K) (Hs:=H1) (F:=λi v H'=>∃m,m<10 ^ 10/\(d.drop 2)[i]?=ja (b_ m)/\v=.int (m:Int)) (xs:=(d.drop 2).map λx=>V.str (S x)) (rest:=[]) (λR h=>#[5,p,1,aM.of Y,λl nl=>#[l,2,#[_,aM.of aN],by rw[aue];show-h l nl]]) rfl (by rw[lc];have:=D' X;show _<sizeLine;lia) (λi v N aK _ h=>h) (λi v N D ys zs _ h=>h) (λi v N R ev ax k=>?_) (λD N vs h6 a8 lv T lI=>?_)
 .rw[ea]at ev;let#[x,U,2]:=hN.mp ev;let aq:x∈d:=Ö (eX U);show#[1,x,2,eh (gb x aq) X,λm hm e H' s'=>k _ H' s' #[m,hm,by rw[U,e],2],λno H' s'=>Z (λb ok e=>?_) H' (L.trans (ax.trans s'))];let z:=Ik I ok.ne e;rw[z]at U;unfold sj at U;let hm:=eX U;let#[n,hn,2]:=cD.mp (show x∈b.2.2.map b_ from hm);exact no n (ok.n n hn) rfl
 rw[lc]at lv;let#[y,2,auM,zr]:=ù (H:=N) vs (d.drop 2) (by rw[lv,yz]) T;show#[D,1,.inl #[aM.of a8,λc mK=>?_]];let s3:=b7 (o:=.tup (tR y)) mK;let M:upd N c (.tup (tR y)) c=ja (.tup (tR y)):=aN;generalize upd N c (.tup (tR y))=aK at s3 M⊢;let fB:=lI.trans s3;let GB:=fB _ _ Y;show#[1,p,_,3,aM.of GB,jV (j:=0) (Sh G),Ni,2,eh (gb Ni (eX G)) X,λm0 awC auK c9 u=>?_,λno c9 u=>Z (λb ok e=>?_) c9 (L.trans (fB.trans u))]
 rotate_left
 .let z:=Ik I ok.ne e;rw[z]at G;cases G;exact no _ ok.t rfl
 show#[1,p,_,3,aM.of (u _ _ GB),jV (j:=1) (Sh g),4];let dX:=gb _ (eX g);show#[5,1,(by rw[eY];have:=D' X;lia),4];rw[show(-(1:Int))=-1 from rfl,akZ];rw[dT]at dX;show#[O,2,9,λe2 awD auL bo c2=>#[1,sz_,λt eT=>?_],λno bo c2=>Z (λb ok e=>?_) bo (L.trans (fB.trans (u.trans c2)))]
 rotate_left
 .let z:=Ik I ok.ne e;rw[z]at g;have:b_ b.2.1++[58]=O++[58]:=gN g;show-no _ ok.r (List.append_cancel_right this).symm
 let fC:=b7 (o:=.tup [V.int (m0:Int),V.int (e2:Int),V.ref c]) eT;let J:d=b_ m0::(b_ e2++[58])::y.map b_:=by
  rw[<-auK,<-auL,<-auM];cases d with
  |nil=>cases G
  |cons a r=>
   cases r with
   |nil=>cases g
   |cons bb r=>
    cases G;cases g;rfl
 let nn:y≠[]:=λz=>by rw[J,z]at aV;simp at aV
 show-q (m0,e2,y) #[awC,awD,zr,nn] ?_ t _ (L.trans (fB.trans (u.trans (c2.trans fC)))) #[c,aN,fC _ _ (c2 _ _ (u _ _ M))];rw[HG (b:=(m0,e2,y)) nn,<-F0,J];rfl
theorem Ä:∀(vs:aL)(d:ba),vs.Z=d.Z->(∀(i:Nat)(v:al.V),vs[i]?=ja v->∃a b,v=V.ref a/\d[i]?=ja (iD b)/\sO b/\rn H a b)->∃(f:b5)(c:List ku),vs=bw f/\d=c.map iD/\(∀b∈c,sO b)/\b9 (rn H) f c
 |[],[],_,_=>#[[],[],2,2,(λ_ h=>nomatch h),.nil]
 |v::vs,q::d,e,h=>by
  let#[a,b,2,o,m,p]:=h 0 v rfl;cases o;let#[f,c,k,l,r,t]:=Ä vs d (rG e) λi u y=>h (i+1) u y;show#[a::f,b::c,by rw[k];rfl,by rw[l];rfl,λn g=>by
   rcases dQ.mp g with rfl|g
   .exact m
   show-r n g,.cons p t]
 |[],_::_,e,_=>by cases e
 |_::_,[],e,_=>by cases e
def als{c:ba}(d:pO (S l) (S [59,32])=c.map S){a:List ku}(g:a≠[])(ok:∀b∈a,sO b)(e:l=nw a):c=a.map iD:=by rw[e,ahw g λb f=>(ok b f).ne]at d;have:=gF (Ó λw:Str=>w.cps.G) d;rw[hp,hp (l:=c)]at this;exact((ET _).symm.trans this.J).trans (ET _)
def aay(d:Addr):fu:=λvs H Q E=>∃l:List Nat,vs=[.str (S l)]/\l.Z<=50000/\(∀a,(∀b∈a,sO b)->l=nw a->∀(p:Addr)(H':af)(c:b5),H p=jp->av H H'->H' p=ja (.lst (bw c))->b9 (rn H') c a->Q (.ref p) H')/\((∀a,(∀b∈a,sO b)->l≠nw a)->∀H',av H H'->E (.ref d) jp H')
def apr{f:Addr}(F:b1 K "read_plan" "read_plan" NK f fd)(Z:bO K mg "read_bag" NI k_ f1 cg)(t:-aA (dn P w) 3 f1 cg k_ (aax lb)):-aA (dn P w) 4 f fd k_ (aay lb):=by
 show-iH F asU (λcdv A N s H vs Q E ao h=>?_);let#[l,2,L,q,vv]:=h;show#[_,(a3 (eu (gs q7 (aa 0) cF (e9 _)) (a9 (ct (gc ay))) eH)
  (a9 (ct (P5 (N':=["part"]) (cs:=[jp]) rfl rfl (hF (kV yM Ģ Ĥ OJ (aa 0) (aj cF ay))) rfl qL rfl qL (hv (λp aw=>bk aw (ee))) rfl
   (.own .nil)
   (λC X aK bP de=>#[(ed 0 (by show(["part"]:bY).Nodup;decide+kernel)),iQ,(dp t Z ao.mono ON (aj (aa 0) ay))]))))),4]
 let vz:dH "; "=S [59,32]:=by left
 let s0:dH ""=S []:=by left
 rw[vz,s0];by_cases r:l=[]
 .subst r;show#[1,7,ey (cQ rfl) #[sz_,λp T=>q [] (λ_ h=>nomatch h) rfl p _ [] T (b7 T) aN .nil]]
 show#[1,7,fv (dJ λz=>r (kX (V.str.inj z))) ?_];let#[g,Y,u]:=ς l [59,32] qc;let#[ig,M]:=Yw [59,32] qc g;rw[u]at ig M;let nb:∀d,l=nw d->d≠[]:=λd e z=>r (by rw[e,z];rfl);let U:(g.map λx=>V.str (S x)).Z=g.Z:=bQ _;dsimp only[tV,t4];refine ρ (K:=K) (Hs:=H) (F:=λi v H'=>∃a b,v=.ref a/\g[i]?=ja (iD b)/\sO b/\rn H' a b) (xs:=g.map λx=>V.str (S x)) (rest:=[]) (λR h=>#[1,2,3,2,(by rw[eY];show-D' L),λl nl=>#[l,2,#[_,aM.of aN],by rw[Y,hp];show-h l nl]]) rfl (by rw[U];have:=D' L;show _<sizeLine;lia) ?_ ?_ (λi v n R I ax k=>?_) (λD n vs h6 a8 O m lI=>?_)
 .rintro i v n aK X ⟨a,b,rfl,e,o,h⟩;show#[a,b,2,e,o,h.same X]
 .rintro i v n D ys zs a8 ⟨a,b,rfl,e,o,c,B,G⟩;show#[a,b,2,e,o,c,by rw[aJ (al.f5 B a8 (by intro z;cases z))];show-B,by rw[aJ (al.f5 G a8 (by intro z;cases z))];show-G]
 .rw[ea]at I;let#[x,J,2]:=hN.mp I;let y:=eX J;show#[1,x,2,eh (M x y) L,λb ok e a H' j aB=>k _ H' j #[a,b,2,by rw[J,e],ok,aB],λno H' j=>vv (λd ok e=>?_) H' (ax.trans j)];rw[als Y (nb d e) ok e]at y;let#[b,dF,2]:=cD.mp y;exact no b (ok b dF) rfl
 rw[U]at O;let#[as,d,2,aP,cz,e']:=Ä vs g O m;show-q d cz (by rw[<-u,aP];rfl) D n as h6 lI a8 e'
abbrev RV:Stmt:=top 107
def aaz:cp ["desk","values","plan","turns","error"] f7 (bW RV):=({})
inductive aaA(lb:Addr)(vs:aL)(H:af)(Q:aO)(E:bF):Prop where
 |mk(x v:Addr)(l:bg)(_:vs=[.ref x,.ref v])(_:H v=ja (.lst [.str (S l)]))(_:l.Z<=50000)(_:∀bs,(∀b∈bs,sO b)->l≠nw bs)(_:∀H',av H H'->E (.ref lb) jp H')
def aps{f:Addr}(F:b1 K "tell_check" "tell_check" RV f fd)(b:bO K mg "read_plan" NK k_ f1 i)(a:-aA (dn P w) 4 f1 i k_ (aay lb)):
  -aA (dn P w) 7 f fd f7 (aaA lb):=by
 show-iH F aaz (λ_ m _ n H vs Q E d h=>?_);show#[_,(a3 (dg 2 aaz.aC (dp a b d.mono jn (aj (ck e4 (aa 1) bt) ay)))
  zP),4]
 ac_rfl
 let#[x,v,l,2,c,k,no,q]:=h;show#[1,v,_,3,aM.of c,2,l,2,k,λg ok e=>bk e (no g ok),λ_=>q]
end
end dP
namespace bX
open PySem PySem.Spec PyProof.Rows al
theorem ZT:∀{c:List Bool}{a:en},dM (c.map V.aX) a->a=c.map Fz
 |[],_,.nil=>rfl
 |b::c,_,.cons h r=>by cases h;rw[ZT r];rfl
def aba:a5->Bool
 |.bool b=>b
 |_=>jA
section
variable{X:bA}
inductive ank(K:aI)(x:al.V)(vs:aL)(H:af)(Q:aO):Prop where
 |mk(l:Addr)(bs:List Bool)(k:Nat)(_:x=.ref l)(_:vs=[.aX jx])(_:aM K H l (bs.map V.aX))(_:bs.Z<=100)(_:bs[k]?=ja jx)(_:∀j,j<k->bs[j]?=ja jA)(_:Q (.int (k:Int)) H)
def akl:Bt X "list.index" (ank X.K):=by
 intro g s U H x vs v G Q I w N h;let#[l,A,k,2,2,t,F,m,D,q]:=h;cases w;let#[u,2,e3]:=N.one;cases e3;let#[C,r,p,_]:=I.list t;let e:=ZT r;subst e;let#[#[i,B,d,K],aY,c,n,f]:=id p.isList;simp only at c f;subst c f;let#[L,o]:=gM.mp m;refine FO ajv #[_,aY,2] PySem.F.entry_list_index (PySem.F.args_list_index_2 _ _)
  (aA6 l _ n B K (.bool jx) aba k (by simpa using L) jQ ?_ ?_) #[aY,λy V=>?_,#[.int (k:Int),H,I.tok _,#[1],q]]
 .simp only[ah3,ah2];show-o
 .intro j E a;simp only[ah3,ah2];let#[_,z]:=gM.mp (D j a);show-z
 let#[b,1]:=cD.mp (by simpa using V:y∈A.map Fz);let e:(b==jx)=aba (.bool b):=by cases b<;>rfl
 rw[<-e];show-aA5 b jx
end
end bX
namespace dP
open PySem al bX cE
def x':List Str:=["net","house","road","letter","bag","way","goals","cut","text","row","day"]
structure EO(K:aI)(kM:Addr)(cs:b5)(C:Addr)(k:Nat):Prop where
 iU:qh K C
 sub:o' K C kM=jx
 re:lU K (.ref C) (.ref kM)=ja jx
 YA:lU K (.ref C) (.type "ValueError")=ja jx
 lt:k<11
 at_:∀(j:Nat)(R:Addr),cs[j]?=ja R->lU K (.ref C) (.ref R)=ja (decide (j=k))
def r8(k:Nat)(a:bg):List al.V:=(a.map λj=>decide (j=k)).map V.aX
def abE:al.V->al.V
 |.aX b=>.int (if b=jx then 1 else 0)
 |v=>v
def K4(k:Nat):List Int:=[0,1,2,3,4,5,6,7,8,9,10].map λj:Nat=>if j=k then 1 else 0
def am6(k:Nat)(h:k<11):(r8 k [0,1,2,3,4,5,6,7,8,9,10]).map abE=(K4 k).map V.int/\(K4 k).sum=1/\∀x∈K4 k,(0:Int)<=x:=by
 show#[4,4,4]
 .unfold r8 K4;rw[hp,hp,hp];show-JV λj _=>?_;show V.int (if decide (j=k)=jx then 1 else 0)=V.int (if j=k then 1 else 0);by_cases z:j=k
  .rw[b2 z,b2 (cQ z)]
  rw[bL z,bL (by rw[dJ z];decide)]
 .revert k;decide
 intro x a;let#[j,1]:=cD.mp a;show 0<=if j=k then(1:Int)else 0
 split<;>decide
def apH(k:Nat)(h:k<11):([0,1,2,3,4,5,6,7,8,9,10].map λj=>decide (j=k))[k]?=ja jx/\∀i,i<k->([0,1,2,3,4,5,6,7,8,9,10].map λj=>decide (j=k))[i]?=ja jA:=by revert k;decide
section
variable{P:cx}{w:b0}{K:aI}{mg:b6}{base:Heap}
abbrev ND:Stmt:=top 124
def BG:cp ["_law_error","_law_kinds","_law_words"] E1 (bW ND):=({})
inductive abb(K:aI)(kM:Addr)(cs:b5)(vs:aL)(H:af)(Q:aO)(E:bF):Prop where
 |mk(aH C:Addr)(k:Nat)(_:vs=[.ref aH])(_:H aH=ja (yt aH C))(_:EO K kM cs C k)(_:∀H' y,x'[k]?=ja y->av H H'->Q (.str y) H')
seal fI a' i7 ie
def aqX{no f:Addr}(F:b1 K "_law_kind" "_law_kind" ND f fd)(B:fc mg)(n5:mg "RoadError"=ja (.ref kM))(Dq:mg "NoNet"=ja (.ref nn))(CY:mg "NoHouse"=ja (.ref xo))(C8:mg "NoRoad"=ja (.ref iq))(qC:mg "NoLetter"=ja (.ref nl))(HL:mg "BadBag"=ja (.ref kh))(qP:mg "NoWay"=ja (.ref kC))(GZ:mg "ManyGoals"=ja (.ref I))(HM:mg "CutOff"=ja (.ref co))(Dj:mg "NoText"=ja (.ref eT))(Dr:mg "NoRow"=ja (.ref no))(Ds:mg "NoDay"=ja (.ref aC)):-aA a6 1 f fd E1 (abb K kM [nn,xo,iq,nl,kh,kC,I,co,eT,no,aC]):=by
 show-F.ok BG (λcdv A O s H vs Q E ao h=>?_);show#[_,(a3 (eu (lS.pt (x2 (jF (jE (d4 pU B.isinstance kg (aj (aa 0) (aj (kU n5) ay))))) (xS (jF (jE (d4 pU B.isinstance kg (aj (aa 0) (aj (tL qF B.ValueError afU) ay)))))))) (a9 (ct cF)) eH)
  (a3 (dg 1 BG.aC (gc (aj (d4 pU B.isinstance kg (aj (aa 0) (aj (kU Dq) ay))) (aj (d4 pU B.isinstance kg (aj (aa 0) (aj (kU CY) ay))) (aj (d4 pU B.isinstance kg (aj (aa 0) (aj (kU C8) ay))) ay)))))
  (a3 (dg 1 BG.aC (c5 oo (aa 1) (gc (aj (d4 pU B.isinstance kg (aj (aa 0) (aj (kU qC) ay))) (aj (d4 pU B.isinstance kg (aj (aa 0) (aj (kU HL) ay))) (aj (d4 pU B.isinstance kg (aj (aa 0) (aj (kU qP) ay))) ay))))))
  (a3 (dg 1 BG.aC (c5 oo (aa 1) (gc (aj (d4 pU B.isinstance kg (aj (aa 0) (aj (kU GZ) ay))) (aj (d4 pU B.isinstance kg (aj (aa 0) (aj (kU HM) ay))) (aj (d4 pU B.isinstance kg (aj (aa 0) (aj (kU Dj) ay))) ay))))))
  (a3 (dg 1 BG.aC (c5 oo (aa 1) (gc (aj (d4 pU B.isinstance kg (aj (aa 0) (aj (kU Dr) ay))) (aj (d4 pU B.isinstance kg (aj (aa 0) (aj (kU Ds) ay))) ay)))))
  (a3 (dg 2 BG.aC (gc (aj cF (aj cF (aj cF (aj cF (aj cF (aj cF (aj cF (aj cF (aj cF (aj cF (aj cF ay)))))))))))))
  (a3 (eu (gs AP (d4 (akK rfl) B.sum aou (aj (j0 (N':=["_law_one"]) (cs:=[jp]) rfl (hF (aa 1)) rfl qL rfl qL (hv (λp l=>bk l (ee))) rfl
   (.own .nil)
   (λC u T bP de=>#[(ed 0 (by show(["_law_one"]:bY).Nodup;decide+kernel)),iQ,(iP ZF B.int I6 (aj (aa 0) ay))])) ay)) bt (e9 _)) (a9 (ct cF)) eH)
  (a9 (ct (ck e4 (aa 2) (kV rH ajv PySem.F.type_list_index akl (aa 1) (aj nv ay)))))))))))),4]
 ac_rfl
 show-cut λg d=>?_;let#[c,C,k,2,r,D,q]:=h;show#[1,c,C,_,r,D.iU,.inl _ rfl D.re,1,gV #[1,c,C,_,r,D.iU,.inr _ rfl D.YA,1,gV ?_]];let n:=λ{H'}(s:av H H')=>s _ _ r;show-jd g d λg d=>?_;show#[1,c,C,_,r,D.iU,.inl _ rfl (D.at_ 0 _ rfl),1,c,C,_,r,D.iU,.inl _ rfl (D.at_ 1 _ rfl),1,c,C,_,r,D.iU,.inl _ rfl (D.at_ 2 _ rfl),sJ λdX H1 N(X:H1 dX=ja (.lst (r8 k [0,1,2])))=>?_];show-jd g d λg d=>?_;show#[5,c,C,_,n N,D.iU,.inl _ rfl (D.at_ 3 _ rfl),1,c,C,_,n N,D.iU,.inl _ rfl (D.at_ 4 _ rfl),1,c,C,_,n N,D.iU,.inl _ rfl (D.at_ 5 _ rfl),sJ λp H' a(l:H' p=ja (.lst (r8 k [3,4,5])))=>vY (a _ _ X) l λdr z m(Y:z dr=ja (.lst (r8 k [0,1,2,3,4,5])))=>?_];let e:=N.trans (a.trans m);clear X l a m H';show-jd g d λg d=>?_;show#[5,c,C,_,n e,D.iU,.inl _ rfl (D.at_ 6 _ rfl),1,c,C,_,n e,D.iU,.inl _ rfl (D.at_ 7 _ rfl),1,c,C,_,n e,D.iU,.inl _ rfl (D.at_ 8 _ rfl),sJ λp H' a(l:H' p=ja (.lst (r8 k [6,7,8])))=>vY (a _ _ Y) l λou T m(U:T ou=ja (.lst (r8 k [0,1,2,3,4,5,6,7,8])))=>?_];let u:=e.trans (a.trans m);clear Y l a m H';show-jd g d λg d=>?_;show#[5,c,C,_,n u,D.iU,.inl _ rfl (D.at_ 9 _ rfl),1,c,C,_,n u,D.iU,.inl _ rfl (D.at_ 10 _ rfl),sJ λp H' a(l:H' p=ja (.lst (r8 k [9,10])))=>vY (a _ _ U) l λx c9 m(cT:c9 x=ja (.lst (r8 k [0,1,2,3,4,5,6,7,8,9,10])))=>?_];let b4:=u.trans (a.trans m);clear U l a m H';show-jd g d λg d=>?_;show-sJ λlw Z a(hw:Z lw=ja (.lst (x'.map V.str)))=>?_;let c2:=b4.trans a;let t:=a _ _ cT;clear cT a;show-jd g d λg d=>?_;let o:=D.lt;dsimp only[h4,Kz,QE,pv,pq,js];refine DM (J:=j9 K x) (H1:=Z) (xs:=r8 k [0,1,2,3,4,5,6,7,8,9,10]) (rest:=[]) (λR h=>#[1,x,2,#[_,aM.of t],h]) rfl (oj (aM.of t)) (e8 (by show 11<=1000;decide)) abE (λi v z R M ax dm=>?_) (λG g_ aef hz L=>?_)
 .unfold r8 at M;rw[ea]at M;let#[b,1]:=hN.mp M;show#[1,.inr #[b,2,dm z (av.refl _)]]
 let#[eo,es,gj]:=am6 k o;rw[eo]at hz;show#[G,1,aM.of hz,gj,(by rw[es];decide),4];rw[es];show#[7,fv qc ?_];subst d;obtain⟨y,dk⟩:∃y,x'[k]?=ja y:=#[_,ew (show k<x'.Z from o)]
 let#[ig,gb]:=apH k o;show#[5,.inl #[2,_,aM.of (L _ _ t)],x,_,k,2,2,aM.of (L _ _ t),(by show 11<=100;decide),ig,gb,lw,_,3,aM.of (L _ _ hw),jV (j:=k) (by rw[ea,dk];rfl),q g_ y dk (c2.trans L)]
unseal fI a' i7 ie
def M'(sp:fu):fu:=λvs H Q E=>sp vs H Q λa _ H'=>E a jp H'
theorem aA.M'{k:Nat}{f:Addr}(F:-aA (iv P w) k f fd i sp):-aA (dn P w) k f fd i (M' sp):=
 #[λvs H Q E h=>F.len vs H Q _ h,λA a s H args p vs Q E m n l g o=>by
  show-qy (F.run A a s H args p vs Q _ m n l g o) λr y q=>?_;cases r with
  |ok v=>cases v<;>show-q
  |error e=>
   let#[d,b,c,H',B,t,2,T,_,q]:=q;show#[d,b,c,H',B,2,T,q]]
abbrev HY:Stmt:=top 125
def BH:cp ["_law_desk","_law_row","_law_error","_law_found","e"] yF (bW HY):=({})
inductive abc(K:aI)(a_ kM:Addr)(cs:b5)(sp:fu)(vs:aL)(H:af)(Q:aO)(E:bF):Prop where
 |mk(x ah eR dl bZ:Addr)(dd:al.V)(row:Str)(_:vs=[.ref x,.str row])(_:H x=ja (.ins a_ ah (jJ eR dl bZ dd)))
   (a4:∀(eM:aO)(dZ:bF),(∀y H',(∀l rz,H' l=jp->av H' rz->rz l=ja (.lst [.aX jx,.str y])->Q (.ref l) rz)->eM (.str y) H')->(∀C k y o H',EO K kM cs C k->x'[k]?=ja y->(∀l rz,H' l=jp->av H' rz->rz l=ja (.lst [.str y])->Q (.ref l) rz)->dZ (.ref C) o H')->sp [.ref x,.str row] H eM dZ)
def aqY{f:Addr}(F:b1 K "_law_said" "_law_said" HY f fd)(B:fc mg)(O:ef K a_)(R:mg "RoadError"=ja (.ref kM))(g:o' K kM kM=jx)(L:cR K a_ "say" "Desk.say" FE uk f1 G)(b:-aA (dn P w) 9 f1 G uk (M' sp))(N:bO K mg "_law_kind" ND E1 f2 I)(c:-aA a6 1 f2 I E1 (abb K kM cs)):-aA a6 10 f fd yF (abc K a_ kM cs sp):=by
 show-F.ok BH (λu A m s H vs Q E p h=>?_);show#[_,(a3 (dg 2 BH.aC kn)
  (a3 (dg 3 BH.aC cF)
  (a3 (anZ (i:=4) rfl rfl (aku (amF (i:=3) BH.aC rfl (hr rfl) (amm (aa 0) O L.d5 b p.mono L.bd (aj (aa 1) ay)))) BH.aC rfl rfl rfl R g (λn=>(a9 (dg 2 BH.aC (aa 4)))))
  (a3 (eu (gs vy (aa 2) kn (e9 _)) (a9 (ct (gc (aj (d4 vf B.isinstance kg (aj (aa 3) (aj (tL qF B.str o_) ay))) (aj (aa 3) ay))))) eH)
  (a9 (ct (gc (aj (dp c N p.mono cd (aj (aa 2) ay)) ay)))))))),4]
 ac_rfl
 let#[x,e,X,dl,bZ,U,row,2,j,h]:=h;show#[1,x,e,1,j,7,h _ _ (λy V q=>?_) (λC k y o V D J q=>?_)]
 .show#[1,7,ey (cQ rfl) ?_];show#[1,6,6,1,#[2,.str _,x3 K (show ri "str" "str"=ja jx by left)],1,sz_,λl a=>q l _ a (b7 a) aN]
 show#[C,2,D.sub,λn t=>#[1,4]];show#[1,7,fv (dJ (by intro z;cases z)) #[1,n,C,k,2,aN,D,λT M d r=>#[sz_,λl a=>?_]]];obtain rfl:M=y:=gN (d.symm.trans J);show-q l _ (gQ ((b7 t).trans r) a) ((b7 t).trans (r.trans (b7 a))) aN
def qa(n pl y dt a b:Addr)(c:Int):List (Str×al.V):=[("net",.ref n),("present",.int c),("posted",.ref pl),("ways",.ref y),("shut_roads",.ref dt),("walk",.ref a),("sent",.ref b)]
end
structure sV(K:aI)(C:Addr):Prop where
 cl:ef K C
 nn:cK K (.ref C) "net"=ja jp
 np:cK K (.ref C) "present"=ja jp
 no:cK K (.ref C) "posted"=ja jp
 gH:cK K (.ref C) "ways"=ja jp
 xo:cK K (.ref C) "shut_roads"=ja jp
 kC:cK K (.ref C) "walk"=ja jp
 ns:cK K (.ref C) "sent"=ja jp
set_option genInjectivity false in
structure du where
 (ah n pl y dt c0 kk c4 g bz t bb bh:Addr)
 (rs kD ls mr:b5)
def du.dz(A:du)(x:Addr):List Addr:=x::A.pl::A.y::A.t::A.dt::A.c0::A.g::A.bz::A.c4::A.ls
structure atF(A:du)(x:Addr):Prop where
 hh:x≠A.pl
 lN:x≠A.y
 vL:x≠A.t
 tW:x≠A.dt
 D0:x≠A.c0
 IJ:x≠A.g
 vM:x≠A.bz
 AG:x≠A.c4
 sH:x∉A.ls
 fM:A.pl≠A.y
 fz:A.pl≠A.t
 lG:A.pl≠A.dt
 hH:A.pl≠A.c0
 sg:A.pl≠A.g
 Di:A.pl≠A.bz
 jv:A.pl≠A.c4
 lH:A.pl∉A.ls
 mT:A.y≠A.t
 vS:A.y≠A.dt
 AH:A.y≠A.c0
 Y3:A.y≠A.g
 x1:A.y≠A.bz
 AI:A.y≠A.c4
 Y4:A.y∉A.ls
 t1:A.t≠A.dt
 fq:A.t≠A.c0
 t3:A.t≠A.g
 DG:A.t≠A.bz
 xJ:A.t≠A.c4
 Aj:A.t∉A.ls
 bV:A.dt≠A.c0
 dj:A.dt≠A.g
 jM:A.dt≠A.bz
 z7:A.dt≠A.c4
 Hw:A.dt∉A.ls
 gA:A.c0≠A.g
 h_:A.c0≠A.bz
 hT:A.c0≠A.c4
 Iy:A.c0∉A.ls
 g1:A.g≠A.bz
 g2:A.g≠A.c4
 g3:A.g∉A.ls
 s1:A.bz≠A.c4
 s2:A.bz∉A.ls
 aG:A.c4∉A.ls
 aC:A.ls.Nodup
def aaB{A:du}(a:(A.dz x).Nodup):atF A x:=by unfold du.dz at a;simp only[jj,dQ,not_or]at a;let#[#[u,E,Q,P,g,n,R,b,I],#[K,N,C,j,J,l,B,D],#[F,T,c,p,U,d,r],#[M,L,O,k,X,f],#[w,y,z,Y,m],#[i,s,q,o],#[V,e,h],#[G,H],t,a]:=a;show#[u,E,Q,P,g,n,R,b,I,K,N,C,j,J,l,B,D,F,T,c,p,U,d,r,M,L,O,k,X,f,w,y,z,Y,m,i,s,q,o,V,e,h,G,H,t,a]
def du.m0{A:du}{x:Addr}:x∈A.dz x:=(.head _)
def du.e2{A:du}:A.pl∈A.dz x:=(.tail _ (.head _))
def du.hc{A:du}:A.y∈A.dz x:=(.tail _ (.tail _ (.head _)))
def du.xj{A:du}:A.t∈A.dz x:=(.tail _ (.tail _ (.tail _ (.head _))))
def du.CN{A:du}:A.dt∈A.dz x:=(.tail _ (.tail _ (.tail _ (.tail _ (.head _)))))
def du.CO{A:du}:A.c0∈A.dz x:=(.tail _ (.tail _ (.tail _ (.tail _ (.tail _ (.head _))))))
def du.CP{A:du}:A.g∈A.dz x:=(.tail _ (.tail _ (.tail _ (.tail _ (.tail _ (.tail _ (.head _)))))))
def du.adJ{A:du}:A.bz∈A.dz x:=(.tail _ (.tail _ (.tail _ (.tail _ (.tail _ (.tail _ (.tail _ (.head _))))))))
def du.VM{A:du}:A.c4∈A.dz x:=(.tail _ (.tail _ (.tail _ (.tail _ (.tail _ (.tail _ (.tail _ (.tail _ (.head _)))))))))
def du.MV{A:du}{b:Addr}(h:b∈A.ls):b∈A.dz x:=(.tail _ (.tail _ (.tail _ (.tail _ (.tail _ (.tail _ (.tail _ (.tail _ (.tail _ h)))))))))
def P8{A:du}{p:Addr->Prop}(k:p x)(d:p A.pl)(f:p A.y)(c:p A.t)(g:p A.dt)(l:p A.c0)(m:p A.g)(o:p A.bz)(r:p A.c4)(n:∀b∈A.ls,p b):∀b∈A.dz x,p b:=by
 intro b a;rcases dQ.mp a with rfl|a
 .exact k
 rcases dQ.mp a with rfl|a
 .exact d
 rcases dQ.mp a with rfl|a
 .exact f
 rcases dQ.mp a with rfl|a
 .exact c
 rcases dQ.mp a with rfl|a
 .exact g
 rcases dQ.mp a with rfl|a
 .exact l
 rcases dQ.mp a with rfl|a
 .exact m
 rcases dQ.mp a with rfl|a
 .exact o
 rcases dQ.mp a with rfl|a
 .exact r
 show-n b a
def ô{A:du}{l a b:Addr}{kD:b5}(h:b∈du.dz {A with pl:=l,kD:=kD,ls:=A.ls++[a]} x):b∈A.dz x\/b=l\/b=a:=by
 let h:b∈x::l::([A.y,A.t,A.dt,A.c0,A.g,A.bz,A.c4]++(A.ls++[a])):=h;rw[<-mX]at h;rcases dQ.mp h with rfl|h
 .exact .inl (.head _)
 rcases dQ.mp h with h|h
 .exact .inr (.inl h)
 rcases iM.mp h with h|h
 .exact .inl (.tail _ (.tail _ h))
 show-.inr (.inr (d2.mp h))
def ahM{A:du}{l d:Addr}{kD:b5}(c:(A.dz x).Nodup)(f:l∉A.dz x)(g:d∉A.dz x)(n:l≠d):(du.dz {A with pl:=l,kD:=kD,ls:=A.ls++[d]} x).Nodup:=by
 show(x::l::([A.y,A.t,A.dt,A.c0,A.g,A.bz,A.c4]++(A.ls++[d]))).Nodup;let c:(x::A.pl::([A.y,A.t,A.dt,A.c0,A.g,A.bz,A.c4]++A.ls)).Nodup:=c;let f:l∉x::A.pl::([A.y,A.t,A.dt,A.c0,A.g,A.bz,A.c4]++A.ls):=f;let g:d∉x::A.pl::([A.y,A.t,A.dt,A.c0,A.g,A.bz,A.c4]++A.ls):=g;rw[<-mX];generalize[A.y,A.t,A.dt,A.c0,A.g,A.bz,A.c4]++A.ls=M at c f g⊢;let#[o,c]:=jj.mp c;let#[p,c]:=jj.mp c;let no:∀a∈M++[d],a∈M\/a=d:=λa k=>(iM.mp k).imp id d2.mp;show-jj.mpr #[λz=>?_,jj.mpr #[λz=>?_,4]]
 .rcases dQ.mp z with z|z
  .exact f (z▸.head _)
  rcases no _ z with z|z
  .exact o (.tail _ z)
  show-g (z▸.head _)
 .rcases no _ z with z|z
  .exact f (.tail _ (.tail _ z))
  show-n z
 show-Bg.mpr #[c,jj.mpr #[ee,pI],λa k b m e=>g (.tail _ (.tail _ (d2.mp m▸e▸k)))]
set_option genInjectivity false in
structure e0 where
 pr:Int
 bN:List nY
 bE:List (List Step)
 q5:List (ib×List Nat)
 kvs:gq
 aeM:List Nat
def azg(l:bg):List (bU×al.V):=l.map λr:Nat=>(lg (r:Int),.aX jx)
def xO(a:mn):List Str:=a.map λd=>d.2.2
structure ha(a7 C CW aD:Addr)(bS H:af)(x:Addr)(A:du)(hs:ba)(ds:cY)(s:e0):Prop where
 cf:av bS H
 fo:ih aD bS A.n A.bb A.bh (dK hs) (bw A.rs)
 fA:gO bS hs A.rs ds
 ins:H x=ja (.ins a7 A.ah (qa A.n A.pl A.y A.dt A.c0 A.c4 s.pr))
 po:H A.pl=ja (.lst (bw A.kD))
 pt:h5 H A.kD (s.bN.map l')
 fF:∃bZ,H A.y=ja (.ins CW bZ (lE A.n A.t))
 DZ:H A.t=ja (.dA s.kvs)
 dt:H A.dt=ja (.cO (azg s.aeM))
 wi:H A.c0=ja (.ins C A.kk (Ep A.n A.g A.bz))
 vI:H A.g=ja (.lst ((xO s.bN).map V.str))
 ws:H A.bz=ja (.lst (bw A.ls))
 vH:b9 (gP H) A.ls s.bE
 c4:H A.c4=ja (.lst (bw A.mr))
 sp:b9 (iZ H) A.mr s.q5
 aC:(A.dz x).Nodup
 fr:∀b∈A.dz x,bS b=jp
structure qo(M Br:b5)(H H':af):Prop where
 keep:∀b o,b∉M->H b=ja o->H' b=ja o
 own:∀b∈Br,b∈M\/H b=jp
def qo.refl(a:av H H'):qo M M H H':=(#[λb o _ e=>a b o e,λ_ h=>.inl h])
def qo.trans(a:qo M j H H')(b:qo j i H' q):qo M i H q:=by
 show#[λc o d e=>b.keep c o (λz=>?_) (a.keep c o d e),λc f=>?_]
 .rcases a.own c z with h|h
  .exact d h
  rw[h]at e;cases e
 rcases b.own c f with h|h
 .exact a.own c h
 by_cases hm:c∈M
 .exact .inl hm
 right;cases e:H c with
 |none=>rfl
 |some o=>rw[a.keep c o hm e]at h;cases h
theorem ha.same{A:du}{s:e0}(D:ha a7 C CW aD e H x A hs ds s)(a:av H H'):ha a7 C CW aD e H' x A hs ds s:=
 let⟨bZ,h⟩:=D.fF
 #[D.cf.trans a,D.fo,D.fA,a _ _ D.ins,a _ _ D.po,D.pt.same a,#[bZ,a _ _ h],a _ _ D.DZ,a _ _ D.dt,a _ _ D.wi,a _ _ D.vI,a _ _ D.ws,HK D.vH a,a _ _ D.c4,b9.ju D.sp λ_ _ h=>h.same a,D.aC,D.fr]
def Zb{H:af}{b:b5}(p:b9 (gP H) b bE){l:Addr}(c:l∈b):∃a,H l=ja (.lst a):=by let#[i,d,f]:=JU c;let#[6,a,e,_]:=b9.get p (gM.mpr #[d,f]);show#[_,e]
theorem ha.live{H:af}{A:du}{s:e0}(D:ha a7 C CW aD i H x A hs ds s){l:Addr}(d:H l=jp):l∉A.dz x:=λa=>by
 let#[bZ,c]:=D.fF;let ok:∀{b:Addr}{o:hX},H b=ja o->b≠l:=λe z=>by rw[z,d]at e;cases e
 exact P8 (p:=λb=>b≠l) (ok D.ins) (ok D.po) (ok c) (ok D.DZ) (ok D.dt) (ok D.wi) (ok D.vI) (ok D.ws) (ok D.c4) (λb h=>let⟨_,e⟩:=Zb D.vH h;ok e) l a rfl
def ha.frame{H H':af}{A:du}{s:e0}(D:ha a7 C CW aD i H x A hs ds s){M:b5}(w:av i H')(k:∀b o,b∉M->H b=ja o->H' b=ja o)(n:∀b∈A.dz x,b∉M)(q:∀b∈M,∀v,H b≠ja (.tup v)):ha a7 C CW aD i H' x A hs ds s:=by
 let a:∀b o,b∈A.dz x->H b=ja o->H' b=ja o:=λb o K e=>k b o (n b K) e;let d:∀b v,H b=ja (.tup v)->H' b=ja (.tup v):=λb v e=>k b _ (λz=>q b z v e) e;let#[bZ,V]:=D.fF;show#[w,D.fo,D.fA,a _ _ du.m0 D.ins,a _ _ du.e2 D.po,b9.ju D.pt λ_ _ e=>d _ _ e,#[bZ,a _ _ du.hc V],a _ _ du.xj D.DZ,a _ _ du.CN D.dt,a _ _ du.CO D.wi,a _ _ du.CP D.vI,a _ _ du.adJ D.ws,4,a _ _ du.VM D.c4,b9.ju D.sp λ_ _⟨c,g,m⟩=>#[c,d _ _ g,d _ _ m],D.aC,D.fr];let go:∀{f:b5}{y:hu},b9 (gP H) f y->(∀l∈f,l∈A.ls)->b9 (gP H') f y:=λ{f y}p=>by
  induction p with
  |nil=>exactλ_=>.nil
  |cons r t j=>
   refineλh=>.cons ?_ (j λl L=>h l (.tail _ L))
   let#[N,g,m]:=r;show#[N,a _ _ (du.MV (h _ (.head _))) g,b9.ju m λ_ _ e=>d _ _ e]
 show-go D.vH λ_ h=>h
def ha.walk{A:du}{s:e0}(D:ha a7 C CW aD e H x A hs ds s):WalkAt C H A.c0 A.n A.g A.bz (xO s.bN) A.ls s.bE:=(#[#[_,D.wi],D.vI,D.ws,D.vH])
def ha.azY{A:du}{s:e0}(D:ha a7 C CW aD e H x A hs ds s):oq CW aD H A.y A.n A.t A.bb A.bh (dK hs) (bw A.rs) s.kvs:=(#[D.fF,D.fo.same D.cf,D.DZ])
section
variable{P:cx}{w:b0}{K:aI}{mg:b6}{base:Heap}
inductive QX(a7 C CW aD:Addr)(vs:aL)(H:af)(Q:aO)(fE:bF):Prop where
 |mk(bS:af)(x:Addr)(A:du)(hs:ba)(ds:cY)(s:e0)(_:vs=[.ref x])(_:ha a7 C CW aD bS H x A hs ds s)(_:Q (.int s.pr) H)
abbrev KY:Stmt:=gT (top 63) 1
def aqZ:cp eg eg (bW KY):=({})
def apI{f:Addr}(F:b1 K "now" "Day.now" KY f fd)(a:sV K a7):-aA a6 1 f fd eg (QX a7 C CW aD):=by
 show-F.ok aqZ (λ_ A _ s H vs Q E b h=>?_);let#[c,x,A,d,ds,s,2,D,q]:=h;show#[_,(a9 (ct (dE (aa 0)))),4]
 ac_rfl
 show#[1,x,a7,6,1,D.ins,a.cl,a.np,2,q]
def Lp(n:Addr):List (Str×al.V):=[("net",.ref n)]
def Lq(n:Addr)(a:Int):List (Str×al.V):=[("net",.ref n),("present",.int a)]
def FT(n:Addr)(a:Int)(pl:Addr):List (Str×al.V):=[("net",.ref n),("present",.int a),("posted",.ref pl)]
def y3(n:Addr)(a:Int)(pl:Addr)(y:Addr):List (Str×al.V):=[("net",.ref n),("present",.int a),("posted",.ref pl),("ways",.ref y)]
def B3(n:Addr)(a:Int)(pl:Addr)(y:Addr)(dt:Addr):List (Str×al.V):=[("net",.ref n),("present",.int a),("posted",.ref pl),("ways",.ref y),("shut_roads",.ref dt)]
def FU(n:Addr)(b:Int)(pl:Addr)(y:Addr)(dt:Addr)(a:Addr):List (Str×al.V):=[("net",.ref n),("present",.int b),("posted",.ref pl),("ways",.ref y),("shut_roads",.ref dt),("walk",.ref a)]
def Wc{H:af}(c:H a=ja o)(d:H b=ja u)(h:o≠u):a≠b:=(λz=>by rw[z,d]at c;show-h (gN c).symm)
inductive QY(a7 C CW aD:Addr)(vs:aL)(H:af)(Q:aO)(fE:bF):Prop where
 |mk(x ah n bb bh:Addr)(hs:ba)(rs:b5)(ds:cY)(pr:Int)(_:vs=[.ref x,.ref n,.int pr])(_:H x=ja (.ins a7 ah []))(_:ih aD H n bb bh (dK hs) (bw rs))(_:Good hs)(_:gO H hs rs ds)(_:rs.Z<=40)(_:∀(H':af)(A:du)(kvs:gq),SameBut x H H'->ha a7 C CW aD (mask H [x]) H' x A hs ds ⟨pr,[],[],[],kvs,[]⟩->A.n=n->A.rs=rs->nh hs ds kvs->(∀b∈A.dz x,b=x\/H b=jp)->Q .cw H')
abbrev KZ:Stmt:=gT (top 63) 0
def arh:cp Bn Bn (bW KZ):=({})
def apJ{f:Addr}(F:b1 K "__init__" "Day.__init__" KZ f fd)(p:sV K a7)(r':mg "Walk"=ja (.ref C))(vb:bO K mg "shortest" HZ ["net"] f1 cg)(Yy:-aA a6 4 f1 cg ["net"] (RE CW aD))(IK:nQ K C kl)(n7:mi K C "Walk.__init__" BO uj kl uS)(G8:-aA a6 2 kl uS uj (Kf C)):-aA a6 5 f fd Bn (QY a7 C CW aD):=by
 show-F.ok arh (λ_ A _ s H vs Q E ao h=>?_);let#[x,c,n,bb,bh,hs,rs,ds,k,2,aq,N,G,R,aet,q]:=h;show#[_,(a3 (jo (aa 0) (aa 1) rfl)
  (a3 (jo (aa 0) (aa 2) rfl)
  (a3 (jo (aa 0) (gc ay) rfl)
  (a3 (jo (aa 0) (dp Yy vb ao.mono cd (aj (aa 1) ay)) rfl)
  (a3 (jo (aa 0) Zi rfl)
  (a3 (jo (aa 0) (tI IK G8 ao.mono qF r' n7.bd .nil cd (aj (aa 1) (aj (gc ay) ay))) rfl)
  (a9 (jo (aa 0) (gc ay) rfl)))))))),4]
 ac_rfl
 let X:∀b o,b≠x->H b=ja o->mask H [x] b=ja o:=λb o r e=>iS e (by simpa using r);let#[eR,hn]:=N.ins;let aye:n≠x:=λz=>by rw[z,aq]at hn;cases hn
 let axY:bb≠x:=Wc N.u7 aq (by intro z;cases z);let ax1:bh≠x:=Wc N.oA aq (by intro z;cases z);let ø:ih aD (mask H [x]) n bb bh (dK hs) (bw rs):=#[#[eR,X _ _ aye hn],X _ _ axY N.u7,X _ _ ax1 N.oA]
 let Ľ:gO (mask H [x]) hs rs ds:=#[b9.ju R.gZ λa d e=>X _ _ (Wc e aq (by intro z;cases z)) e,R.ok]
 let O:∀{V:af}{o:hX},av (mask H [x]) V->av (mask H [x]) (upd V x o):=λ{V o}sq=>gE (I3 qv) sq;let s0:=Dg H [x];let B:∀{V:af}{o:hX},av (mask H [x]) V->V x=ja o->∀{b},V b=jp->H b=jp/\b≠x:=λ{V o}sq ex{b}e=>by
  let r:b≠x:=λz=>by rw[z,ex]at e;cases e
  show#[4,r];cases aP:H b with
  |none=>rfl
  |some u=>rw[sq _ _ (X b u r aP)]at e;cases e
 show#[5,x,a7,c,1,aq,p.cl,p.nn,(by show 0<1000;decide),4];show#[5,x,a7,c,1,aN,p.cl,p.np,(by show 1<1000;decide),4];let s2:av (mask H [x]) (upd (upd H x (.ins a7 c (Lp n))) x (.ins a7 c (Lq n k))):=O (O s0);let ak:upd (upd H x (.ins a7 c (Lp n))) x (.ins a7 c (Lq n k)) x=_:=aN;show h4 _ _ _ _ (upd (upd H x (.ins a7 c (Lp n))) x (.ins a7 c (Lq n k)));generalize upd (upd H x (.ins a7 c (Lp n))) x (.ins a7 c (Lq n k))=ag at s2 ak⊢;show#[sz_,λpl vo=>?_];let f1:=B s2 ak vo;let s3:=s2.trans (b7 (o:=.lst []) vo);show#[1,x,a7,c,1,(aJ f1.2.symm).trans ak,p.cl,p.no,(by show 2<1000;decide),4];let Z:=O (o:=.ins a7 c (FT n k pl)) s3;let cT:upd (upd ag pl (.lst [])) x (.ins a7 c (FT n k pl)) x=_:=aN;let hH:upd (upd ag pl (.lst [])) x (.ins a7 c (FT n k pl)) pl=ja (.lst (bw [])):=(aJ f1.2).trans aN;show h4 _ _ _ _ (upd (upd ag pl (.lst [])) x (.ins a7 c (FT n k pl)));generalize upd (upd ag pl (.lst [])) x (.ins a7 c (FT n k pl))=c9 at Z cT hH⊢;show#[1,n,bb,bh,hs,rs,ds,2,ø.same Z,G,Ľ.same Z,aet,λy t bo kvs gH eT Xn Rc ST=>?_];let J:=B Z cT gH;let I:=B Z cT eT;let#[bZ,cc]:=Rc.ins;let ayy:y≠t:=al.f5 cc Rc.told (by intro z;cases z);let ayq:pl≠y:=cI hH gH;let ayp:pl≠t:=cI hH eT;let c2:=Z.trans Xn;show#[1,x,a7,c,1,Xn _ _ cT,p.cl,p.gH,(by show 3<1000;decide),4];let fC:=O (o:=.ins a7 c (y3 n k pl y)) c2;let ij:upd bo x (.ins a7 c (y3 n k pl y)) x=_:=aN;let Di:upd bo x (.ins a7 c (y3 n k pl y)) pl=_:=(aJ f1.2).trans (Xn _ _ hH);let AI:upd bo x (.ins a7 c (y3 n k pl y)) y=_:=(aJ J.2).trans cc;let Aj:upd bo x (.ins a7 c (y3 n k pl y)) t=_:=(aJ I.2).trans Rc.told;show h4 _ _ _ _ (upd bo x (.ins a7 c (y3 n k pl y)));generalize upd bo x (.ins a7 c (y3 n k pl y))=g_ at fC ij Di AI Aj⊢
 refineλdt Hf=>?_
 let f4:=B fC ij Hf;let X_:=b7 (o:=.cO []) Hf;show#[1,x,a7,c,1,X_ _ _ ij,p.cl,p.xo,(by show 4<1000;decide),4];let h8:=O (o:=.ins a7 c (B3 n k pl y dt)) (fC.trans X_);let my:upd (upd g_ dt (.cO [])) x (.ins a7 c (B3 n k pl y dt)) x=_:=aN;let ML:∀b o,b≠x->g_ b=ja o->upd (upd g_ dt (.cO [])) x (.ins a7 c (B3 n k pl y dt)) b=ja o:=λb o r e=>(aJ r).trans (X_ _ _ e);let pe:upd (upd g_ dt (.cO [])) x (.ins a7 c (B3 n k pl y dt)) dt=ja (.cO []):=(aJ f4.2).trans aN;show h4 _ _ _ _ (upd (upd g_ dt (.cO [])) x (.ins a7 c (B3 n k pl y dt)));generalize upd (upd g_ dt (.cO [])) x (.ins a7 c (B3 n k pl y dt))=g0 at h8 my ML pe⊢;let lH:=ML _ _ f1.2 Di;let Y5:=ML _ _ J.2 AI;let DH:=ML _ _ I.2 Aj;let ayn:pl≠dt:=cI Di Hf;let ayx:y≠dt:=cI AI Hf;let ayt:t≠dt:=cI Aj Hf;show#[1,sz_,λMU ayb=>λl i Nd adY aFm=>?_];let Ig:=b7 (o:=.lst []) ayb;let MO:upd g0 MU (.lst []) MU=ja (.lst (bw [])):=aN;generalize upd g0 MU (.lst [])=rA at Ig MO Nd adY⊢;let X9:av rA (upd (upd rA i (.own l)) l (.ins C i [])):=λb u e=>by rwa[aJ (cI e Nd),aJ (cI e adY)]
 let N8:upd (upd rA i (.own l)) l (.ins C i []) l=ja (.ins C i []):=aN;generalize upd (upd rA i (.own l)) l (.ins C i [])=aAW at X9 N8⊢;let Y:=Ig.trans X9;let Xj:=h8.trans Y;let TB:=Y _ _ my;let M:=B (h8.trans Ig) (Ig _ _ my) Nd;let m:∀{b o},g0 b=ja o->b≠l:=λ{b o}e=>cI (Ig _ _ e) Nd;let Nj:=Y _ _ lH;let Y2:=Y _ _ Y5;let X1:=Y _ _ DH;let W7:=Y _ _ pe;show#[l,i,n,MU,[],[],2,N8,X9 _ _ MO,.nil,ei _,λU g bz iG cf KC i2 se _ _ M3=>#[2,4]];let nl:iG=[]:=by have:=jz KC.each;show-Bd.mp this
 subst nl;let#[auD,aw8]:=KC.ins;let Cc:=B Xj TB i2;let fs:=B Xj TB se;let aAj:=cf _ _ M.2.symm TB;let ayD:=cf _ _ (m lH) Nj;let aAp:=cf _ _ (m Y5) Y2;let azy:=cf _ _ (m DH) X1;let ayM:=cf _ _ (m pe) W7;let ay3:av (mask H [x]) U:=λb o e=>by show-cf b o (λz=>?_) (Xj b o e);have:=(Dg H [x]) _ _ e;rw[z,M.1]at this;cases this
 show#[1,x,a7,c,1,aAj,p.cl,p.kC,(by show 5<1000;decide),4];let f6:=O (o:=.ins a7 c (FU n k pl y dt l)) ay3;let w0:upd U x (.ins a7 c (FU n k pl y dt l)) x=_:=aN;let D:∀b o,b≠x->U b=ja o->upd U x (.ins a7 c (FU n k pl y dt l)) b=ja o:=λb o r e=>(aJ r).trans e;dsimp only;show aaN _ _ _ _ _ _ (upd U x (.ins a7 c (FU n k pl y dt l)));generalize upd U x (.ins a7 c (FU n k pl y dt l))=ι at f6 w0 D⊢;let aeo:=D _ _ f1.2 ayD;let afB:=D _ _ J.2 aAp;let ae2:=D _ _ I.2 azy;let aes:=D _ _ f4.2 ayM;let afe:=D _ _ M.2 aw8;let ace:=D _ _ Cc.2 KC.goals;let Vx:=D _ _ fs.2 KC.steps;show#[sz_,λc4 L=>?_];let uU:=B f6 w0 L;let X':=b7 (o:=.lst []) L;show#[1,x,a7,c,1,X' _ _ w0,p.cl,p.ns,(by show 6<1000;decide),4];let aeC:=O (o:=.ins a7 c (qa n pl y dt l c4 k)) (f6.trans X');let T:∀b o,b≠x->ι b=ja o->upd (upd ι c4 (.lst [])) x (.ins a7 c (qa n pl y dt l c4 k)) b=ja o:=λb o r e=>(aJ r).trans (X' _ _ e);let aG:=cI aeo L;let aP:=cI afB L;let cz:=cI ae2 L;let e':=cI aes L;let i':=cI afe L;let lY:=cI ace L;let nd:=cI Vx L;refine q _ #[c,n,pl,y,dt,l,auD,c4,g,bz,t,bb,bh,rs,[],[],[]] kvs (λb o r e=>aeC _ _ (X b o r e)) #[aeC,ø,Ľ,aN,T _ _ f1.2 aeo,.nil,#[bZ,T _ _ J.2 afB],T _ _ I.2 ae2,T _ _ f4.2 aes,T _ _ M.2 afe,T _ _ Cc.2 ace,T _ _ fs.2 Vx,.nil,(aJ uU.2).trans aN,.nil,4,4] rfl rfl ST ?_
 .let o1:=m lH;let o2:=m Y5;let C6:=m DH;let Hg:=m pe;let g1:=cI Nj i2;let g2:=cI Y2 i2;let g3:=cI X1 i2;let qG:=cI W7 i2;let km:=cI N8 i2;let dX:=cI Nj se;let dr:=cI Y2 se;let ou:=cI X1 se;let zI:=cI W7 se;let axt:=cI N8 se;unfold du.dz;simp only[jj,dQ,ee,or_false,not_or];show#[#[f1.2.symm,J.2.symm,I.2.symm,f4.2.symm,M.2.symm,Cc.2.symm,fs.2.symm,uU.2.symm],#[ayq,ayp,ayn,o1,g1,dX,aG],#[ayy,ayx,o2,g2,dr,aP],#[ayt,C6,g3,ou,cz],#[Hg,qG,zI,e'],#[km,axt,i'],#[M3,lY],nd,not_false,pI]
 .let j:∀{b},H b=jp->mask H [x] b=jp:=λ{b}e=>by
   cases aP:mask H [x] b with
   |none=>rfl
   |some o=>rw[(Dg H [x]) _ _ aP]at e;cases e
  show-P8 (I3 (.head _)) (j f1.1) (j J.1) (j I.1) (j f4.1) (j M.1) (j Cc.1) (j fs.1) (j uU.1) λ_ h=>nomatch h
 show-P8 (.inl rfl) (.inr f1.1) (.inr J.1) (.inr I.1) (.inr f4.1) (.inr M.1) (.inr Cc.1) (.inr fs.1) (.inr uU.1) λ_ h=>nomatch h
def pb(d:nY):PyData:=.tuple [.str d.1,.int d.2.1,.str d.2.2]
theorem õ:∀{rs:b5}{a:mn},h5 H rs (a.map l')->(∀d∈a,b8 H (.str d.1) (.str d.1)/\b8 H (.str d.2.2) (.str d.2.2))->eP H (bw rs) (a.map pb)
 |[],[],_,_=>.nil
 |_::_,d::_,.cons h t,g=>.cons (.tup h (by show 3<=100;decide) (.cons (g d (.head _)).1 (.cons (.int _) (.cons (g d (.head _)).2 .nil)))) (õ t λe b=>g e (.tail _ b))
theorem ö:∀{b:mn}{vs:aL},eP H vs (b.map pb)->∃rs,vs=bw rs/\h5 H rs (b.map l')
 |[],_,.nil=>#[[],2,.nil]
 |d::b,_,.cons (v:=v) (vs:=vs) h t=>by
  let#[a,k,2,c,_,f]:=PR h;let#[rs,2,g]:=ö t;show#[a::rs,2,.cons ?_ g];cases f with
  |cons ai i=>cases i with
   |cons ak j=>cases j with
    |cons e q=>
     cases q;cases ai;cases ak;cases e;show-c
def ajU(a:mn):(Kt (a.map pb)).depth<=62:=by show-eh (Ka (HE (n:=1) λy b=>?_)) qc;let#[d,1]:=cD.mp b;show-cy _
end
def ZC{H H':af}{x g c:Addr}(k:∀{b o},b≠x->b≠g->b≠c->H b=ja o->H' b=ja o)(w:∀b v,H b=ja (.tup v)->H' b=ja (.tup v)){a:b5}(p:b9 (gP H) a bE)(d:x∉a)(f:g∉a)(l:c∉a):b9 (gP H') a bE:=by
 induction p with
 |nil=>show-.nil
 |cons h t i=>
  let#[r,m,n]:=h;show-.cons #[r,k (λz=>d (z▸.head _)) (λz=>f (z▸.head _)) (λz=>l (z▸.head _)) m,b9.ju n λ_ _ e=>w _ _ e] (i (λz=>d (.tail _ z)) (λz=>f (.tail _ z)) λz=>l (.tail _ z))
def P9(a:ba)(b:mn):Prop:=∀d∈b,d.1∈a.map S/\d.2.2∈a.map S
def EN(s:e0)(h g:Str):e0:={s with bN:=s.bN++[(h,s.pr,g)],bE:=s.bE++[mI (h,s.pr,g)]}
inductive Qj(a7 C CW aD e6:Addr)(vs:aL)(H:af)(Q:aO)(E:bF):Prop where
 |mk(bS:af)(x:Addr)(A:du)(hs:ba)(ds:cY)(s:e0)(h g:Str)(_:vs=[.ref x,.str h,.str g])(_:ha a7 C CW aD bS H x A hs ds s)(_:Good hs)(_:P9 hs s.bN)(_:s.bN.Z<=40)(_:s.bE.Z=s.bN.Z)(_:(∀H,b8 H (.str h) (.str h)))(_:(∀H,b8 H (.str g) (.str g)))(_:(rl (a8 hs) ((s.bN++[(h,s.pr,g)]).map pb)->∀H' dC,qo (A.dz x) (dC.dz x) H H'->ha a7 C CW aD bS H' x dC hs ds (EN s h g)->Q (.int (s.bN.Z:Int)) H'))(_:(¬rl (a8 hs) ((s.bN++[(h,s.pr,g)]).map pb)->∀ah H',H ah=jp->av H H'->H' ah=ja (mS ah [("number",RL (nj (a8 hs) ((s.bN++[(h,s.pr,g)]).map pb)))])->E (.ref e6) (ja ah) H'))
section
variable{P:cx}{w:b0}{K:aI}{mg:b6}{base:Heap}
abbrev J5:Stmt:=gT (top 63) 2
def Ŝ:cp ["self","house","goal","letter"] gh (bW J5):=({})
def am7{f:Addr}(F:b1 K "post" "Day.post" J5 f fd)(B:fc mg)(m:sV K a7)(g6:ef K C)(uP:bO K mg "letters_of" FD yH f1 cg)(X5:-aA (iv P w) 4 f1 cg yH (Q6 aD e6))(rR:cR K C "take_in" "Walk.take_in" EK wj f2 dY)(W4:-aA a6 1 f2 dY wj (PZ C)):-aA (iv P w) 5 f fd gh (Qj a7 C CW aD e6):=by
 show-je F Ŝ (λ_ A _ s H vs Q E ao h=>?_);let#[bS,x,A,hs,ds,s,t,p,2,D,G,Bb,CL,VJ,kr,d0,q,gp]:=h;show#[_,(a3 (dg 3 Ŝ.aC (qW (aj (aa 1) (aj (dE (aa 0)) (aj (aa 2) ay)))))
  (a3 (jo (aa 0) (dp X5 uP ao.mono vd (aj (dE (aa 0)) (aj (c5 oo (dE (aa 0)) (gc (aj (aa 3) ay))) ay))) rfl)
  (a3 (gD (fg (dE (aa 0)) g6 rR.d5 W4 ao.mono rR.bd .nil cd (aj (aa 3) ay)))
  (a9 (ct (c5 Jk (d4 jC B.len iT (aj (dE (aa 0)) ay)) bt)))))),4]
 ac_rfl
 show#[5,x,a7,6,1,D.ins,m.cl,m.np,7,sz_,λg xv=>?_];let lM:=b7 (o:=.tup (l' (t,s.pr,p))) xv;let t1:upd H g (.tup (l' (t,s.pr,p))) g=ja (.tup (l' (t,s.pr,p))):=aN;show h4 _ _ _ _ (upd H g (.tup (l' (t,s.pr,p))));generalize upd H g (.tup (l' (t,s.pr,p)))=H1 at lM t1⊢;let iL:=D.same lM;let adG:A.kD.Z=s.bN.Z:=by have:=jz D.pt;rwa[bQ]at this
 show#[1,x,a7,6,1,iL.ins,m.cl,m.nn,7,x,a7,6,1,iL.ins,m.cl,m.no,7,sz_,λdX ej=>?_];let u:=b7 (o:=.lst [V.ref g]) ej;let ak:upd H1 dX (.lst [V.ref g]) dX=ja (.lst [V.ref g]):=aN;generalize upd H1 dX (.lst [V.ref g])=ag at u ak⊢;let jP:=iL.same u;show#[A.pl,dX,3,jP.po,ak,(by rw[gX];show _+1<=sizeLine;show-mZ (e8 jQ)),λU er=>?_];rw[HP];let i:=b7 (o:=.lst (bw (A.kD++[g]))) er;let aV:upd ag U (.lst (bw (A.kD++[g]))) U=ja (.lst (bw (A.kD++[g]))):=aN;generalize upd ag U (.lst (bw (A.kD++[g])))=aK at i aV⊢;let L:=jP.same i;let vx:=lM.trans (u.trans i);let azP:h5 aK (A.kD++[g]) ((s.bN++[(t,s.pr,p)]).map l'):=by rw[fP];show-Paired.snoc (F:=λr d=>aK r=ja (.tup d)) (i _ _ (u _ _ t1)) L.pt
 let azM:b8 aK (.ref U) (.list ((s.bN++[(t,s.pr,p)]).map pb)):=by
  show-.lst aV (by rw[gX,dT];show _+1<=100;lia) (õ azP λd hd=>?_);rcases iM.mp hd with z|z
  .show#[Ea G (Bb d z).1,Ea G (Bb d z).2]
  rw[d2.mp z];show#[kr _,d0 _]
 show#[A.n,A.bb,A.bh,hs,_,.ref U,1,L.fo.same L.cf,G,azM,ajU _,λSg l k nl j azK=>?_,λna ah k aC j hd=>?_]
 .let#[_,xs,iV,Gx,_,va]:=qX azK;cases iV;let#[kD,2,T]:=ö va;let a:=L.same j;let#[bZ,axc]:=a.fF;let I:=vx.trans j;let Wg:H l=jp:=by
   cases e:H l with
   |none=>rfl
   |some o=>rw[vx _ _ e]at nl;cases nl
  let M:=aaB D.aC;show#[1,x,a7,A.ah,1,a.ins,m.cl,m.no,(by show 7<1000;decide),4];let eA:upd k x (.ins a7 A.ah (qa A.n l A.y A.dt A.c0 A.c4 s.pr)) x=_:=aN;let N:∀b o,b≠x->k b=ja o->upd k x (.ins a7 A.ah (qa A.n l A.y A.dt A.c0 A.c4 s.pr)) b=ja o:=λb o Y e=>(aJ Y).trans e;let R:∀b,upd k x (.ins a7 A.ah (qa A.n l A.y A.dt A.c0 A.c4 s.pr)) b=jp->k b=jp:=λb e=>by
   let Y:b≠x:=λz=>by rw[z,aN]at e;cases e
   rwa[aJ Y]at e
  show h4 _ _ _ _ (upd k x (.ins a7 A.ah (qa A.n l A.y A.dt A.c0 A.c4 s.pr)));generalize upd k x (.ins a7 A.ah (qa A.n l A.y A.dt A.c0 A.c4 s.pr))=bo at eA N R⊢;let adF:(xO s.bN).Z=s.bN.Z:=bQ _;let iG:A.ls.Z=s.bN.Z:=(jz D.vH).trans VJ;show#[1,x,a7,6,1,eA,m.cl,m.kC,2,A.c0,A.kk,1,N _ _ (dG M.D0) a.wi,7,A.c0,A.kk,A.n,A.g,A.bz,g,xO s.bN,A.ls,(t,s.pr,p),2,N _ _ (dG M.D0) a.wi,N _ _ (dG M.IJ) a.vI,N _ _ (dG M.vM) a.ws,M.g1,N _ _ (al.f5 (j _ _ (i _ _ (u _ _ t1))) a.ins (by intro z;cases z)) (j _ _ (i _ _ (u _ _ t1))),jQ,jQ,λX l9 azz zH awo awW ax9 aFl w' MA=>?_];let y:∀{b o},b≠x->b≠A.g->b≠A.bz->k b=ja o->X b=ja o:=λ{b o}ej er jL e=>zH b o er jL (N b o ej e);let lC:∀b v,k b=ja (.tup v)->X b=ja (.tup v):=λb v e=>y (al.f5 e a.ins (by intro z;cases z)) (al.f5 e a.vI (by intro z;cases z)) (al.f5 e a.ws (by intro z;cases z)) e;let nm:∀b o,k b=ja o->b≠l9:=λb o e z=>by rw[z,R _ ax9]at e;cases e
  let ov:l≠x:=dG (cI L.ins nl);let axz:l≠A.g:=dG (cI L.vI nl);let axC:l≠A.bz:=dG (cI L.ws nl);let O:=zH x _ M.IJ M.vM eA;let J:=y ov axz axC Gx;let axA:kD.Z=s.bN.Z+1:=by have:=jz T;rwa[bQ,dT]at this
  show#[1,x,a7,6,1,O,m.cl,m.no,2,l,1,.inl (aM.of J),3,4];rw[gX,axA];show Q (.int (((s.bN.Z+1:Nat):Int)-1)) X;rw[show(((s.bN.Z+1:Nat):Int)-1)=(s.bN.Z:Int) by lia];let Wh:H l9=jp:=by
   cases e:H l9 with
   |none=>rfl
   |some o=>exact bk rfl (nm _ _ (I _ _ e))
  let old:∀{b o},bS b=ja o->b∉A.dz x:=λ{b o}e z=>by rw[D.fr b z]at e;cases e
  let i2:∀{b o},b∉A.dz x->k b=ja o->X b=ja o:=λ{b o}n e=>y (λz=>n (z▸du.m0)) (λz=>n (z▸du.CP)) (λz=>n (z▸du.adJ)) e;let Z:∀{b},H b=jp->bS b=jp:=λ{b}e=>by
   cases aP:bS b with
   |none=>rfl
   |some o=>rw[D.cf _ _ aP]at e;cases e
  refine q Sg X {A with pl:=l,kD:=kD,ls:=A.ls++[l9]} #[λb o Y e=>i2 Y (I _ _ e),λb ae=>(ô ae).imp id λz=>z.elim (λz=>z▸Wg) λz=>z▸Wh] #[λb o e=>i2 (old e) (I _ _ (D.cf _ _ e)),D.fo,D.fA,O,J,b9.ju T λ_ _ e=>lC _ _ e,#[bZ,y (dG M.lN) M.Y3 M.x1 axc],y (dG M.vL) M.t3 M.DG a.DZ,y (dG M.tW) M.dj M.jM a.dt,y (dG M.D0) M.gA M.h_ a.wi,4,awW,Paired.snoc #[[azz],w',.cons MA .nil] (ZC y lC a.vH M.sH M.g3 M.s2),y (dG M.AG) (dG M.g2) (dG M.s1) a.c4,b9.ju a.sp λ_ _⟨c,ai,ak⟩=>#[c,lC _ _ ai,lC _ _ ak],ahM D.aC (D.live Wg) (D.live Wh) (nm _ _ Gx),λb ae=>(ô ae).elim (D.fr b) λz=>z.elim (λz=>Z (z▸Wg)) λz=>Z (z▸Wh)];rw[awo];show _=ja (hX.lst ((xO (s.bN++[(t,s.pr,p)])).map V.str));unfold xO;rw[fP,fP,fP];rfl
 let I:=vx.trans j;let ax2:H ah=jp:=by
  cases e:H ah with
  |none=>rfl
  |some o=>rw[vx _ _ e]at aC;cases aC
 show-gp na ah k ax2 I hd
def Kk(a:ba)(ds:cY)(s:e0):e0:={s with pr:=s.pr+1,bE:=pj (stepK a ds (s.pr,0)) [0] s.bE,q5:=s.q5++[((s.pr,0),[0])]}
structure Ready(hs:ba)(ds:cY)(s:e0)(d:nY):Prop where
 l:s.bN=[d]
 ss:s.bE=[mI d]
 o:ru hs ds s.kvs 0 [d]
 t:d.2.1<=s.pr
 dt:s.aeM=[]
 sn:s.q5.Z<=1
 r:0<ds.Z
end
def am8{n:Type}{F:Addr->n->Prop}{u:eG}{t:iz}{rest:al.St}{H1:af}{Q:aO}{J:ff}{as:b5}{Bs:List n}(O:∀R:ff->af->Prop,R J H1->u U H R)(E:hG cs U=jp::rest)(C:nZ J H1 (bw as))(T:as.Z<sizeLine)(s:b9 F as Bs)(q:n->Bool)(k:∀(i:Nat)(a:Addr)(b:n)(f:af)(R:Bool->af->Prop),as[i]?=ja a->Bs[i]?=ja b->av H1 f->R (q b) f->t (ja (.ref a)::rest) f R)(r:∀(D:Addr)(H':af)(d:b5),H1 D=jp->H' D=ja (.lst (bw d))->b9 F d (Bs.filter q)->av H1 H'->Q (.ref D) H'):jf u cs (hR 0) t (pz 0) U H Q:=by
 let z:=jz s;let G:=gX as;show-O _ λD a8=>?_;show#[λi m w L H'=>m=as.Z-i/\i<=as.Z/\(∃d,w=bw d/\d.Z<=i/\b9 F d ((Bs.take i).filter q))/\(∃o,L=o::rest)/\av H1 H'/\H' D=ja (.lst w),#[as.Z,by simp,ei _,#[[],2,cy _,.nil],#[jp,by rw[E]],λb o e=>?_,aN],4]
 .rwa[aJ (cI e a8)]
 rintro i m w L H' ⟨rfl,X,⟨d,rfl,P,fp⟩,⟨o,rfl⟩,g,l⟩;let#[j,M,I]:=C H' g;show#[l,by rw[gX];lia,4];by_cases N:i<as.Z
 .refine .inr #[M i jQ,λx f y=>?_];let#[2,p]:=I i x f jQ y;unfold bw at p;rw[ea]at p;let#[a,A,2]:=hN.mp p;let#[b,V,B]:=b9.get s A;let K:Bs.take (i+1)=Bs.take i++[b]:=by rw[Bj,V];rfl
  show t (ja (.ref a)::rest) f _;show-k i a b f _ A V g ?_;cases h:q b with
  |true=>
   show-hb #[1,l,as.Z-(i+1),9,2,N,#[d++[a],HP d a,by rw[dT];show d.Z+1<=i+1;lia,4],#[1],λc Y e=>?_,aN]
   .rw[K,yy,Qb,b2 h,ahX];show-Paired.snoc B fp
   rw[aJ (cI e a8)];show-g _ _ e
  |false=>
   show-gV #[as.Z-(i+1),9,2,N,#[d,2,9,4],#[1],g,l];rw[K,yy,Qb,bL (by rw[h];decide),ahX,kK];show-fp
 let e:i=as.Z:=by lia
 subst e;rw[z,ui]at fp;rw[G]at j;show-.inl #[j,r D H' d a8 l fp g]
inductive Qk(K:aI)(a7 C CW aD:Addr)(vs:aL)(H:af)(Q:aO)(fE:bF):Prop where
 |mk(bS:af)(x:Addr)(A:du)(hs:ba)(ds:cY)(s:e0)(d:nY)(_:vs=[.ref x])(_:ha a7 C CW aD bS H x A hs ds s)(_:Good hs)(_:Ready hs ds s d)(_:∀H' dC aX mr,qo (A.dz x) (dC.dz x) H H'->ha a7 C CW aD bS H' x dC hs ds (Kk hs ds s)->H aX=jp->aX∉dC.dz x->H' aX=ja (.lst (bw mr))->b9 (iZ H') mr [((s.pr,0),[0])]->Q (.ref aX) H')
section
variable{P:cx}{w:b0}{K:aI}{mg:b6}{base:Heap}
abbrev Kl:Stmt:=gT (top 63) 7
def Er:cp ["self","going","ready","bags","bag"] eg (bW Kl):=({})
def am9{f:Addr}(F:b1 K "pass_turn" "Day.pass_turn" Kl f fd)(B:fc mg)(y:sV K a7)(g6:ef K C)(lr:cR K C "home_turn" "Walk.home_turn" Ax dv f1 cg)(y7:-aA a6 2 f1 cg dv (I2 C))(ve:bO K mg "bags_at" HT yD f2 dY)(Za:-aA a6 5 f2 dY yD (RQ K C CW aD))(n8:cR K C "send" "Walk.send" AZ um cV iW)(G9:-aA a6 2 cV iW um (JE C aD)):-aA a6 6 f fd eg (Qk K a7 C CW aD):=by
 show-F.ok Er (λ_ A _ s H vs Q E ao h=>?_);let#[bS,x,A,hs,ds,s,d,2,D,G,O,q]:=h;show#[_,(a3 (z3 (i:=1) Er.aC rfl rfl rfl (N':=["number","self"]) (cs:=[jp,ja 0]) rfl (Hx rfl B.range (aj (d4 jC B.len iT (aj (dE (aa 0)) ay)) ay)) rfl qL rfl qL (hv (c'.mpr #[2,(λp aw=>bk aw (ee))])) rfl
   (.own (.mu rfl (.inl rfl) (.inl rfl) rfl .nil))
   (λC s3 N bP de=>#[(ed 0 (by show(["number","self"]:bY).Nodup;decide+kernel)),(DL (gs vy (fg (è (K:=K) rfl (aa 1) qF) g6 lr.d5 y7 ao.mono lr.bd .nil cd (aj (aa 0) ay)) kn (e9 _))),(aa 0)]))
  (a3 (dg 2 Er.aC (dp Za ve ao.mono cd (aj (dE (aa 0)) (aj (dE (aa 0)) (aj (aa 1) (aj (dE (aa 0)) (aj (dE (aa 0)) ay)))))))
  (a3 (z3 (i:=3) Er.aC rfl rfl rfl (N':=["bag","self"]) (cs:=[jp,ja 0]) rfl (hF (aa 2)) rfl qL rfl qL (hv (c'.mpr #[2,(λp aw=>bk aw (ee))])) rfl
   (.own (.mu rfl (.inl rfl) (.inl rfl) rfl .nil))
   (λC s3 N bP de=>#[(ed 0 (by show(["bag","self"]:bY).Nodup;decide+kernel)),(DL (Ja (YO (kW ao) (ck (Ae (K:=K) rfl) (aa 0) bt) (è (K:=K) rfl (aa 1) qF)))),(aa 0)]))
  (a3 (l6 lT rfl (hF (aa 3)) (ed 4 Er.aC)
   (a9 (gD (fg (dE (aa 0)) g6 n8.d5 G9 ao.mono n8.bd .nil cd (aj (aa 4) ay)))))
  (a3 (gD (kV rH PySem.F.slot_list_extend PySem.F.type_list_extend aiT (dE (aa 0)) (aj (aa 3) ay)))
  (a3 (jo (aa 0) (c5 p3 (dE (aa 0)) bt) rfl)
  (a9 (ct (aa 3))))))))),4]
 ac_rfl
 let adG:A.kD.Z=s.bN.Z:=by have:=jz D.pt;rwa[bQ]at this
 dsimp only[h4,t5];obtain⟨d9,dc,o1,o2,C6,Hg,aeg,Hh,aFn⟩:∃d9,[d]=[d9]/\d9.1∈hs.map S/\d9.2.2∈hs.map S/\d9.1≠d9.2.2/\dV s.kvs (h7 d9.1 d9.2.2)=ja (.int ((0:Nat):Int))/\v9 hs ds 0=d9.2.2/\0<=d9.2.1/\v8 hs ds 0=d9.1:=by
  rcases O.o with e|⟨d9,cb,ai,ak,aV,cT,eA,ij,jG⟩
  .cases e
  show#[d9,cb,ai,ak,aV,cT,eA,ij,jG]
 obtain rfl:d=d9:=(Ì dc).1;clear dc;let acn:xO s.bN=[d.2.2]:=by rw[O.l];rfl
 let dX:A.kD.Z=1:=by rw[adG,O.l];rfl
 refine aov (J:=yl 0 1) (H1:=H) (xs:=(fk 1).map λi:Nat=>V.int (0+i)) (rest:=[ja (.ref x)]) (λR h=>#[1,x,a7,6,1,D.ins,y.cl,y.no,2,A.pl,1,.inl (aM.of D.po),1,4,4,4]) rfl (χ 0 1) (e8 qc) (λ_=>jx) (λn=>.int (n:Int)) (λn v ag R ev ax k=>?_) (λn v ag R ev _ ax k=>?_) (λiL H1 h6 a8 s1=>?_)
 .rw[gX];lia
 .rw[gX];lia
 .rwa[gX,dX]
 .cases n with
  |succ n=>cases ev
  |zero=>
  cases ev;let jP:=D.same ax;show#[1,x,a7,6,1,jP.ins,y.cl,y.kC,2,A.c0,A.kk,1,jP.wi,7,A.c0,A.n,A.g,A.bz,6,_,0,[],#[d.2.1,jp,d.1,d.2.1],d.2.2,2,jP.walk,by rw[O.ss];rfl,by rw[acn];rfl,7,4];rw[show sC #[d.2.1,jp,d.1,d.2.1] d.2.2=.cw from bL C6];show-k ag (av.refl _)
 .cases n with
  |succ n=>cases ev
  |zero=>
  cases ev;show#[1,k ag (av.refl _)]
 let Gh:H1 iL=ja (.lst (rr [0])):=a8;let I:=D.same s1;show#[1,x,a7,6,1,I.ins,y.cl,y.nn,7,x,a7,6,1,I.ins,y.cl,y.kC,7,1,x,a7,6,1,I.ins,y.cl,y.gH,7,x,a7,6,1,I.ins,y.cl,y.np,2,A.c0,A.n,A.g,A.bz,iL,A.y,A.t,A.bb,A.bh,_,A.ls,A.rs,s.bE,hs,ds,s.kvs,[0],0,d.2.1,0,s.pr,2,I.walk,aM.of Gh,I.azY,I.fA.same I.cf,G,.one [] #[d.2.1,jp,d.1,d.2.1] d.2.2 rfl (by rw[O.ss];rfl) (by rw[acn];rfl) o1 o2 C6 Hg rfl O.t,O.r,λaX ag as zR s2 w4 mq=>?_];obtain⟨Bs,Lx⟩:∃Bs:List (ib×List Nat),Bs=[((s.pr,0),[0])]:=#[1]
 let mq:b9 (iZ ag) as Bs:=by rwa[Lx]
 let Db:=I.same s2;let axu:Bs.Z=1:=by rw[Lx];rfl
 let adB:=jz mq;show-EL ?_;dsimp only;show-Al ?_;refine am8 (F:=iZ ag) (J:=j9 K aX) (H1:=ag) (as:=as) (Bs:=Bs) (rest:=[ja (.ref x)]) (λR h=>#[1,aX,2,#[_,aM.of w4],h]) rfl (oj (aM.of w4)) (e8 jQ) mq (λ_=>jx) (λi a b N R aH dx ax cW=>?_) (λL N T VR TJ Z s3=>?_)
 .let#[gb,abX,c,lz,jH]:=b9.get mq aH;rw[dx]at abX;cases abX;let L:=Db.same ax;show#[1,a,_,3,cH.of (ax _ _ lz),7,x,a7,6,1,L.ins,y.cl,y.xo,2,A.dt,1,j4.k (k:=lg (b.1.2:Int)) L.dt,1,4];rwa[O.dt]
 rw[JR.mpr λ_ _=>rfl]at Z;let g:=Db.same s3;let axv:=jz Z;let Z:=b9.ju Z λa b h=>h.same s3;let M:=aaB D.aC;let avv:∀l∈A.ls,bS l=jp:=λl au=>D.fr l (du.MV au);let MY:L∉A.dz x:=Db.live VR;let adS:L∉A.ls:=λz=>MY (du.MV z);show#[1,L,2,#[_,aM.of TJ],4];refine tC (K:=K) (a:=L) (xs:=bw T) (λj U u=>∃v4,U=[ja (.ref x),ja (.ref iL),ja (.ref aX),ja (.ref L),v4]/\av (mask N A.ls) u/\b9 (gP u) A.ls (if j=0 then s.bE else pj (stepK hs ds (s.pr,0)) [0] s.bE))
  #[jp,2,Dg _ _,g.vH] (λj U u _⟨_,_,h,_⟩=>aM.of (h _ _ (iS TJ adS))) ?_ ?_
 .rintro j z U u eo ⟨v4,rfl,Y,fm⟩;unfold bw at eo;rw[ea]at eo;let#[fT,Lz,2]:=hN.mp eo;let#[b,dx,c,lz,jH]:=b9.get Z Lz;rw[Lx]at dx;cases j with
  |succ j=>cases dx
  |zero=>
  cases dx;let eT:∀{c:Addr}{v:aL},N c=ja (.tup v)->c∉A.ls:=λ{c v}e z=>by let#[bB,aP]:=Zb g.vH z;rw[e]at aP;cases aP
  let qN:=Y _ _ (iS g.ins M.sH);let aw7:=Y _ _ (iS g.wi M.Iy);let aeJ:av bS (mask N A.ls):=λb o e=>iS (g.cf _ _ e) λz=>by rw[avv b z]at e;cases e
  show#[1,x,a7,6,1,qN,y.cl,y.kC,2,A.c0,A.kk,1,aw7,7,mask N A.ls,A.c0,A.n,A.g,A.bz,A.bb,A.bh,fT,xO s.bN,A.ls,A.rs,_,hs,ds,((s.pr,0),[0]),2,Y,#[#[_,iS g.wi M.Iy],iS g.vI M.g3,iS g.ws M.s2],fm,M.aC,(λl au=>I3 au),D.fo.same aeJ,D.fA.same aeJ,#[c,iS lz (eT lz),iS jH (eT jH)],O.r,(by show[0].Nodup;decide),4,4,λH' s' bI=>#[1,s',bI]]
  .intro i hi;rw[d2.mp hi,b2 rfl,O.ss];show-Kc
  intro ss tv;rw[b2 rfl,O.ss]at tv;rw[d2.mp tv];exact(by decide:1<=100)
 rintro U u ⟨v4,rfl,Y,fm⟩;rw[gX,axv,axu,bL qc]at fm;let qN:=Y _ _ (iS g.ins M.sH);let tu:=Y _ _ (iS g.c4 M.aG);let acw:=Y _ _ (iS TJ adS);let aE9:=jz D.sp;let aeU:=O.sn;show#[1,x,a7,6,1,qN,y.cl,y.ns,2,.inl #[2,_,aM.of tu],1,A.c4,L,3,tu,acw,4,4]
 .rw[gX,gX];show-eh (show _<=10000 by lia) qc
 rw[show bw A.mr++bw T=bw (A.mr++T) by unfold bw;rw[fP]];let k1:∀b o,b≠A.c4->u b=ja o->upd u A.c4 (.lst (bw (A.mr++T))) b=ja o:=λb o nb e=>(aJ nb).trans e;let wN:upd u A.c4 (.lst (bw (A.mr++T))) A.c4=ja (.lst (bw (A.mr++T))):=aN;dsimp only;generalize upd u A.c4 (.lst (bw (A.mr++T)))=fY at k1 wN⊢;let adn:=k1 _ _ M.AG qN;show#[1,x,a7,6,1,adn,y.cl,y.np,2,3,1,x,a7,A.ah,1,adn,y.cl,y.np,(by show 7<1000;decide),1,4];let kZ:∀{b o},b≠x->b≠A.c4->u b=ja o->upd fY x (.ins a7 A.ah (qa A.n A.pl A.y A.dt A.c0 A.c4 (s.pr+1))) b=ja o:=λ{b o}ej er e=>(aJ ej).trans (k1 _ _ er e);let X:∀{b o},b≠x->b≠A.c4->b∉A.ls->N b=ja o->upd fY x (.ins a7 A.ah (qa A.n A.pl A.y A.dt A.c0 A.c4 (s.pr+1))) b=ja o:=λ{b o}ej er jL e=>kZ ej er (Y _ _ (iS e jL));let eT:∀{c:Addr}{v:aL},N c=ja (.tup v)->c∉A.ls:=λ{c v}e z=>by let#[bB,aP]:=Zb g.vH z;rw[e]at aP;cases aP
 let lC:∀b v,N b=ja (.tup v)->upd fY x (.ins a7 A.ah (qa A.n A.pl A.y A.dt A.c0 A.c4 (s.pr+1))) b=ja (.tup v):=λb v e=>X (al.f5 e g.ins (by intro z;cases z)) (al.f5 e g.c4 (by intro z;cases z)) (eT e) e;let vx:=s1.trans (s2.trans s3);let ay2:=s1.trans s2;let axM:H L=jp:=by
  cases e:H L with
  |none=>rfl
  |some o=>rw[ay2 _ _ e]at VR;cases VR
 let#[bZ,axb]:=g.fF;let axO:L≠x:=λz=>MY (z▸du.m0);let axN:L≠A.c4:=λz=>MY (z▸du.VM);let i2:∀{b o},b∉A.dz x->N b=ja o->upd fY x (.ins a7 A.ah (qa A.n A.pl A.y A.dt A.c0 A.c4 (s.pr+1))) b=ja o:=λ{b o}n e=>X (λz=>n (z▸du.m0)) (λz=>n (z▸du.VM)) (λz=>n (du.MV z)) e;let axq:∀b v,u b=ja (.tup v)->upd fY x (.ins a7 A.ah (qa A.n A.pl A.y A.dt A.c0 A.c4 (s.pr+1))) b=ja (.tup v):=λb v e=>kZ (al.f5 e qN (by intro z;cases z)) (al.f5 e tu (by intro z;cases z)) e;let ayF:∀{l l8:b5}{m eO:uA}{F:Addr->ib×List Nat->Prop},b9 F l m->b9 F l8 eO->b9 F (l++l8) (m++eO):=λ{l l8 m eO F}p gn=>by
  induction p with
  |nil=>show-gn
  |cons r t aW=>show-.cons r aW
 rw[Lx]at Z;exact q _ {A with mr:=A.mr++T} L T #[λb o nb e=>i2 nb (vx _ _ e),λb ae=>.inl ae] #[λb o e=>i2 (λz=>by rw[D.fr b z]at e;cases e) (g.cf _ _ e),D.fo,D.fA,aN,X (dG M.hh) M.jv M.lH g.po,b9.ju g.pt λ_ _ e=>lC _ _ e,#[bZ,X (dG M.lN) M.AI M.Y4 axb],X (dG M.vL) M.xJ M.Aj g.DZ,X (dG M.tW) M.z7 M.Hw g.dt,X (dG M.D0) M.hT M.Iy g.wi,X (dG M.IJ) M.g2 M.g3 g.vI,X (dG M.vM) M.s1 M.s2 g.ws,ZC (λej er _ e=>kZ ej er e) axq fm M.sH M.aG M.aG,(aJ (dG M.AG)).trans wN,ayF (b9.ju g.sp λ_ _⟨c,ai,ak⟩=>#[c,lC _ _ ai,lC _ _ ak]) (b9.ju Z λ_ _⟨c,ai,ak⟩=>#[c,lC _ _ ai,lC _ _ ak]),D.aC,D.fr] axM MY (kZ axO axN acw) (b9.ju Z λ_ _⟨c,ai,ak⟩=>#[c,lC _ _ ai,lC _ _ ak])
end
def PF{hs:ba}{h g:Str}{t:Int}:lu (a8 hs) (pb (h,t,g))=jx↔h∈hs.map S/\g∈hs.map S/\h≠g/\0<=t/\t<=1000000000:=by
 show(h0 (a8 hs) (.str h) (.str g)&&qR 0 1000000000 (.int t))=jx↔_;rw[cJ];let w:qR 0 1000000000 (.int t)=(decide (0<=t)&&decide (t<=1000000000)):=rfl;rw[w,cJ,decide_eq_true_eq,decide_eq_true_eq];constructor
 .rintro⟨u,d,f⟩;unfold h0 at u;rw[cJ,cJ]at u;show#[4,4,4,d,f]
  .by_cases z:h∈hs.map S
   .exact z
   rw[Jv z]at u;cases u.1.1
  .by_cases z:g∈hs.map S
   .exact z
   rw[Jv z]at u;cases u.1.2
  rintro rfl;have:=u.2;simp[kx]at this
 rintro⟨a,b,c,d,f⟩;show#[OE a b c,d,f]
section
variable{P:cx}{w:b0}{K:aI}{mg:b6}{base:Heap}
def aeV:fu:=λ_ _ _ _=>False
def atG{k:Nat}{f:Addr}:-aA a6 k f fd e aeV:=(#[λ_ _ _ _ h=>h.elim,λ_ _ _ _ _ _ _ _ _ _ _ _ _ h=>h.elim])
inductive sW(a7 C CW aD ic:Addr)(vs:aL)(H:af)(Q:aO)(E:bF):Prop where
 |mk(bS:af)(x:Addr)(A:du)(hs:ba)(ds:cY)(s:e0)(i:Int)(_:vs=[.ref x,.int i])(_:ha a7 C CW aD bS H x A hs ds s)(_:¬(0<=i/\i<ds.Z))(_:E (.ref ic) jp H)
abbrev HV:Stmt:=gT (top 63) 11
def atH:cp dv dv (bW HV):=({})
def ari{f:Addr}(F:b1 K "need_road" "Day.need_road" HV f fd)(b:sV K a7)(n:ef K aD)(d:cR K aD "road" "Net.road" xM dv f1 e)(r:-aA (dn P w) 1 f1 e dv (Pd aD ic)):
  -aA (dn P w) 2 f fd dv (sW a7 C CW aD ic):=by
 show-iH F atH (λl y a N H vs Q E k h=>?_);let#[t,x,A,L,ds,s,i,2,D,no,q]:=h;show#[_,(a9 (gD (fg (dE (aa 0)) n d.d5 r k.mono d.bd .nil jn (aj (aa 1) ay)))),4]
 ac_rfl
 let c:=D.fo.same D.cf;let#[m,p]:=c.ins;let g:((bw A.rs).Z:Int)=ds.Z:=by rw[gX,D.fA.len]
 show#[1,x,a7,6,1,D.ins,b.cl,b.nn,2,A.n,m,1,p,7,A.n,A.bb,A.bh,6,i,2,c,λo=>bk (by rwa[<-g]) no,λ_=>q]
abbrev Km:Stmt:=gT (top 63) 5
def apK:cp qm qm (bW Km):=({})
def ana{f:Addr}(F:b1 K "shut" "Day.shut" Km f fd)(k:sV K a7)(b:cR K a7 "need_road" "Day.need_road" HV dv f1 e)(c:-aA (dn P w) 2 f1 e dv (sW a7 C CW aD ic)):
  -aA (dn P w) 3 f fd qm (sW a7 C CW aD ic):=by
 let n:=k.cl;show-iH F apK (λl o a p H vs Q E d h=>?_);show#[_,(a3 (gD (fg (aa 0) n b.d5 c d.mono b.bd .nil jn (aj (aa 1) ay)))
  zP),4]
 ac_rfl
 let#[g,x,A,m,ds,s,i,2,D,no,q]:=h;show#[1,x,A.ah,1,D.ins,7,g,x,A,m,ds,s,i,2,D,no,q]
abbrev K0:Stmt:=gT (top 63) 6
def arj:cp qm qm (bW K0):=({})
def apL{f:Addr}(F:b1 K "reopen" "Day.reopen" K0 f fd)(k:sV K a7)(b:cR K a7 "need_road" "Day.need_road" HV dv f1 e)(c:-aA (dn P w) 2 f1 e dv (sW a7 C CW aD ic)):
  -aA (dn P w) 3 f fd qm (sW a7 C CW aD ic):=by
 let n:=k.cl;show-iH F arj (λl o a p H vs Q E d h=>?_);show#[_,(a3 (gD (fg (aa 0) n b.d5 c d.mono b.bd .nil jn (aj (aa 1) ay)))
  zP),4]
 ac_rfl
 let#[g,x,A,m,ds,s,i,2,D,no,q]:=h;show#[1,x,A.ah,1,D.ins,7,g,x,A,m,ds,s,i,2,D,no,q]
abbrev Lc:Stmt:=gT (top 63) 10
def ark:cp dv dv (bW Lc):=({})
inductive QZ(a7 C CW aD e6:Addr)(vs:aL)(H:af)(Q:aO)(E:bF):Prop where
 |mk(bS:af)(x:Addr)(A:du)(hs:ba)(ds:cY)(s:e0)(i:Nat)(_:vs=[.ref x,.int (i:Int)])(_:ha a7 C CW aD bS H x A hs ds s)(_:s.bN.Z<=i)(_:∀o H',av H H'->E (.ref e6) o H')
def apM{f:Addr}(F:b1 K "spot" "Day.spot" Lc f fd)(B:fc mg)(l:sV K a7)(J:oS K mg "RoadError" e6 R)(I:mg "NoLetter"=ja (.ref e6))(o:m4 K (.ref e6)=jx)(p:cK K (.ref e6) "__init__"=ja (ja (.ref j)))(r:rI K (.ref j)=jx)(M:-aA a6 1 j q dv (FC e6))(t:Binds K q dv []):
  -aA (iv P w) 4 f fd dv (QZ a7 C CW aD e6):=by
 show-je F ark (λ_ T _ X H vs Q E L h=>?_);let#[O,x,A,U,ds,s,i,2,D,no,N]:=h;show#[_,(a3 (eu (jF (z5 q8 vG bt (aa 1) (d4 jC B.len iT (aj (dE (aa 0)) ay)))) (a9 (HF J I o p r M L.mono t rfl (aj (aa 1) ay))) eH)
  zP),4]
 ac_rfl
 let z:(bw A.kD).Z=s.bN.Z:=by have:=D.pt.len;rw[bQ]at this;rwa[gX]
 let go:∀e,H e=jp->FC e6 (V.ref e::[.int (i:Int)]) (upd H e (mw e e6)) (λu k=>u=.cw/\∃a,k e=ja (mv e e6 a)/\E (.ref e6) (ja a) (del k e)) dZ:=λe G=>by
  show#[e,.int (i:Int),2,aN,λa g m=>#[2,a,aN,4]];let n:H a=jp:=by rwa[aJ m]at g
  let y:del (upd (upd (upd H e (mw e e6)) a (mS a [("number",.int (i:Int))])) e (mv e e6 a)) e=upd H a (mS a [("number",.int (i:Int))]):=by
   funext b;by_cases c:b=e
   .subst c;rw[OL,aJ (dG m)];show-G.J
   rw[q0 c,aJ c];by_cases d:b=a
   .subst d;rw[aN,aN]
   rw[aJ d,aJ d,aJ c]
  rw[y];show-N _ _ (b7 n)
 show#[1,3,1,4];show-ey (cQ jQ) #[1,x,a7,A.ah,_,1,D.ins,l.cl,l.no,2,A.pl,1,.inl (aM.of D.po),3,1,4];show-ey (by rw[z,dJ jQ];rfl) #[1,sz_,go]
inductive Q0(a7 C CW aD:Addr)(vs:aL)(H:af)(Q:aO)(E:bF):Prop where
 |mk(bS:af)(x:Addr)(A:du)(hs:ba)(ds:cY)(s:e0)(_:vs=[.ref x])(_:ha a7 C CW aD bS H x A hs ds s)(_:∀l,H l=jp->Q (.ref l) (upd H l (.lst (bw A.mr))))
abbrev Ld:Stmt:=gT (top 63) 8
def arl:cp eg eg (bW Ld):=({})
def apZ{f:Addr}(F:b1 K "log" "Day.log" Ld f fd)(B:fc mg)(b:sV K a7):-aA a6 1 f fd eg (Q0 a7 C CW aD):=by
 show-F.ok arl (λc A a s H vs Q E d h=>?_);let#[g,x,A,k,ds,s,2,D,q]:=h;show#[_,(a9 (ct (iP zv B.list vr (aj (dE (aa 0)) ay)))),4]
 ac_rfl
 show#[1,x,a7,6,1,D.ins,b.cl,b.ns,2,A.c4,1,.inl (aM.of D.c4),q]
abbrev R6:Stmt:=top 113
def arn:cp ix ix (bW R6):=({})
inductive Q1(a7 C CW aD:Addr)(vs:aL)(H:af)(Q:aO)(E:bF):Prop where
 |mk(bS:af)(x:Addr)(v:al.V)(A:du)(hs:ba)(ds:cY)(s:e0)(_:vs=[.ref x,v])(_:ha a7 C CW aD bS H x A hs ds s)(_:0<=s.pr/\s.pr<10 ^ 10)(_:Q (.str (dH (toString s.pr))) H)
def ap0{f:Addr}(F:b1 K "day_turn" "day_turn" R6 f fd)(B:fc mg)(k:ef K a7)(b:cR K a7 "now" "Day.now" KY eg f1 e)(a:-aA a6 1 f1 e eg (QX a7 C CW aD)):-aA a6 2 f fd ix (Q1 a7 C CW aD):=by
 show-F.ok arn (λ_ n _ o H vs Q E c h=>?_);show#[_,(a9 (ct (iP qA B.str o_ (aj (oa (aa 0) k b.d5 a c.mono b.bd .nil cd) ay)))),4]
 ac_rfl
 let#[d,x,v,A,g,ds,s,2,D,l,q]:=h;show#[1,x,_,1,D.ins,2,d,x,A,g,ds,s,2,D,s.pr,2,4,q];let#[m,em]:=agQ l.1;rw[em];show-Dn jQ
inductive A8(a7 C CW aD ic:Addr)(vs:aL)(H:af)(Q:aO)(E:bF):Prop where
 |mk(bS:af)(x v:Addr)(A:du)(hs:ba)(ds:cY)(s:e0)(n:Nat)(_:vs=[.ref x,.ref v])(_:ha a7 C CW aD bS H x A hs ds s)(_:H v=ja (.lst [.int (n:Int)]))(_:ds.Z<=n)(_:E (.ref ic) jp H)
abbrev R7:Stmt:=top 115
def aro:cp ix ix (bW R7):=({})
def ap1{f:Addr}(F:b1 K "day_shut" "day_shut" R7 f fd)(l:ef K a7)(b:cR K a7 "shut" "Day.shut" Km qm f1 e)(a:-aA (dn P w) 3 f1 e qm (sW a7 C CW aD ic)):-aA (dn P w) 4 f fd ix (A8 a7 C CW aD ic):=by
 show-iH F aro (λ_ m _ o H vs Q E d h=>?_);show#[_,(a3 (gD (fg (aa 0) l b.d5 a d.mono b.bd .nil jn (aj (ck e4 (aa 1) bt) ay)))
  zP),4]
 ac_rfl
 let#[g,x,v,A,k,ds,s,n,2,D,c,no,q]:=h;show#[1,x,_,1,D.ins,7,v,_,3,aM.of c,2,g,x,A,k,ds,s,(n:Int),2,D,λz=>(by lia),q]
abbrev R8:Stmt:=top 116
def arp:cp ix ix (bW R8):=({})
def ap2{f:Addr}(F:b1 K "day_reopen" "day_reopen" R8 f fd)(l:ef K a7)(b:cR K a7 "reopen" "Day.reopen" K0 qm f1 e)(a:-aA (dn P w) 3 f1 e qm (sW a7 C CW aD ic)):-aA (dn P w) 4 f fd ix (A8 a7 C CW aD ic):=by
 show-iH F arp (λ_ m _ o H vs Q E d h=>?_);show#[_,(a3 (gD (fg (aa 0) l b.d5 a d.mono b.bd .nil jn (aj (ck e4 (aa 1) bt) ay)))
  zP),4]
 ac_rfl
 let#[g,x,v,A,k,ds,s,n,2,D,c,no,q]:=h;show#[1,x,_,1,D.ins,7,v,_,3,aM.of c,2,g,x,A,k,ds,s,(n:Int),2,D,λz=>(by lia),q]
abbrev R9:Stmt:=top 111
def arq:cp ix ix (bW R9):=({})
inductive Q2(a7 C CW aD e6:Addr)(vs:aL)(H:af)(Q:aO)(E:bF):Prop where
 |mk(bS:af)(x v:Addr)(A:du)(hs:ba)(ds:cY)(s:e0)(h g:Str)(_:vs=[.ref x,.ref v])(_:ha a7 C CW aD bS H x A hs ds s)(_:H v=ja (.lst [.str h,.str g]))(_:Good hs)(_:P9 hs s.bN)(_:s.bN.Z<=40)(_:s.bE.Z=s.bN.Z)(_:∀H,b8 H (.str h) (.str h))(_:∀H,b8 H (.str g) (.str g))
   (AL:rl (a8 hs) ((s.bN++[(h,s.pr,g)]).map pb)->∀H' dC,qo (A.dz x) (dC.dz x) H H'->ha a7 C CW aD bS H' x dC hs ds (EN s h g)->Q (.str (S (b_ s.bN.Z))) H') (Ox:¬rl (a8 hs) ((s.bN++[(h,s.pr,g)]).map pb)->∀o H',av H H'->E (.ref e6) o H')
def ap3{f:Addr}(F:b1 K "day_post" "day_post" R9 f fd)(B:fc mg)(i:ef K a7)(c:cR K a7 "post" "Day.post" J5 gh f1 e)(a:-aA (iv P w) 5 f1 e gh (Qj a7 C CW aD e6)):-aA (iv P w) 6 f fd ix (Q2 a7 C CW aD e6):=by
 show-je F arq (λ_ J _ O H vs Q E m h=>?_);show#[_,(a9 (ct (iP qA B.str o_ (aj (fg (aa 0) i c.d5 a m.mono c.bd .nil vd (aj (ck e4 (aa 1) bt) (aj (ck e4 (aa 1) bt) ay))) ay)))),4]
 ac_rfl
 let#[o,x,v,A,V,ds,s,N,y,2,D,l,G,d,g,k,j,p,q,L]:=h;let b:=aM.of (K:=K) l;show#[1,x,_,1,D.ins,7,v,_,3,b,7,v,_,3,b,2,o,x,A,V,ds,s,N,y,2,D,G,d,g,k,j,p,λyes H' r u t=>#[((s.bN.Z:Nat):Int),2,Dn jQ,4],λno I H' z n M=>L no _ H' n];rw[si];show-q yes H' r u t
abbrev R':Stmt:=top 114
def arO:cp ix ix (bW R'):=({})
inductive Rd(a7 C CW aD e6:Addr)(vs:aL)(H:af)(Q:aO)(E:bF):Prop where
 |mk(bS:af)(x v:Addr)(A:du)(hs:ba)(ds:cY)(s:e0)(n:Nat)(_:vs=[.ref x,.ref v])(_:ha a7 C CW aD bS H x A hs ds s)(_:H v=ja (.lst [.int (n:Int)]))(_:s.bN.Z<=n)(_:∀o H',av H H'->E (.ref e6) o H')
abbrev aeH:Stmt:=gT (top 29) 0
def ap4{f:Addr}(F:b1 K "day_spot" "day_spot" R' f fd)(p:ef K a7)(g:cR K a7 "spot" "Day.spot" Lc dv f1 j)(b:-aA (iv P w) 4 f1 j dv (QZ a7 C CW aD e6))(k:ef K J9)(c:cR K J9 "line" "NotYet.line" aeH eg i e):-aA (iv P w) 5 f fd ix (Rd a7 C CW aD e6):=by
 let a:-aA a6 1 i e eg aeV:=atG;show-je F arO (λ_ r _ t H vs Q E d h=>?_);show#[_,(a9 (ct (oa (fg (aa 0) p g.d5 b d.mono g.bd .nil vd (aj (ck e4 (aa 1) bt) ay)) k c.d5 a d.mono c.bd .nil cd))),4]
 ac_rfl
 let#[m,x,v,A,o,ds,s,n,2,D,l,no,q]:=h;show#[1,x,_,1,D.ins,7,v,_,3,aM.of l,2,m,x,A,o,ds,s,n,2,D,no,q]
abbrev R_:Stmt:=top 117
def arP:cp ix ix (bW R_):=({})
inductive Rf(a7 C CW aD:Addr)(vs:aL)(H:af)(Q:aO)(E:bF):Prop where
 |mk(bS:af)(x:Addr)(v:al.V)(A:du)(hs:ba)(ds:cY)(s:e0)(_:vs=[.ref x,v])(_:ha a7 C CW aD bS H x A hs ds s)(_:∀b∈s.q5,v' b)(_:s.q5.Z<=1000)(_:∀H',av H H'->Q (.str (S (nw (s.q5.map te)))) H')
def ap5{f:Addr}(F:b1 K "day_log" "day_log" R_ f fd)(L:ef K a7)(k:cR K a7 "log" "Day.log" Ld eg f1 i)(a:-aA a6 1 f1 i eg (Q0 a7 C CW aD))(N:bO K mg "show_plan" BB s_ f2 j)(m:-aA a6 2 f2 j s_ (J0 K)):-aA a6 3 f fd ix (Rf a7 C CW aD):=by
 show-F.ok arP (λ_ V _ u H vs Q E d h=>?_);show#[_,(a9 (ct (dp m N d.mono cd (aj (oa (aa 0) L k.d5 a d.mono k.bd .nil cd) ay)))),4]
 ac_rfl
 let#[t,x,v,A,y,ds,s,2,D,ok,n,q]:=h;show#[1,x,_,1,D.ins,2,t,x,A,y,ds,s,2,D,λl g=>#[l,A.mr,s.q5.map te,2,aM.of aN,b9.ju (YM D.sp ok) λ_ _ e=>e.same (b7 g),λb o=>?_,by rwa[bQ],λH' r=>q H' ((b7 g).trans r)]];let#[c,p,2]:=cD.mp o;exact(ok c p).ok
abbrev Sa:Stmt:=top 112
def arQ:cp ix ix (bW Sa):=({})
inductive Rg(a7 C CW aD:Addr)(vs:aL)(H:af)(Q:aO)(E:bF):Prop where
 |mk(bS:af)(x:Addr)(v:al.V)(A:du)(hs:ba)(ds:cY)(s:e0)(d:nY)(_:vs=[.ref x,v])(_:ha a7 C CW aD bS H x A hs ds s)(_:Good hs)(_:Ready hs ds s d)(_:v' ((s.pr,0),[0]))(_:∀H' dC,qo (A.dz x) (dC.dz x) H H'->ha a7 C CW aD bS H' x dC hs ds (Kk hs ds s)->Q (.str (S (nw [te ((s.pr,0),[0])]))) H')
def ap6{f:Addr}(F:b1 K "day_pass" "day_pass" Sa f fd)(y:ef K a7)(l:cR K a7 "pass_turn" "Day.pass_turn" Kl eg f1 e)(c:-aA a6 6 f1 e eg (Qk K a7 C CW aD))(j:bO K mg "show_plan" BB s_ f2 i)(m:-aA a6 2 f2 i s_ (J0 K)):-aA a6 7 f fd ix (Rg a7 C CW aD):=by
 show-F.ok arQ (λ_ z _ J H vs Q E g h=>?_);show#[_,(a9 (ct (dp m j g.mono cd (aj (oa (aa 0) y l.d5 c g.mono l.bd .nil cd) ay)))),4]
 ac_rfl
 let#[o,x,v,A,t,ds,s,d,2,D,G,O,ok,q]:=h;show#[1,x,_,1,D.ins,2,o,x,A,t,ds,s,d,2,D,G,O,λu p aX L V r B I a N=>#[aX,L,[te ((s.pr,0),[0])],2,aM.of a,YM (bs:=[((s.pr,0),[0])]) N λb a=>by rw[d2.mp a];show-ok,λb a=>by rw[d2.mp a];show-ok.ok,(by show 1<=_;decide),λn k=>q n p (V.trans (qo.refl k)) (r.same k)]]
def oy(L:b5)(H:af):af:=λb=>if b∈L then H b else jp
def OH{L:b5}{H:af}{b:Addr}(m:b∈L)(e:H b=ja o):oy L H b=ja o:=by unfold oy;rwa[b2 m]
def đ{L:b5}{H:af}{b:Addr}(e:oy L H b=ja o):b∈L/\H b=ja o:=by
 unfold oy at e;split at e
 .show#[‹_›,e]
 cases e
def BI(n a b:Addr)(rs:b5):List Addr:=n::a::b::rs
theorem ih.oy(N:ih aD H n bb bh xs e):ih aD (oy (BI n bb bh rs) H) n bb bh xs e:=
 let⟨a,b⟩:=N.ins
 #[#[a,OH (.head _) b],OH (.tail _ (.head _)) N.u7,OH (.tail _ (.tail _ (.head _))) N.oA]
theorem Z7{L:b5}:∀{rs:b5}{ds:List aL},h5 H rs ds->(∀r∈rs,r∈L)->h5 (oy L H) rs ds
 |_,_,.nil,_=>.nil
 |_,_,.cons h t,m=>.cons (OH (m _ (.head _)) h) (Z7 t λr a=>m r (.tail _ a))
def gO.oy(R:gO H hs rs ds):gO (oy (BI n a b rs) H) hs rs ds:=(#[Z7 R.gZ λ_ h=>.tail _ (.tail _ (.tail _ h)),R.ok])
abbrev Sb:Stmt:=top 102
def arR:cp f7 f7 (bW Sb):=({})
inductive Rh(a7 C a_ CW aD:Addr)(vs:aL)(H:af)(Q:aO)(E:bF):Prop where
 |mk(x v:Addr)(A:gr)(s:ft)(m:Nat)(_:vs=[.ref x,.ref v])(_:iE a_ CW aD H x A s)(_:H v=ja (.lst [.int (m:Int)]))(_:lQ s)
   (cG:∀H' bZ(B:du)kvs,H bZ=jp->(∀b∈B.dz bZ,H b=jp)->(∀b o,b≠x->H b=ja o->H' b=ja o)->iE a_ CW aD H' x {A with d:=.ref bZ} s->ha a7 C CW aD (oy (BI A.n A.bb A.bh A.rs) H) H' bZ B s.hs s.ds #[(m:Int),[],[],[],kvs,[]]->nh s.hs s.ds kvs->Q (.str "ok") H')
def ap7{f:Addr}(F:b1 K "take_day" "take_day" Sb f fd)(L:oz K a_)(l1:ef K a_)(Es:mg "Day"=ja (.ref a7))(I:nQ K a7 kl)(zy:mi K a7 "Day.__init__" KZ Bn kl uS)(u:-aA a6 5 kl uS Bn (QY a7 C CW aD)):
  -aA a6 7 f fd f7 (Rh a7 C a_ CW aD):=by
 show-F.ok arR (λ_ fO _ s0 H vs Q E G h=>?_);show#[_,(a3 (jo (aa 0) (tI I u G.mono qF Es zy.bd .nil cd (aj (dE (aa 0)) (aj (ck e4 (aa 1) bt) ay))) rfl)
  (a9 (ct cF))),4]
 ac_rfl
 let#[x,v,A,s,m,2,D,aT,hq,q]:=h;let pk:A.rs.Z<=40:=by rw[D.fA.len];show-hq.dy
 show#[1,x,a_,A.ah,_,1,D.ins,L.cl,L.nn,7,v,_,3,aM.of aT,2,λbZ k p aC aee=>?_];let l:av H (upd (upd H k (.own bZ)) bZ (.ins a7 k [])):=gE p (b7 aC);let hd:upd (upd H k (.own bZ)) bZ (.ins a7 k []) bZ=ja (.ins a7 k []):=aN;generalize upd (upd H k (.own bZ)) bZ (.ins a7 k [])=H1 at l hd⊢;show#[bZ,k,A.n,A.bb,A.bh,s.hs,A.rs,s.ds,(m:Int),2,hd,D.fF.fo.same l,hq.g,D.fA.same l,pk,λg B r cf jP Z h2 ST R=>#[2,4]];let c:av H g:=λb o e=>cf b o (cI e p) (l _ _ e);show#[1,x,a_,A.ah,1,c _ _ D.ins,L.cl,L.aC,(by show 4<1000;decide),4];let N:∀b o,b≠x->g b=ja o->upd g x (.ins a_ A.ah (jJ A.n A.l A.y (.ref bZ))) b=ja o:=λb o t e=>by rwa[aJ t]
 let st:ra g (upd g x (.ins a_ A.ah (jJ A.n A.l A.y (.ref bZ)))):=λb o T e=>N b o (λz=>T.1 _ _ _ _ _ _ (gN (e.symm.trans ((gF g z).trans (c _ _ D.ins))))) e;let#[Sz,cc]:=D.fF.ins;let vR:x≠A.t:=al.f5 D.ins D.fF.told (by intro z;cases z);let#[gY,y]:=jP.fo.ins;let#[gG,X]:=D.fF.fo.ins;let U:H1 B.n=ja (.ins aD gY (Fg B.bb B.bh)):=by
  unfold mask at y;split at y
  .cases y
  show-y
 rw[Z]at U;let n:=U.symm.trans (l _ _ X);injection n with n;injection n with _ _ n;unfold Fg at n;injection n with cz O;injection O with O;let aH:B.bb=A.bb:=V.ref.inj (ajl cz).2;let dx:B.bh=A.bh:=V.ref.inj (ajl O).2;let dq:∀b∈B.dz bZ,b≠x:=λb a z=>by
  rcases R b a with e|e
  .exact cI D.ins p (z.symm.trans e)
  rw[z,l _ _ D.ins]at e;cases e
 let j:∀b∈BI A.n A.bb A.bh A.rs,∃o,H b=ja o/\Tame o:=λb a=>by
  rcases dQ.mp a with rfl|a
  .show#[_,X,Ζ]
  rcases dQ.mp a with rfl|a
  .show#[_,D.fF.fo.u7,z4]
  rcases dQ.mp a with rfl|a
  .show#[_,D.fF.fo.oA,z4]
  let#[i,hi]:=qk a;let#[d,6,G]:=D.fA.get hi;show#[_,G,OX]
 let J:av (oy (BI A.n A.bb A.bh A.rs) H) (upd g x (.ins a_ A.ah (jJ A.n A.l A.y (.ref bZ)))):=λb o e=>by let#[e2,hc]:=đ e;let#[cN,Y,T]:=j b e2;rw[Y]at hc;cases hc;show-st b _ T (c _ _ Y)
 show-q _ bZ B r p (λb a=>(R b a).elim (λe=>by rwa[e]) λe=>gQ l e) (λb o t e=>N b o t (c _ _ e)) #[aN,#[#[Sz,st _ _ HJ (c _ _ cc)],(D.fF.fo.same c).jw st,N _ _ vR.symm (c _ _ D.fF.told)],(D.fA.same c).jw st,(D.lt.same c).jw st] ?_ ST;let fr:∀b∈B.dz bZ,H b=jp:=λb a=>(R b a).elim (λe=>by rwa[e]) λe=>gQ l e;let jy:ha a7 C CW aD (oy (BI A.n A.bb A.bh A.rs) H) g bZ B s.hs s.ds #[(m:Int),[],[],[],r,[]]:=
  {jP with
   cf:=λb o e=>c _ _ (đ e).2
   fo:=by rw[Z,aH,dx,h2];exact D.fF.fo.oy
   fA:=by rw[h2];exact D.fA.oy
   fr:=λb a=>by
    unfold oy;split
    .exact fr b a
    rfl}
 show-jy.frame (M:=[x]) J (λb o t e=>N b o (λz=>t (d2.mpr z)) e) (λb a z=>dq b a (d2.mp z)) λb a v z=>by rw[d2.mp a,c _ _ D.ins]at z;cases z
end
def Ŧ:M7 w=jx↔f3 w:=by
 unfold M7 f3;rw[cJ,cJ,iw,E4,E4];show#[λh=>#[h.1.1,h.1.2,λc a=>?_],λh=>#[#[h.1,h.2.1],λc a=>?_]]
 .have:=h.2 c a;rwa[cJ,E4,E4]at this
 rw[cJ,E4,E4];show-h.2.2 c a
structure kc(hs:ba)(a b:bg):Prop where
 g:Good hs
 r_:a∈hs
 jK:b∈hs
 ne:a≠b
section
variable{hs:ba}{a b u v:bg}
def Jz(T:kc hs a b)(h:ow u=jx):S (bf a b u)∉hs.map S:=by unfold ow at h;rw[cJ,mf]at h;rw[lB a b h.1];intro z;let#[y,c,e]:=cD.mp z;have:=Ŧ.mpr (T.g.nm y c);rw[kX e,h.2]at this;cases this
def ap9(T:kc hs a b)(h:okN u=jx):S (bf a b u)∈hs.map S\/ow u=jx:=by
 unfold okN at h;rw[lO,lO]at h;rcases h with(h|h)|h
 .rw[j2 h,sT];show-.inl (cD.mpr #[a,T.r_,2])
 .rw[j2 h,sU];show-.inl (cD.mpr #[b,T.jK,2])
 show-.inr h
def aaC(T:kc hs a b)(h:qY u v=jx):¬(S (bf a b u)∈hs.map S/\S (bf a b v)∈hs.map S/\S (bf a b u)≠S (bf a b v)):=by
 unfold qY at h;rw[cJ,lO,lO]at h;rintro⟨d,f,c⟩;rcases h.2 with(z|z)|z
 .exact c (by rw[j2 z])
 .exact Jz T z d
 show-Jz T z f
def Py{h g:Str}:h0 (a8 hs) (.str h) (.str g)=jx↔h∈hs.map S/\g∈hs.map S/\h≠g:=by let e:=PF (hs:=hs) (h:=h) (g:=g) (t:=0);let c:lu (a8 hs) (pb (h,0,g))=(h0 (a8 hs) (.str h) (.str g)&&qR 0 1000000000 (.int 0)):=rfl;rw[c,show qR 0 1000000000 (.int 0)=jx from rfl,Je]at e;rw[e];show#[λh=>#[h.1,h.2.1,h.2.2.1],λh=>#[h.1,h.2.1,h.2.2,oL _,8]]
def ŧ(T:kc hs a b)(h:qY u v=jx):h0 (a8 hs) (.str (S (bf a b u))) (.str (S (bf a b v)))=jA:=by
 rw[rt]
 exactλz=>aaC T h (Py.mp z)
def alP(T:kc hs a b)(h:okN u=jx):xe (.list (a8 hs++[.str (S (bf a b u))]))=jA:=by
 rw[rt];intro z;let#[_,g,d]:=agE z;rcases ap9 T h with m|m
 .rw[Z3,OK]at d;let d:(hs.map S++[S (bf a b u)]).Nodup:=d;exact(Bg.mp d).2.2 _ m _ (.head _) rfl
 let n:=g _ (oO _ (.head _));unfold ow at m;rw[cJ,mf]at m;rw[lB a b m.1]at n;have:M7 u=jx:=by let n:(decide (1<=(S u).Z)&&decide ((S u).Z<=8)&&(S u).cps.toList.all t7)=jx:=n;rw[cJ,cJ,eY,decide_eq_true_eq,decide_eq_true_eq,iw]at n;show-Ŧ.mpr #[n.1.1,n.1.2,λc f=>?_];have:=n.2 c (by simpa[S]using f);unfold t7 at this;simpa using this
 rw[m.2]at this;cases this
def anA(T:kc hs a b){ds:cY}{n m:Nat}(h:qY u v=jx\/¬(1<=n/\n<=9)\/¬(1<=m/\m<=1000000000)):It (a8 hs) (.list (ds.map (q2 hs)++[YL (S (bf a b u)) (S (bf a b v)) n m]))=jA:=by
 rw[rt];intro z;let z:(decide (_<=40)&&(ds.map (q2 hs)++[YL (S (bf a b u)) (S (bf a b v)) n m]).all (qS (a8 hs)))=jx:=z;rw[cJ,iw]at z;let z:=z.2 _ (oO _ (.head _));let z:(h0 (a8 hs) (.str (S (bf a b u))) (.str (S (bf a b v)))&&(decide ((1:Int)<=n)&&decide ((n:Int)<=9))&&(decide ((1:Int)<=m)&&decide ((m:Int)<=1000000000)))=jx:=z;rw[cJ,cJ,cJ,cJ,decide_eq_true_eq,decide_eq_true_eq,decide_eq_true_eq,decide_eq_true_eq]at z;rcases h with h|h|h
 .rw[ŧ T h]at z;cases z.1.1
 .lia
 lia
def alQ{hs ds:f_}{d:PyData}(h:lu hs d=jA)(m:d∈ds):nj hs ds≠jp:=by
 induction ds with
 |nil=>exact nomatch m
 |cons e r i=>
  unfold nj;rcases dQ.mp m with rfl|m
  .rw[bL (by rw[h];decide)];exact nofun
  split
  .intro z;rw[Option.map_eq_none_iff]at z;show-i m z
  exact nofun
def Z8(T:kc hs a b){f:mn}{t:Int}(h:qY u v=jx\/1000000000<t):¬rl (a8 hs) ((f++[(S (bf a b u),t,S (bf a b v))]).map qT):=by
 intro z;show-alQ (d:=qT (S (bf a b u),t,S (bf a b v))) ?_ (cD.mpr #[_,oO _ (.head _),2]) z.1;rw[rt];intro y;let#[g,k,c,_,l]:=(PF (hs:=hs)).mp y;rcases h with h|h
 .exact aaC T h #[g,k,c]
 lia
def aqa(h:jé w=jx):iF w<10 ^ 10/\w=b_ (iF w):=by unfold jé at h;rw[cJ]at h;show#[hM h.1,j2 h.2]
end
theorem Ē:∀{p:bg},32∉p->eV p=[p]
 |[],_=>rfl
 |c::r,h=>by let a:c≠32:=λz=>h (by rw[z];show-.head _);unfold eV;rw[bL a,Ē (p:=r) λz=>h (.tail _ z)]
theorem ē{q:bg}:∀{p:bg},32∉p->eV (p++32::q)=p::eV q
 |[],_=>by show eV (32::q)=_;rw[eV,b2 rfl]
 |c::r,h=>by show eV (c::(r++32::q))=_;let a:c≠32:=λz=>h (by rw[z];show-.head _);rw[eV,bL a,ē (p:=r) λz=>h (.tail _ z)]
theorem Ũ:∀{ps:ba},ps≠[]->(∀p∈ps,32∉p)->eV (cM [32] ps)=ps
 |[],h,_=>bk rfl h
 |[p],_,h=>Ē (h p (.head _))
 |p::q::r,_,h=>by show eV (p++[32]++cM [32] (q::r))=_;rw[mX];show eV (p++32::cM [32] (q::r))=_;rw[ē (h p (.head _)),Ũ (ps:=q::r) nofun λx a=>h x (.tail _ a)]
def anB(h:K7 l=jx)(d:List ku)(ok:∀b∈d,sO b):l≠nw d:=by
 unfold K7 at h;rw[cJ,cJ,cJ,mf]at h;obtain⟨⟨⟨m,p⟩,_⟩,a⟩:=h;rintro rfl
 match d,ok with
 |[],_=>exact of_decide_eq_false m rfl
 |[b],ok=>
  let o:=ok b (.head _);let e:nw [b]=iD b:=rfl;rw[e,HG o.ne,Ũ (by unfold sj;exact nofun) Zo]at a;unfold sj at a;cases i:b.2.2 with
  |nil=>show-bk i o.ne
  |cons n r=>
   rw[i]at a;let a:(!decide ((b_ b.2.1++[58]).getLast?=ja 58)||!hU (b_ b.1)||!(b_ n::r.map b_).all hU)=jx:=a;let f:(b_ n::r.map b_).all hU=jx:=by rw[iw];intro w t;let#[k,g,2]:=cD.mp (show w∈(n::r).map b_ from t);show-EB (o.n k (by rwa[i]))
   rw[f,EB o.t,ah4,ah5]at a;cases a
 |b::c::r,_=>
  show-j2 p ?_;show 59∈(iD b++[59,32]++cM [59,32] ((c::r).map iD)).dropLast;rw[mX,List.dropLast_append_of_ne_nil (show[59,32]++cM [59,32] ((c::r).map iD)≠[]from nofun)];show-oO _ ?_;show 59∈(59::32::cM [59,32] ((c::r).map iD)).dropLast;rw[List.dropLast_cons_of_ne_nil (show 32::cM [59,32] ((c::r).map iD)≠[]from nofun)];show-.head _
set_option genInjectivity false in
structure Pc where
 (aY Dv le DS dt bZ i_ gz e3 hm n9 po fp Ic sp H9 re lo:Addr)
set_option genInjectivity false in
structure hI where
 (a7 C a_ CW aD la fQ ic e6 J9 lb dR kL kM cv dI g5:Addr)
 cs:List Addr
 R:m6
 F:Pc
inductive jg(Z:hI):Addr->fu->Prop
 |aY:jg Z Z.F.aY (Ź Z.a_ Z.CW Z.aD Z.la)
 |Dv:jg Z Z.F.Dv (Ż Z.a_ Z.CW Z.aD Z.la)
 |le:jg Z Z.F.le (aaa Z.a_ Z.CW Z.aD Z.e6)
 |DS:jg Z Z.F.DS (Ž Z.a_ Z.CW Z.aD Z.fQ Z.ic)
 |dt:jg Z Z.F.dt (ż Z.a_ Z.CW Z.aD)
 |bZ:jg Z Z.F.bZ (Rh Z.a7 Z.C Z.a_ Z.CW Z.aD)
 |i_:jg Z Z.F.i_ (aav Z.a_ Z.CW Z.aD Z.fQ)
 |gz:jg Z Z.F.gz (aaw Z.a_ Z.CW Z.aD Z.fQ Z.J9)
 |e3:jg Z Z.F.e3 (J8 Z.a_ Z.CW Z.aD Fw)
 |hm:jg Z Z.F.hm (J8 Z.a_ Z.CW Z.aD EM)
 |n9:jg Z Z.F.n9 (aaA Z.lb)
 |po:jg Z Z.F.po (Q2 Z.a7 Z.C Z.CW Z.aD Z.e6)
 |fp:jg Z Z.F.fp (Rg Z.a7 Z.C Z.CW Z.aD)
 |Ic:jg Z Z.F.Ic (Q1 Z.a7 Z.C Z.CW Z.aD)
 |sp:jg Z Z.F.sp (Rd Z.a7 Z.C Z.CW Z.aD Z.e6)
 |H9:jg Z Z.F.H9 (A8 Z.a7 Z.C Z.CW Z.aD Z.ic)
 |re:jg Z Z.F.re (A8 Z.a7 Z.C Z.CW Z.aD Z.ic)
 |lo:jg Z Z.F.lo (Rf Z.a7 Z.C Z.CW Z.aD)
def ww:List Nat:=[115,104,111,114,116,101,115,116]
def sX:List Nat:=[114,117,110]
def tT:List Nat:=[104,111,109,101]
def x5:List Nat:=[112,97,115,115]
def x6:List Nat:=[116,117,114,110]
def v_:List Nat:=[108,111,103]
def aaD(F:Pc):List (List Nat×Addr):=[(l7,F.aY),(pf,F.Dv),(oF,F.le),(ua,F.DS),(ww,F.dt),(sS,F.bZ),(K6,F.i_),(Ec,F.gz),(sX,F.e3),(tT,F.hm),(D_,F.n9)]
def FJ(F:Pc):List (List Nat×Addr):=[(sA,F.po),(x5,F.fp),(x6,F.Ic),(Q9,F.sp),(Q',F.H9),(PC,F.re),(v_,F.lo)]
def CJ(Z:hI):List (Addr×Nat):=[(Z.la,0),(Z.fQ,1),(Z.ic,2),(Z.e6,3),(Z.J9,5),(Z.lb,8),(Z.dR,9),(Z.kL,10)]
structure fX(K:aI)(Z:hI):Prop where
 pT:aad K Z.R Z.cv
 eb:∀p∈aaD Z.F,dw K Z.dI (S p.1)=ja (ja (.ref p.2))
 eR:∀p∈FJ Z.F,dw K Z.dI (S p.1)=ja jp
 bZ:∀p∈FJ Z.F,dw K Z.g5 (S p.1)=ja (ja (.ref p.2))
 Vn:∀p∈CJ Z,EO K Z.kM Z.cs p.1 p.2
def il(H:af)(Q:aO)(vs:aL):Prop:=∀l H',H l=jp->av H H'->H' l=ja (.lst vs)->Q (.ref l) H'
def il.after(q:il H Q vs)(s:av H H1):il H1 Q vs:=(λl H' b a h=>q l H' (gQ s b) (s.trans a) h)
def l_(y:Str):List al.V:=[.aX jx,.str y]
abbrev ht(K:aI)(Z:hI):fu:=abc K Z.a_ Z.kM Z.cs (FF K Z.a_ Z.kL Z.dR Z.R Z.cv Z.dI Z.g5 (jg Z))
def MM:List (Nat×List Nat):=[(0,FG),(1,l7),(2,pf),(3,oF),(5,ua),(8,aae),(9,rq),(10,sS)]
def anC{k:Nat}(h:(k,y)∈MM):x'[k]?=ja (S y):=by
 have:∀p∈MM,x'[p.1]?=ja (S p.2):=by left
 show-this _ h
structure BJ(Z:hI)(Q:aO)(eM:aO)(dZ:bF):Prop where
 yes:∀y H',il H' Q (l_ y)->eM (.str y) H'
 no:∀C k y o H',(C,k)∈CJ Z->(k,y)∈MM->il H' Q [.str (S y)]->dZ (.ref C) o H'
section
variable{K:aI}{Z:hI}{x ah eR dl bZ:Addr}{d:al.V}{row:Str}{kw:bg}{ps:ba}{H:af}{Q:aO}{E:bF}{ks:List fl}{us:aL}{a b t:bg}
theorem Å(l:fX K Z)(f:H x=ja (.ins Z.a_ ah (jJ eR dl bZ d)))(h:∀c dZ,BJ Z Q c dZ->uD row (λkw ps=>t8 K Z.R Z.cv (S kw) ps (λus=>OO K Z.dI Z.g5 Z.kL (jg Z) (S kw) x d us H c dZ) (JD Z.dR H dZ)) (JD Z.dR H dZ)):ht K Z [.ref x,.str row] H Q E:=
 #[x,ah,eR,dl,bZ,d,row,2,f,λc dZ n p=>#[x,ah,eR,dl,bZ,d,row,2,f,h c dZ #[n,λC k y o H' g m q=>p C k (S y) o H' (l.Vn _ g) (anC m) q]]]
theorem anD(c:fX K Z)(f:H x=ja (.ins Z.a_ ah (jJ eR dl bZ d)))(g:f3 a)(k:f3 b)(h:xq t=jx)(q:il H Q [.str (S rq)]):ht K Z [.ref x,.str (S (bf a b t))] H Q E:=
 Å c f λm dZ o=>apz c.pT g k h λH' l=>o.no Z.dR 9 rq jp H' (by unfold CJ;simp) qc (q.after l)
theorem O7(g:fX K Z)(m:H x=ja (.ins Z.a_ ah (jJ eR dl bZ d)))(p:pB row kw ps)(k:(kw,ks)∈vP)(n:nT ks (ps.map S) us)(l:∀c dZ,BJ Z Q c dZ->OO K Z.dI Z.g5 Z.kL (jg Z) (S kw) x d us H c dZ):ht K Z [.ref x,.str row] H Q E:=
 Å g m λc dZ o=>.good kw ps p (.good ks us (g.pT.yes _ k) (by
  have:vP.all (λf=>iy f.2.length 10)=jx:=rfl;show-hM (iw.mp this _ k)) n (l c dZ o))
theorem lX{f:Addr}(g:fX K Z)(m:H x=ja (.ins Z.a_ ah (jJ eR dl bZ d)))(w:pB row kw ps)(y:(kw,ks)∈vP)(r:(kw,f)∈aaD Z.F)(n:jg Z f sp)(p:nT ks (ps.map S) us)(k:∀c dZ,BJ Z Q c dZ->∀l H',H l=jp->av H H'->H' l=ja (.lst us)->sp [.ref x,.ref l] H' c dZ):ht K Z [.ref x,.str row] H Q E:=
 O7 g m w y p λc dZ o=>.auw f sp (g.eb _ r) n (k c dZ o)
theorem xm{f c6:Addr}(g:fX K Z)(n:H x=ja (.ins Z.a_ ah (jJ eR dl bZ (.ref c6))))(w:pB row kw ps)(y:(kw,ks)∈vP)(k:(kw,f)∈FJ Z.F)(p:jg Z f sp)(r:nT ks (ps.map S) us)(m:∀c dZ,BJ Z Q c dZ->∀l H',H l=jp->av H H'->H' l=ja (.lst us)->sp [.ref c6,.ref l] H' c dZ):ht K Z [.ref x,.str row] H Q E:=
 O7 g n w y r λc dZ o=>.day c6 f sp (g.eR _ k) rfl (g.bZ _ k) p (m c dZ o)
theorem ajX{f:Addr}(c:fX K Z)(g:H x=ja (.ins Z.a_ ah (jJ eR dl bZ .cw)))(m:pB row kw ps)(n:(kw,ks)∈vP)(l:(kw,f)∈FJ Z.F)(k:nT ks (ps.map S) us)(q:il H Q [.str (S sS)]):ht K Z [.ref x,.str row] H Q E:=
 O7 c g m n k λr dZ o=>.none (c.eR _ l) rfl λH' p=>o.no Z.kL 10 sS jp H' (by unfold CJ;simp) qc (q.after p)
def arS(f:f3 a)(g:f3 b)(h:sQ t=jx)(m:[]∉eV t){k:ba}(e:eV t=kw::k)(l:nH kw=jx):pB (S (bf a b t)) kw (k.map (bf a b)):=by let c:=aac f g h;let z:[]∉(eV t).map (bf a b):=λy=>m ((O0 f g).mp y);rw[<-Ij a b t];rw[e]at c z⊢;rw[hL]at c z⊢;rw[lB a b l]at c z⊢;show-.pl kw _ c z
def arT(k:f3 a)(l:f3 b)(h:IF w=jx):b8 H (.str (S (bf a b w))) (.str (S (bf a b w))):=by let#[_,m,f]:=aab k l h;show-.str _ (by rw[eY];lia) ?_;simp only[m3,S];rw[OP];intro c g;have:=f c (by simpa using g);show-cQ jQ
def aqb(h:sQ t=jx):∀w∈eV t,IF w=jx:=by unfold sQ at h;rw[cJ,cJ,iw]at h;show-h.1.1
def t9(h:jé w=jx):fl.n.fN (S (bf a b w)) (.int (iF w)):=by
 let#[g,f]:=aqa h;show#[iF w,g,4,2];let l:nH w=jx:=by
  unfold nH;rw[iw,f]
  exactλc k=>E5 (by have:=qU k;lia)
 rw[lB a b l,<-f]
end
def kc.hf{c:ba}{a:bg}(T:kc c a b):S a∈c.map S:=(cD.mpr #[a,T.r_,2])
def kc.cf{c:ba}{b:bg}(T:kc c a b):S b∈c.map S:=(cD.mpr #[b,T.jK,2])
structure Sd(hs:ba)(s:e0):Prop where
 g:Good hs
 len:s.bE.Z=s.bN.Z
 CL:s.bN.Z<=40
 lets:P9 hs s.bN
 p:0<=s.pr/\s.pr<=1000000001
 i8:∀b∈s.q5,v' b
 aeU:s.q5.Z<=1000
inductive Se(Z:hI)(H:af)(hs:ba)(ds:cY)(d:al.V):Option e0->Prop
 |no(_:d=.cw):Se Z H hs ds d jp
 |yes(bS:af)(c6:Addr)(B:du)(e7:e0)(_:d=.ref c6)(_:ha Z.a7 Z.C Z.CW Z.aD bS H c6 B hs ds e7)(_:Sd hs e7)(_:e7.bN.Z=1):Se Z H hs ds d (ja e7)
structure gJ(Z:hI)(H:af)(x:Addr)(A:gr)(s:ft)(a b:bg)(o:Option e0):Prop where
 eb:iE Z.a_ Z.CW Z.aD H x A s
 ok:lQ s
 kI:kc s.hs a b
 fN:∃d:cE.f9,s.ds=[d]/\s.hs.getD d.a []=a
 on:ru s.hs s.ds (jb s.bH) 0 s.bN
 st:nh s.hs s.ds (jb s.bH)
 bZ:Se Z H s.hs s.ds A.d o
theorem gJ.same{Z:hI}{A:gr}{s:ft}{o:Option e0}(F:gJ Z H x A s a b o)(c:av H H'):gJ Z H' x A s a b o:=
 #[F.eb.same c,F.ok,F.kI,F.fN,F.on,F.st,by
  rcases F.bZ with e|⟨q,c6,B,u,e,j,i,h⟩
  .exact .no e
  show-.yes q c6 B u e (j.same c) i h]
def gJ.len{Z:hI}{A:gr}{s:ft}{o:Option e0}(F:gJ Z H x A s a b o):0<s.ds.Z:=by let#[d,e,_]:=F.fN;rw[e];show-Kc
def gJ.na{Z:hI}{A:gr}{s:ft}{o:Option e0}(F:gJ Z H x A s a b o):f3 a:=(F.kI.g.nm a F.kI.r_)
def gJ.nb{Z:hI}{A:gr}{s:ft}{o:Option e0}(F:gJ Z H x A s a b o):f3 b:=(F.kI.g.nm b F.kI.jK)
def OI{c:ba}{d:cE.f9}{a:bg}{i:Int}(e:c.getD d.a []=a)(m:i∈mc c [d] (·.a) (S h)):i=0/\h=a:=by
 let#[j,g]:=qk m;let#[k,n,f,b,l]:=Ot (v:=.int i) (by rw[ea,g];rfl);cases k with
 |zero=>
  cases b;show#[V.int.inj f,by rw[<-kX l,e]]
 |succ k=>exact nomatch b
def aqc{f:ba}{ds:cY}{d:cE.f9}{a:bg}{c:gq}(T:kc f a b)(dc:ds=[d])(k:f.getD d.a []=a)(R:∀d∈ds,d.Ok f.Z)(st:nh f ds c):kY c f ds (S a) 13 (S b) [S b] []=.no "none" [S b]:=by
 let g:S b≠S a:=λz=>T.ne (kX z).symm;let w:sy c (S b) (S a)=jp:=by
  have:dV c (h7 (S b) (S a))=jp:=st.kQ.no _ _ λ⟨_,_,z⟩=>by
   let#[v,l]:=wu.mp z;let p:∀e∈jY f ds,1<=e.t:=λe o=>by let#[d,n,2]:=cD.mp o;exact(R d n).t.1
   let m:=(Ih p l g).1;rw[dc]at m;show-T.ne (OI k m).2.symm
  unfold sy;rw[this]
 rw[kY,bL g,w]
def Ĕ{c:ba}{d:cE.f9}{a b:bg}{f:gq}{t:Int}(T:kc c a b)(k:c.getD d.a []=a)(n:c.getD d.b []=b)(R:∀e∈[d],e.Ok c.Z)(st:nh c [d] f)(r:0<=t):ru c [d] f 0 [(S a,t,S b)]:=by
 let m:S a≠S b:=λz=>T.ne (kX z);let l:∀e∈jY c [d],1<=e.t:=λe p=>by let#[d,o,2]:=cD.mp p;exact(R d o).t.1
 let F:=d3.LG l (S b);let#[v,g,_]:=F.back (e:=dc c d) (u:=0) (.head _) (by
  show d3.dist _ (S (c.getD d.b [])) _=_;rw[n];show-F.goal l)
 let g:i0 c [d] (S a) (S b)=ja v:=by rwa[<-k]
 let y:=st.kQ.yes _ _ #[T.hf,m,by rw[g];rfl];rw[(OI k (Ih l g m).1).1]at y;refine .one _ rfl T.hf T.cf m y ?_ r ?_
 .show S (c.getD d.b [])=_;rw[n]
 show S (c.getD d.a [])=_;rw[k]
section
variable{K:aI}{Z:hI}{x:Addr}{A:gr}{s:ft}{a b t k:bg}{o:Option e0}{H:af}{Q:aO}{E:bF}
def BJ.at_{dZ:bF}(o:BJ Z Q h dZ)(i:Nat){j:Nat}(f:av H H')(q:il H Q [.str (S y)])(c:(CJ Z)[i]?=ja (C,j):=by rfl)(d:MM[i]?=ja (j,y):=by rfl):dZ (.ref C) e H':=(o.no C j y e H' (eX c) (eX d) (q.after f))
structure j5(a b t:bg):Prop where
 na:f3 a
 nb:f3 b
 ai:sQ t=jx
 nn:[]∉eV t
def j5.hA{t kw:bg}{qs:ba}(R:j5 a b t)(e:eV t=kw::qs)(l:nH kw=jx:=by rfl):pB (S (bf a b t)) kw (qs.map (bf a b)):=(arS R.na R.nb R.ai R.nn e l)
def j5.kr{t w:bg}(R:j5 a b t)(m:w∈eV t):b8 H (.str (S (bf a b w))) (.str (S (bf a b w))):=(arT R.na R.nb (aqb R.ai w m))
abbrev eS{c:Type}{l:List c}{p:c}(i:Nat)(h:l[i]?=ja p):p∈l:=eX h
variable{u v n m:bg}
theorem alR(f:fX K Z)(F:gJ Z H x A s a b o)(R:j5 a b t)(e:eV t=[l7,u])(h:okN u=jx)(q:il H Q [.str (S FG)]):ht K Z [.ref x,.str (S (bf a b t))] H Q E:=
 lX f F.eb.ins (R.hA e) (eS 0 rfl) (eS 0 rfl) .aY (.cons rfl .nil) λy dZ g l r L c d=>#[x,l,A,s,S (bf a b u),2,F.eb.same c,d,F.ok,R.kr (by rw[e];show-.tail _ (.head _)),.inr #[alP F.kI h,λw p=>g.at_ 0 (c.trans p) q]]
theorem anE(f:fX K Z)(F:gJ Z H x A s a b o)(R:j5 a b t)(e:eV t=[pf,u,v,n,m])(p:jé n=jx)(hm:jé m=jx)(h:qY u v=jx\/¬(1<=iF n/\iF n<=9)\/¬(1<=iF m/\iF m<=1000000000))(q:il H Q [.str (S FG)]):ht K Z [.ref x,.str (S (bf a b t))] H Q E:=
 lX f F.eb.ins (R.hA e) (eS 1 rfl) (eS 1 rfl) .Dv (.cons rfl (.cons rfl (.cons (t9 p) (.cons (t9 hm) .nil)))) λL dZ g l w N c d=>#[x,l,A,s,S (bf a b u),S (bf a b v),iF n,iF m,2,F.eb.same c,d,F.ok,R.kr (by rw[e];show-.tail _ (.head _)),R.kr (by rw[e];show-.tail _ (.tail _ (.head _))),.inr #[anA F.kI h,λy r=>g.at_ 0 (c.trans r) q]]
theorem ajY(f:fX K Z)(F:gJ Z H x A s a b o)(R:j5 a b t)(e:eV t=[oF,u,v,n])(p:jé n=jx)(h:qY u v=jx\/1000000000<iF n)(q:il H Q [.str (S oF)]):ht K Z [.ref x,.str (S (bf a b t))] H Q E:=
 lX f F.eb.ins (R.hA e) (eS 2 rfl) (eS 2 rfl) .le (.cons rfl (.cons rfl (.cons (t9 p) .nil))) λV dZ g l w B c d=>#[x,l,A,s,S (bf a b u),S (bf a b v),iF n,2,F.eb.same c,d,F.ok,R.kr (by rw[e];show-.tail _ (.head _)),R.kr (by rw[e];show-.tail _ (.tail _ (.head _))),λyes=>bk yes (Z8 F.kI (h.imp id λz=>by lia)),λ_ N L i y r j=>g.at_ 3 (c.trans r) q]
def anF(p:fX K Z)(F:gJ Z H x A s a b o)(R:j5 a b t)(e:eV t=[ua,u,v,n])(c:jé n=jx\/n=[45])(h:qY u v=jx)(q:il H Q [.str (S l7)]):ht K Z [.ref x,.str (S (bf a b t))] H Q E:=by
 let L:=ŧ F.kI h;let go:∀d:Option Nat,fl.r.fN (S (bf a b n)) (rj d)->ht K Z [.ref x,.str (S (bf a b t))] H Q E:=λd w=>
  lX p F.eb.ins (R.hA e) (eS 3 rfl) (eS 3 rfl) .DS (.cons rfl (.cons rfl (.cons w .nil))) λi dZ r l N j f g=>#[x,l,A,s,S (bf a b u),S (bf a b v),d,2,F.eb.same f,g,F.ok,R.kr (by rw[e];show-.tail _ (.head _)),R.kr (by rw[e];show-.tail _ (.tail _ (.head _))),λyes=>bk (yes.symm.trans L) qc,λ_ V y=>r.at_ 1 (f.trans y) q]
 rcases c with c|rfl
 .exact go (ja (iF n)) (.inr (t9 c))
 show-go jp (.inl #[by rw[lB a b rfl];decide+kernel,2])
def anG(y:fX K Z)(F:gJ Z H x A s a b o)(R:j5 a b t)(e:eV t=[ua,u,v,n])(N:jé n=jx)(h:u=[0]/\v=[1]/\1<=iF n\/u=[1]/\v=[0])(q:il H Q [.str (S pf)]):ht K Z [.ref x,.str (S (bf a b t))] H Q E:=by
 let#[d,dc,f]:=F.fN;let T:=F.kI;let p:=T.hf;let g:=T.cf;let c:h0 (a8 s.hs) (.str (S (bf a b u))) (.str (S (bf a b v)))=jx/\((iF n:Nat):Int)∉mc s.hs s.ds (·.a) (S (bf a b u)):=by
  rcases h with⟨rfl,rfl,h⟩|⟨rfl,rfl⟩
  .rw[sT,sU];show#[Py.mpr #[p,g,λz=>T.ne (kX z)],λm=>?_];rw[dc]at m;have:=(OI f m).1
   lia
  rw[sT,sU];show#[Py.mpr #[g,p,λz=>T.ne (kX z).symm],λm=>?_];rw[dc]at m;show-T.ne (OI f m).2.symm
 show-lX y F.eb.ins (R.hA e) (eS 3 rfl) (eS 3 rfl) .DS (.cons rfl (.cons rfl (.cons (.inr (t9 N)) .nil))) λB dZ L l i C r w=>#[x,l,A,s,S (bf a b u),S (bf a b v),ja (iF n),2,F.eb.same r,w,F.ok,R.kr (by rw[e];show-.tail _ (.head _)),R.kr (by rw[e];show-.tail _ (.tail _ (.head _))),λ_=>#[1,c.2,λj V=>L.at_ 2 (r.trans V) q],λno=>bk (c.1.symm.trans no) qc]
def ũ(T:kc s.hs a b)(h:(ow u||ow v)=jx):S (bf a b u)∉s.hs.map S\/S (bf a b v)∉s.hs.map S:=by rw[lO]at h;show-h.imp (Jz T) (Jz T)
def aqd(p:fX K Z)(F:gJ Z H x A s a b o)(R:j5 a b t)(e:eV t=[K6,u,v])(h:(ow u||ow v)=jx)(q:il H Q [.str (S l7)]):ht K Z [.ref x,.str (S (bf a b t))] H Q E:=by let no:=ũ F.kI h;show-lX p F.eb.ins (R.hA e) (eS 6 rfl) (eS 6 rfl) .i_ (.cons rfl (.cons rfl .nil)) λy dZ r l w L f g=>#[x,l,A,s,S (bf a b u),S (bf a b v),jp,2,F.eb.same f,g,F.ok,λc d=>(no.elim (bk c) (bk d)),λ_ z=>(nomatch z),λc d=>(no.elim (bk c) (bk d)),λ_=>r.at_ 1 f q]
def ajZ(p:fX K Z)(F:gJ Z H x A s a b o)(R:j5 a b t)(e:eV t=[Ec,u,v])(h:(ow u||ow v)=jx)(q:il H Q [.str (S l7)]):ht K Z [.ref x,.str (S (bf a b t))] H Q E:=by let no:=ũ F.kI h;show-lX p F.eb.ins (R.hA e) (eS 7 rfl) (eS 7 rfl) .gz (.cons rfl (.cons rfl .nil)) λy dZ r l w L f g=>#[x,l,A,s,S (bf a b u),S (bf a b v),2,F.eb.same f,g,F.ok,λc d=>(no.elim (bk c) (bk d)),λc d=>(no.elim (bk c) (bk d)),λ_=>r.at_ 1 f q]
def aj0(p:fX K Z)(F:gJ Z H x A s a b o)(R:j5 a b t)(e:eV t=[Ec,[1],[0]])(q:il H Q [.str (S ua)]):ht K Z [.ref x,.str (S (bf a b t))] H Q E:=by let#[d,dc,g]:=F.fN;let y:=aqc F.kI dc g F.eb.fA.ok F.st;let T:=F.kI;let L:=T.hf;let w:=T.cf;show-lX p F.eb.ins (R.hA e) (eS 7 rfl) (eS 7 rfl) .gz (.cons rfl (.cons rfl .nil)) λC dZ r l V I f c=>?_;rw[sT,sU]at c;show#[x,l,A,s,S b,S a,2,F.eb.same f,c,F.ok,λ_ _ B z=>(nomatch y.symm.trans z),λ_ _ J M _ j i D h N G=>r.at_ 4 (f.trans N) q,λz=>(z.elim (bk w) (bk L))]
def alS(c:fX K Z)(F:gJ Z H x A s a b o)(h:R0 (k,t)=jx)(q:il H Q [.str (S k)]):ht K Z [.ref x,.str (S (bf a b t))] H Q E:=by
 unfold R0 at h;rw[cJ,cJ,mf]at h;let#[#[l,p],h]:=h;let R:j5 a b t:=#[F.na,F.nb,l,of_decide_eq_false p]
 let f:∀{x y z:Bool},(x||y||z)=jx->x=jx\/y=jx\/z=jx:=by decide
 dsimp only at h;split at h
 .rename_i g u e;rw[cJ,decide_eq_true_eq]at h;let#[#[2,2],h]:=h;show-alR c F R e h q
 .rename_i g u v e;rw[lO]at h;rcases h with h|h
  .rw[cJ,cJ,cJ,decide_eq_true_eq]at h;obtain⟨⟨⟨⟨rfl|rfl,rfl⟩,_⟩,_⟩,h⟩:=h
   .exact aqd c F R e h q
   show-ajZ c F R e h q
  let#[2,2,2,2]:=j2 h;show-aj0 c F R e q
 .rename_i g u v n e;replace h:=f h;rcases h with h|h|h
  .rw[cJ,cJ,cJ,cJ,decide_eq_true_eq,lO]at h;obtain⟨⟨⟨⟨⟨rfl,rfl⟩,_⟩,_⟩,d⟩,h⟩:=h;show-ajY c F R e d (h.imp id hM) q
  .rw[cJ,cJ,decide_eq_true_eq,lO,decide_eq_true_eq]at h;obtain⟨⟨⟨rfl,rfl⟩,h⟩,d⟩:=h;show-anF c F R e d h q
  rw[cJ,cJ,decide_eq_true_eq,lO,cJ,decide_eq_true_eq,decide_eq_true_eq]at h;obtain⟨⟨⟨rfl,rfl⟩,h⟩,d⟩:=h;show-anG c F R e d (h.imp (λz=>#[z.1.1,z.1.2,hM z.2]) id) q
 .rename_i g u v n m e;rw[cJ,cJ,cJ,cJ,cJ,decide_eq_true_eq]at h;obtain⟨⟨⟨⟨⟨⟨rfl,rfl⟩,_⟩,_⟩,d⟩,hm⟩,h⟩:=h;show-anE c F R e d hm ?_ q;replace h:=f h;rcases h with h|h|h
  .exact .inl h
  .refine .inr (.inl λz=>?_);rw[E5 z.1,E5 z.2]at h;cases h
  show-.inr (.inr λz=>?_);rw[E5 z.1,E5 z.2]at h;cases h
 cases h
end
theorem ĕ{f:ba}{ds:cY}(R:∀d∈ds,d.Ok f.Z):∀a:List Nat,(∀k∈a,k<ds.Z)->0<=yv ds a/\yv ds a<=9*a.Z
 |[],_=>#[oL _,oL _]
 |k::a,h=>by
  let g:=ĕ R a λj c=>h j (.tail _ c);let b:=h k (.head _);have:=(R _ (getD_mem' (d:=d9) b)).t;let e:yv ds (k::a)=((ds.getD k d9).t:Int)+yv ds a:=by unfold yv;rw[hL,Bi]
  rw[e,e5]
  lia
def anH{a:ba}{ds:cY}{c:gq}(T:nh a ds c)(R:∀d∈ds,d.Ok a.Z)(p:a.Z<=12){h:Str}(f:h∈a.map S):∃o,Fu (d3.dist (jY a ds) h g)=rj o/\∀m,o=ja m->m<10 ^ 10:=by
 cases e:d3.dist (jY a ds) h g with
 |none=>show#[jp,2,λ_ z=>nomatch z]
 |some u=>
  let#[n,_,k,l,r]:=Zx T R p 13 h [h] [] u rfl (jj.mpr #[ee,pI]) (λy b=>by rwa[d2.mp b]) f e (λy b=>by rw[d2.mp b];show#[u,e,oL _]);have:=ĕ R n l;rw[k]at this;show#[ja u.X,4,λm z=>by cases z;lia];show V.int u=V.int ((u.X:Nat):Int);rw[rB this.1]
def Kn:Out->List al.V
 |.ok e=>l_ (S (cM [32] (e.map b_)))
 |.no _ _=>[.str (S ua)]
section
variable{K:aI}{Z:hI}{x:Addr}{A:gr}{s:ft}{a b t k:bg}{o:Option e0}{H:af}{Q:aO}{E:bF}
def anI(n:fX K Z)(F:gJ Z H x A s a b o)(h:So (k,t)=jx)(q:il H Q [.str (S k)]):ht K Z [.ref x,.str (S (bf a b t))] H Q E:=by
 unfold So at h;rw[cJ,cJ,decide_eq_true_eq]at h;obtain⟨⟨⟨rfl,g⟩,c⟩,f⟩:=h;let i:t.Z<=100:=hM f;let li:nH (t.drop 6)=jx:=by unfold K7 at c;rw[cJ,cJ]at c;show-c.1.2
 let e:bf a b t=rT++t.drop 6:=by
  have:t=rT++t.drop 6:=by rw[<-g];exact(Qi 6 t).symm
  conv=>lhs;rw[this]
  rw[qZ,lB a b li,lB a b rfl]
 rw[e];let d:(t.drop 6).Z<=50000:=by rw[yz];lia
 show-lX n F.eb.ins (.n9 (t.drop 6) d) (eS 10 rfl) (eS 10 rfl) .n9 (.cons rfl .nil) λN dZ p l y V r m=>#[x,l,t.drop 6,2,m,d,anB c,λL w=>p.at_ 5 (r.trans w) q]
def anJ(c:fX K Z)(F:gJ Z H x A s a b o)(h:z1 (k,t)=jx)(q:il H Q [.str (S k)]):ht K Z [.ref x,.str (S (bf a b t))] H Q E:=by
 unfold z1 at h;rw[lO]at h;rcases h with h|h
 .exact alS c F h q
 show-anI c F h q
theorem Ū:∀{ks:List fl}{ps:ba},ps.Z=ks.Z->((ks.zip ps).all λx=>match x.1 with
  |.t=>jx
  |.n=>nH x.2&&jé x.2
  |_=>jA)=jx->∃d,nT ks ((ps.map (bf a b)).map S) d
 |[],[],_,_=>#[[],.nil]
 |k::ks,p::ps,l,h=>by
  rw[aik,JN,cJ]at h;let#[d,c]:=Ū (ks:=ks) (ps:=ps) (rG l) h.2;let h:=h.1;cases k with
  |t=>show#[_,.cons rfl c]
  |n=>
   dsimp only at h;rw[cJ]at h;show#[_,.cons (t9 h.2) c]
  |r=>exact nomatch h
  |f=>exact nomatch h
 |[],_::_,l,_=>nomatch l
 |_::_,[],l,_=>nomatch l
def anK(w:fX K Z)(F:gJ Z H x A s a b jp)(h:vm (k,t)=jx)(q:il H Q [.str (S k)]):ht K Z [.ref x,.str (S (bf a b t))] H Q E:=by
 unfold vm adW at h;rw[cJ,cJ,cJ,mf,decide_eq_true_eq]at h;let#[2,#[l,m],h]:=h;let R:j5 a b t:=#[F.na,F.nb,l,of_decide_eq_false m]
 let dc:A.d=.cw:=by
  cases F.bZ with
  |no e=>show-e
 let c:=F.eb.ins;rw[dc]at c;dsimp only at h;split at h
 .rename_i j u e;rw[cJ]at h;let#[lk,h]:=h;let#[f,d,g]:=oN.mp h;rw[cJ,cJ,decide_eq_true_eq,decide_eq_true_eq]at g;let#[#[2,n],L]:=g;let#[z,y]:=Ū (a:=a) (b:=b) n L;let V:f∈vP:=Ö (i:=14) d;let#[p,r,N]:=cD.mp (show f.1∈(FJ Z.F).map ĝ from(cD.mpr #[f,d,2]:f.1∈abi.map ĝ));show-ajX w c (R.hA e lk) (ks:=f.2) V (f:=p.2) (by rwa[<-N]) y q
 cases h
def anL{r:e0}(w:fX K Z)(F:gJ Z H x A s a b (ja r))(h:h3 (k,t)=jx)(q:il H Q [.str (S k)]):ht K Z [.ref x,.str (S (bf a b t))] H Q E:=by
 unfold h3 at h;rw[cJ,cJ,mf]at h;let#[#[D,G],h]:=h;let R:j5 a b t:=#[F.na,F.nb,D,of_decide_eq_false G]
 cases F.bZ with
 |yes i c6 B _ dc Y P I=>
 let p:=F.eb.ins;rw[dc]at p;let#[d,L,_]:=F.fN;let dl:s.ds.Z=1:=by rw[L];rfl
 dsimp only at h;split at h
 .rename_i J n e;rw[cJ,cJ,decide_eq_true_eq]at h;let#[#[h,V],m]:=h;let m:=hM m;rcases h with⟨rfl,rfl⟩|⟨rfl|rfl,rfl⟩
  .exact xm w p (R.hA e) (eS 17 rfl) (eS 3 rfl) .sp (.cons (t9 V) .nil) λN dZ g l y j c f=>#[i,c6,l,B,6,r,iF n,2,Y.same c,f,by rwa[I],λo C z=>g.at_ 3 (c.trans z) q]
  .exact xm w p (R.hA e) (eS 18 rfl) (eS 4 rfl) .H9 (.cons (t9 V) .nil) λN dZ g l y j c f=>#[i,c6,l,B,6,r,iF n,2,Y.same c,f,by rwa[dl],g.at_ 2 c q]
  show-xm w p (R.hA e) (eS 19 rfl) (eS 5 rfl) .re (.cons (t9 V) .nil) λN dZ g l y j c f=>#[i,c6,l,B,6,r,iF n,2,Y.same c,f,by rwa[dl],g.at_ 2 c q]
 .rename_i J u v e;rw[cJ,decide_eq_true_eq]at h;let#[#[2,2],h]:=h;show-xm w p (R.hA e) (eS 14 rfl) (eS 0 rfl) .po (.cons rfl (.cons rfl .nil)) λN dZ g l y j c f=>#[i,c6,l,B,6,r,S (bf a b u),S (bf a b v),2,Y.same c,f,P.g,P.lets,P.CL,P.len,λ_=>R.kr (by rw[e];show-.tail _ (.head _)),λ_=>R.kr (by rw[e];show-.tail _ (.tail _ (.head _))),λyes=>bk yes (Z8 F.kI (.inl h)),λ_ o C z=>g.at_ 3 (c.trans z) q]
 cases h
theorem alT(d:fX K Z)(F:gJ Z H x A s a b o)(q:il H Q (l_ (Fw s))):ht K Z [.ref x,.str (S sX)] H Q E:=
 let R:j5 a b sX:=#[F.na,F.nb,2,8]
 lX (row:=S (bf a b sX)) d F.eb.ins (R.hA (kw:=sX) rfl) (eS 8 rfl) (eS 8 rfl) .e3 .nil λr dZ f l m w c p=>#[x,.ref l,A,s,2,F.eb.same c,F.ok,F.on,F.len,λn g=>f.yes _ _ (q.after (c.trans g))]
theorem aj1(d:fX K Z)(F:gJ Z H x A s a b o)(q:il H Q (l_ (EM s))):ht K Z [.ref x,.str (S tT)] H Q E:=
 let R:j5 a b tT:=#[F.na,F.nb,2,8]
 lX (row:=S (bf a b tT)) d F.eb.ins (R.hA (kw:=tT) rfl) (eS 9 rfl) (eS 9 rfl) .hm .nil λr dZ f l m w c p=>#[x,.ref l,A,s,2,F.eb.same c,F.ok,F.on,F.len,λn g=>f.yes _ _ (q.after (c.trans g))]
def xP:List Nat:=[114,111,117,116,101,32,0,32,1]
def yC:List Nat:=[102,97,114,32,0,32,1]
def x_:List Nat:=[102,97,114,32,1,32,0]
def aiq(n:fX K Z)(F:gJ Z H x A s a b o)(q:il H Q (Kn (kY (jb s.bH) s.hs s.ds (S b) 13 (S a) [S a] []))):ht K Z [.ref x,.str (S (bf a b xP))] H Q E:=by
 let R:j5 a b xP:=#[F.na,F.nb,by left,by left]
 show-lX n F.eb.ins (R.hA (kw:=Ec) (qs:=[[0],[1]]) qL) (eS 7 rfl) (eS 7 rfl) .gz (.cons rfl (.cons rfl .nil)) λL dZ g l p h c f=>?_;rw[sT,sU]at f;show#[x,l,A,s,S a,S b,2,F.eb.same c,f,F.ok,λ_ _ y e m d=>g.yes _ _ (by rw[e]at q;show-q.after (c.trans d)),λ_ _ i j e w m N r d V=>g.at_ 4 (c.trans d) (by rwa[e]at q),λz=>(z.elim (bk F.kI.hf) (bk F.kI.cf))]
inductive wa(s:ft)(h g:bg)(o:Option Nat):Prop where
 |mk(_:Fu (d3.dist (jY s.hs s.ds) (S h) (S g))=rj o)(_:∀m,o=ja m->m<10 ^ 10)
def gJ.ab6(F:gJ Z H x A s a b o){h:bg}(g:bg)(m:S h∈s.hs.map S):∃o,wa s h g o:=by let#[o,c,d]:=anH (g:=S g) F.st F.eb.fA.ok F.kI.g.dy m;show#[o,c,d]
def Æ{c:Option Nat}(g:fX K Z)(F:gJ Z H x A s a b o)(R:j5 a b t)(e:eV t=[K6,u,v])(N:wa s (bf a b u) (bf a b v) c)(dz:S (bf a b u)∈s.hs.map S)(r:S (bf a b v)∈s.hs.map S)(q:il H Q (l_ (S (lL c)))):ht K Z [.ref x,.str (S (bf a b t))] H Q E:=by let#[n,p]:=N;show-lX g F.eb.ins (R.hA e) (eS 6 rfl) (eS 6 rfl) .i_ (.cons rfl (.cons rfl .nil)) λV dZ m l y h d f=>#[x,l,A,s,S (bf a b u),S (bf a b v),c,2,F.eb.same d,f,F.ok,λ_ _=>n,p,λ_ _ L w=>m.yes _ _ (q.after (d.trans w)),λz=>(z.elim (bk dz) (bk r))]
def alU{c:e0}(g:fX K Z)(F:gJ Z H x A s a b (ja c))(q:il H Q (l_ (S (nw (c.q5.map te))))):ht K Z [.ref x,.str (S v_)] H Q E:=by
 let R:j5 a b v_:=#[F.na,F.nb,2,8]
 cases F.bZ with
 |yes e c6 B _ dc Y P h=>
 let d:=F.eb.ins;rw[dc]at d;show-xm (row:=S (bf a b v_)) g d (R.hA (kw:=v_) rfl) (eS 20 rfl) (eS 6 rfl) .lo .nil λy dZ m l p L f w=>#[e,c6,_,B,6,c,2,Y.same f,P.i8,P.aeU,λr n=>m.yes _ _ (q.after (f.trans n))]
def aj2{c:e0}(g:fX K Z)(F:gJ Z H x A s a b (ja c))(q:il H Q (l_ (dH (toString c.pr)))):ht K Z [.ref x,.str (S x6)] H Q E:=by
 let R:j5 a b x6:=#[F.na,F.nb,2,8]
 cases F.bZ with
 |yes e c6 B _ dc Y P h=>
 let d:=F.eb.ins;rw[dc]at d;let p:=P.p;show-xm (row:=S (bf a b x6)) g d (R.hA (kw:=x6) rfl) (eS 16 rfl) (eS 2 rfl) .Ic .nil λw dZ m l n y f r=>#[e,c6,_,B,6,c,2,Y.same f,#[p.1,9],m.yes _ _ (q.after f)]
end
structure yV(p:bg):Prop where
 a:32∉p
 b:p≠[]
 c:p.Z<=20
 d:∀c∈p,c<256
def ya(h:f3 n):yV n:=(#[λz=>by have:=h.2.2 _ z;lia,λz=>by rw[z]at h;show-bk h.1 qc,by have:=h.2.1;lia,λc a=>by have:=h.2.2 c a;lia])
def Ko{m:Nat}(h:m<10 ^ 10):yV (b_ m):=(#[λz=>by have:=qU z;lia,J4 m,eh (pa h) qc,λc a=>by have:=qU a;lia])
def yb{c:Nat}{k:bg}{r:ba}(d:yV (c::k))(h:∀p∈r,yV p)(l:r.Z<=5)(b:c≠99):pB (S (cM [32] ((c::k)::r))) (c::k) r:=by
 let w:∀p∈(c::k)::r,yV p:=λp a=>by
  rcases dQ.mp a with rfl|a
  .exact d
  show-h p a
 show-.pl _ _ #[nofun,by rw[e5];lia,λp a=>#[(w p a).a,(w p a).c,(w p a).d],4] λz=>(w _ z).b rfl;cases r with
 |nil=>show-OZ b
 |cons q r=>show-OZ b
def BL{a b p:bg}(h:p∈[a,b]):p=a\/p=b:=by
 rcases dQ.mp h with h|h
 .exact .inl h
 show-.inr (d2.mp h)
def Fr(x:Addr)(H H':af):Prop:=∀b o,b≠x->H b=ja o->H' b=ja o
def Fr.same(f:Fr x H H1)(s:av H1 h):Fr x H h:=(λb o n e=>s _ _ (f b o n e))
def Fr.trans(f:Fr x H H1)(g:Fr x H1 h):Fr x H h:=(λb o n e=>g b o n (f b o n e))
def ky(K:aI)(Z:hI)(x:Addr)(a:af)(Fin:af->Prop):List Str->af->Prop
 |[],H=>Fin H
 |r::rs,H=>∀(Q:aO)(E:bF),(∀l H' u v,H' l=ja (.lst [u,v])->Fr x a H'->ky K Z x a Fin rs H'->Q (.ref l) H')->ht K Z [.ref x,.str r] H Q E
structure ke(Z:hI)(dD H:af)(x:Addr)(A:gr)(s:ft):Prop where
 eb:iE Z.a_ Z.CW Z.aD H x A s
 ok:lQ s
 fr:Fr x dD H
 aC:A.d=.cw
def ke.same{Z:hI}{A:gr}{s:ft}(a:ke Z e H x A s)(b:av H H'):ke Z e H' x A s:=(#[a.eb.same b,a.ok,a.fr.same b,a.aC])
structure oR(Z:hI)(dD H:af)(x c6:Addr)(A:gr)(s:ft)(fY bS:af)(B:du)(e7:e0):Prop where
 eb:iE Z.a_ Z.CW Z.aD fY x A s
 ok:lQ s
 f0:Fr x dD fY
 fr:Fr x fY H
 aq:H x=ja (.ins Z.a_ A.ah (jJ A.n A.l A.y (.ref c6)))
 bZ:ha Z.a7 Z.C Z.CW Z.aD bS H c6 B s.hs s.ds e7
 dz:∀b∈B.dz c6,fY b=jp
 pr:Sd s.hs e7
def iE.but{H:af}{A:gr}{s:ft}{d:al.V}(D:iE a_ CW aD h x A s)(k:Fr x h H)(c:H x=ja (.ins a_ A.ah (jJ A.n A.l A.y d))):iE a_ CW aD H x {A with d:=d} s:=by let st:ra h H:=λb o g e=>k b o (λz=>g.1 _ _ _ _ _ _ (gN (e.symm.trans ((gF h z).trans D.ins)))) e;let#[a,f]:=D.fF.ins;let l:x≠A.t:=al.f5 D.ins D.fF.told (by intro z;cases z);show#[c,#[#[a,st _ _ HJ f],D.fF.fo.jw st,k _ _ l.symm D.fF.told],D.fA.jw st,D.lt.jw st]
section
variable{K:aI}{Z:hI}{x c6:Addr}{A:gr}{s:ft}{a b:bg}{dD H fY bS:af}{Fin:af->Prop}{rs:bY}{hs:ba}{d:cE.f9}{B:du}{e7:e0}
def oR.same(c:oR Z dD H x c6 A s fY bS B e7)(f:av H H'):oR Z dD H' x c6 A s fY bS B e7:=(#[c.eb,c.ok,c.f0,c.fr.same f,f _ _ c.aq,c.bZ.same f,c.dz,c.pr])
def oR.move{l:du}{g:e0}(f:oR Z dD H x c6 A s fY bS B e7)(k:qo (B.dz c6) (l.dz c6) H H')(bZ:ha Z.a7 Z.C Z.CW Z.aD bS H' c6 l s.hs s.ds g)(p:Sd s.hs g):oR Z dD H' x c6 A s fY bS l g:=by
 let m:∀{c:Addr}{o:hX},fY c=ja o->c∉B.dz c6:=λe z=>by rw[f.dz _ z]at e;cases e
 show#[f.eb,f.ok,f.f0,λc o n e=>k.keep c o (m e) (f.fr c o n e),k.keep _ _ (m f.eb.ins) f.aq,bZ,λc r=>?_,p];rcases k.own c r with z|z
 .exact f.dz c z
 cases e:fY c with
 |none=>rfl
 |some o=>
  by_cases n:c=x
  .rw[n,f.aq]at z;cases z
  rw[f.fr c o n e]at z;cases z
def oR.frame(c:oR Z dD H x c6 A s fY bS B e7):Fr x dD H:=(c.f0.trans c.fr)
def anM:BM hs ds []:=(#[pI,8,λ_ h=>nomatch h])
def Pz{hs:ba}{ds:cY}(g:Good hs)(c:ds.Z<=40)(f:hs.Z<=7):lQ #[hs,ds,[],[]]:=(#[g,c,anM,f,ei _,λ_ h=>nomatch h])
theorem alV{n:bg}(h:fX K Z)(c:ke Z dD H x A #[hs,[],[],[]])(g:Good (hs++[n]))(z:hs.Z<7)(q:∀H' f,ke Z dD H' x f #[hs++[n],[],[],[]]->ky K Z x dD Fin rs H'):ky K Z x dD Fin (S (cM [32] [l7,n])::rs) H:=λQ E k=>by
 let r:=g.nm n (oO _ (.head _));let o2:lQ #[hs++[n],[],[],[]]:=Pz g (ei _) (by rwa[dT]);show-lX h c.eb.ins (yb #[8,8,8,8] (λp e=>by rw[d2.mp e];show-ya r) (hM rfl) qc) (eS 0 rfl) (eS 0 rfl) .aY (.cons rfl .nil) λF dZ u l D G t V=>#[x,l,A,_,S n,2,c.eb.same t,V,c.ok,vQ r,.inl #[n,2,g,2,λN f C y j=>u.yes _ _ λi m I w L=>?_]]
 let o:ke Z dD N x f #[hs++[n],[],[],[]]:=#[j,o2,(c.fr.same t).trans y,C.d.trans c.aC]
 show-k i m _ _ L (o.fr.same w) (q m f (o.same w))
theorem Z9(m:fX K Z):∀(c:ba)(hs:ba)(H:af)(A:gr),ke Z dD H x A #[hs,[],[],[]]->Good (hs++c)->(hs++c).Z<=7->(∀H' k,ke Z dD H' x k #[hs++c,[],[],[]]->ky K Z x dD Fin rs H')->ky K Z x dD Fin (c.map (λn=>S (cM [32] [l7,n]))++rs) H
 |[],hs,H,A,h,g,l,q=>by rw[kK]at q;show-q H A h
 |n::c,hs,H,A,h,g,l,q=>by
  let e:hs++n::c=hs++[n]++c:=by rw[mX];rfl
  rw[e]at g l q;let o:hs.Z<7:=by rw[dT,dT]at l;have:[n].Z=1:=rfl;lia
  show-alV m h #[λy p=>g.nm y (Õ _ p),(Bg.mp g.aC).1,by rw[dT];show-eh o qc] o λH' k f=>Z9 m c (hs++[n]) H' k f g l q
theorem anN{t:Nat}(j:fX K Z)(c:ke Z dD H x A #[hs,[],[],[]])(T:kc hs a b)(n:t<10 ^ 10)(ok:d.Ok hs.Z)(e:sG (S a) (S b) t (1:Nat)=nA hs d)(q:∀H' g,ke Z dD H' x g #[hs,[d],[],[]]->ky K Z x dD Fin rs H'):ky K Z x dD Fin (S (cM [32] [pf,a,b,b_ t,b_ 1])::rs) H:=λQ E k=>by
 let r:=T.g.nm a T.r_;let w:=T.g.nm b T.jK;let o2:lQ #[hs,[d],[],[]]:=Pz T.g (by show 1<=40;decide) c.ok.jG;show-lX (us:=sG (S a) (S b) t (1:Nat)) j c.eb.ins (yb #[8,8,8,8] (λp f=>?_) (hM rfl) qc) (eS 1 rfl) (eS 1 rfl) .Dv (.cons rfl (.cons rfl (.cons #[t,n,2,2] (.cons #[(1),8,2,2] .nil)))) λG dZ C l F I y i=>#[x,l,A,_,S a,S b,t,(1:Nat),2,c.eb.same y,i,c.ok,vQ r,vQ w,.inl #[d,ok,by show 0<40;decide,e,2,λh g D N z=>C.yes _ _ λu m J L V=>?_]]
 .rcases dQ.mp f with rfl|f
  .exact ya r
  rcases dQ.mp f with rfl|f
  .exact ya w
  rcases BL f with rfl|rfl
  .exact Ko n
  show-Ko qc
 let o:ke Z dD h x g #[hs,[d],[],[]]:=#[z,o2,(c.fr.same y).trans N,D.d.trans c.aC]
 show-k u m _ _ V (o.fr.same L) (q m g (o.same L))
theorem alW(N:fX K Z)(c:ke Z dD H x A #[hs,[d],[],[]])(q:∀H' g f,ke Z dD H' x g #[hs,[d],[],f]->nh hs [d] (jb f)->ky K Z x dD Fin rs H'):ky K Z x dD Fin (S ww::rs) H:=λQ E k=>by
 show-lX (row:=S (cM [32] [ww])) N c.eb.ins (yb #[8,8,8,8] (λp L=>nomatch L) (ei _) qc) (eS 4 rfl) (eS 4 rfl) .dt .nil λD dZ j l z F o C=>#[x,_,A,1,c.eb.same o,c.ok,λy g f u t st V i=>j.yes _ _ λe m G r w=>?_]
 let n:ke Z dD y x g #[hs,[d],[],f]:=#[i,#[c.ok.g,c.ok.dy,V,c.ok.jG,ei _,λ_ h=>nomatch h],(c.fr.same o).trans t,u.d.trans c.aC]
 show-k e m _ _ w (n.fr.same r) (q m g f (n.same r) st)
def Ė(T:kc hs a b){t:Int}(f:0<=t)(c:t<=1000000000):rl (a8 hs) [pb (S a,t,S b)]:=by
 let l:lu (a8 hs) (pb (S a,t,S b))=jx:=PF.mpr #[T.hf,T.cf,λz=>T.ne (kX z),f,c];show#[4,by show 1<=40;decide,4]
 .unfold nj;rw[b2 l];rfl
 show Eb [t]<=30;have:Eb [t]=t-t:=rfl
 lia
theorem aj3{t:Nat}{m:List Row}(u:fX K Z)(c:ke Z dD H x A #[hs,[d],[],m])(T:kc hs a b)(M:t<=1000000000)(q:∀H' f,ke Z dD H' x f #[hs,[d],[(S a,(t:Int),S b)],m]->ky K Z x dD Fin rs H'):ky K Z x dD Fin (S (cM [32] [oF,a,b,b_ t])::rs) H:=λQ E k=>by
 let w:=T.g.nm a T.r_;let y:=T.g.nm b T.jK;let n:t<10 ^ 10:=by lia
 show-lX u c.eb.ins (yb #[8,8,8,8] (λp g=>?_) (hM rfl) qc) (eS 2 rfl) (eS 2 rfl) .le (.cons rfl (.cons rfl (.cons #[t,n,2,2] .nil))) λO dZ F l J P L j=>#[x,l,A,_,S a,S b,t,2,c.eb.same L,j,c.ok,vQ w,vQ y,λ_ i f I V D=>F.yes _ _ λC o R N h=>?_,λno=>bk (Ė T jQ jQ) no]
 .rcases dQ.mp g with rfl|g
  .exact ya w
  rcases BL g with rfl|rfl
  .exact ya y
  show-Ko n
 let r:ke Z dD i x f #[hs,[d],[(S a,(t:Int),S b)],m]:=#[D,#[c.ok.g,c.ok.dy,c.ok.bH,c.ok.jG,by show 1<=40;decide,λe G=>by
  rw[d2.mp G];show#[T.hf,T.cf,λz=>T.ne (kX z),by show(0:Int)<=t;lia,by show(t:Int)<=1000000000;lia]],(c.fr.same L).trans V,I.d.trans c.aC]
 show-k C o _ _ h (r.fr.same N) (q o f (r.same N))
theorem aqe{t:Nat}(e:fX K Z)(f:ke Z dD H x A s)(i:t<=1000000000)(q:∀H' c6 fY bS B c,nh s.hs s.ds c->oR Z dD H' x c6 A s fY bS B #[(t:Int),[],[],[],c,[]]->ky K Z x dD Fin rs H'):ky K Z x dD Fin (S (cM [32] [sS,b_ t])::rs) H:=λQ E k=>by
 show-lX e f.eb.ins (yb #[8,8,8,8] (λp V=>by rw[d2.mp V];show-Ko jQ) (hM rfl) qc) (eS 5 rfl) (eS 5 rfl) .bZ (.cons #[t,i,2,2] .nil) λD dZ z l r G g N=>#[x,l,A,_,t,2,f.eb.same g,N,f.ok,λL c6 B c F C w u Y st=>z.yes _ _ λj m I o y=>?_]
 let n:oR Z dD L x c6 A s r _ B #[(t:Int),[],[],[],c,[]]:=#[f.eb.same g,f.ok,f.fr.same g,w,u.ins,Y,C,f.ok.g,2,by show 0<=40;decide,(λ_ h=>nomatch h),#[by show(0:Int)<=t;lia,by show(t:Int)<=1000000001;lia],(λ_ h=>nomatch h),ei _]
 show-k j m _ _ y (n.frame.same o) (q m c6 _ _ B c st (n.same o))
theorem anO{t:Nat}{f:gq}(i:fX K Z)(c:oR Z dD H x c6 A s fY bS B #[(t:Int),[],[],[],f,[]])(T:kc s.hs a b)(G:t<=1000000000)(q:∀H' g,oR Z dD H' x c6 A s fY bS g (EN #[(t:Int),[],[],[],f,[]] (S a) (S b))->ky K Z x dD Fin rs H'):ky K Z x dD Fin (S (cM [32] [sA,a,b])::rs) H:=λQ E k=>by
 let o:=T.g.nm a T.r_;let r:=T.g.nm b T.jK;let L:rl (a8 s.hs) ((([]:mn)++[(S a,(t:Int),S b)]).map pb):=Ė T jQ jQ;show-xm i c.aq (yb #[8,8,8,8] (λp e=>?_) (hM rfl) qc) (eS 14 rfl) (eS 0 rfl) .po (.cons rfl (.cons rfl .nil)) λI dZ u l D J w V=>#[bS,c6,l,B,6,_,S a,S b,2,c.bZ.same w,V,T.g,c.pr.lets,c.pr.CL,c.pr.len,λ_=>vQ o,λ_=>vQ r,λ_ F g C Y=>u.yes _ _ λj m M y N=>?_,λno=>bk L no]
 .rcases BL e with rfl|rfl
  .exact ya o
  show-ya r
 let n:=(c.same w).move C Y #[T.g,2,by show 1<=40;decide,λd z=>by rw[d2.mp z];show#[T.hf,T.cf],c.pr.p,(λ_ h=>nomatch h),ei _];show-k j m _ _ N (n.frame.same y) (q m g (n.same y))
theorem anP{t:Nat}{f:gq}(h:fX K Z)(G:t<=1000000000)(o:ru s.hs s.ds f 0 [(S a,(t:Int),S b)])(l:0<s.ds.Z)(c:oR Z dD H x c6 A s fY bS B (EN #[(t:Int),[],[],[],f,[]] (S a) (S b)))(q:∀H' g,oR Z dD H' x c6 A s fY bS g (Kk s.hs s.ds (EN #[(t:Int),[],[],[],f,[]] (S a) (S b)))->ky K Z x dD Fin rs H'):ky K Z x dD Fin (S x5::rs) H:=λQ E k=>by
 let r:v' (((t:Int),0),[0]):=#[#[by show(0:Int)<=t;lia,by show(t:Int)<10 ^ 10;lia],by show 0<10 ^ 10;decide,λn u=>by rw[d2.mp u];decide,nofun,by show 1<=40;decide]
 show-xm (row:=S (cM [32] [x5])) h c.aq (yb #[8,8,8,8] (λp e=>nomatch e) (ei _) qc) (eS 15 rfl) (eS 1 rfl) .fp .nil λJ dZ j I C M y F=>#[bS,c6,_,B,6,_,1,c.bZ.same y,c.pr.g,#[2,2,o,oL _,2,ei _,l],r,λD g z Y=>j.yes _ _ λi m O L N=>?_]
 let w:=(c.same y).move z Y #[c.pr.g,by unfold Kk;rw[N6];rfl,c.pr.CL,c.pr.lets,#[by show(0:Int)<=t+1;lia,by show(t:Int)+1<=1000000001;lia],λb V=>by rwa[d2.mp V],by show 1<=1000;decide];show-k i m _ _ N (w.frame.same L) (q m g (w.same L))
def wb(o:Option e0):List bg:=match o with
 |none=>[sX,tT,xP,yC,x_]
 |some _=>[sX,tT,xP,yC,x_,v_,x6]
end
def vO(s:ft)(a b:bg)(o1 o2:Option Nat)(o:Option e0):List aL:=
 [l_ (Fw s),l_ (EM s),Kn (kY (jb s.bH) s.hs s.ds (S b) 13 (S a) [S a] []),l_ (S (lL o1)),l_ (S (lL o2))]++match o with
 |none=>[]
 |some e=>[l_ (S (nw (e.q5.map te))),l_ (dH (toString e.pr))]
def Ç{s:ft}{o1 o2:Option Nat}{o:Option e0}:(vO s a b o1 o2 o).Z=(wb o).Z:=by cases o<;>rfl
def xW:al.V->PyData
 |.aX b=>.bool b
 |.str x=>.str x
 |_=>.none
def H7(s:ft)(a b:bg)(o1 o2:Option Nat)(o:Option e0):PyData:=.list ((vO s a b o1 o2 o).map λvs=>.list (vs.map xW))
def yd(vs:aL):Prop:=∀v∈vs,(∃b,v=.aX b)\/∃x,v=.str x/\m3 x=jx
def azu{l:bg}(h:∀c∈l,c<128):m3 (S l)=jx:=by simp only[m3,S];rw[OP];intro x a;have:=h x (by simpa using a);show-cQ jQ
def EI{m c:Nat}(h:c∈b_ m):c<128:=by
 have:=qU h
 lia
theorem Kp{y:bg}{a:ba}(f:∀c∈y,c<128)(d:∀p∈a,∀c∈p,c<128):∀c∈cM y a,c<128:=λc b=>by
 rcases P6 b with z|⟨p,h,z⟩
 .exact f c z
 show-d p h c z
def ū{d:bg}:∀p∈d.map b_,∀c∈p,c<128:=(λp b c a=>by let#[n,1]:=cD.mp b;show-EI a)
theorem ė{f:List ku}:∀c∈nw f,c<128:=Kp qc λp d c a=>by
 let#[b,1]:=cD.mp d;unfold iD at a;simp only[iM]at a;rcases a with(((h|h)|h)|h)|h
 .exact EI h
 .exact(by decide:∀c∈[32],c<128) c h
 .exact EI h
 .exact(by decide:∀c∈[58,32],c<128) c h
 show-Kp qc ū c h
theorem lt_num{o:Option Nat}:∀c∈lL o,c<128:=λc a=>by
 cases o with
 |none=>exact(by decide:∀c∈[45],c<128) c a
 |some m=>show-EI a
theorem Am{l:bg}(h:∀c∈l,c<128):yd (l_ (S l)):=λv a=>by
 rcases dQ.mp a with rfl|a
 .exact .inl #[1]
 show-.inr #[_,d2.mp a,azu h]
def arU(r:Out):yd (Kn r):=by
 cases r with
 |ok e=>show-Am (Kp qc ū)
 |no w sn=>exactλv a=>.inr #[_,d2.mp a,by left]
def Ę{s:ft}{o1 o2:Option Nat}{o:Option e0}(g:∀d,o=ja d->0<=d.pr):∀vs∈vO s a b o1 o2 o,yd vs:=by
 intro vs h;unfold vO at h;rcases iM.mp h with h|h
 .rcases dQ.mp h with rfl|h
  .exact Am ė
  rcases dQ.mp h with rfl|h
  .exact Am (Kp qc λp g c f=>by
    let#[n,1]:=cD.mp g;show-lt_num c f)
  rcases dQ.mp h with rfl|h
  .exact arU _
  rcases dQ.mp h with rfl|h
  .exact Am lt_num
  rw[d2.mp h];show-Am lt_num
 cases o with
 |none=>exact nomatch h
 |some d=>
  rcases dQ.mp h with rfl|h
  .exact Am ė
  rw[d2.mp h];let#[m,em]:=agQ (g d rfl);rw[em,si];show-Am λc f=>EI f
theorem Ŭ:∀{vs:aL},yd vs->ta (vs.map xW)=jx/\pK (vs.map xW)=0
 |[],_=>#[2,2]
 |v::vs,h=>by
  let#[a,c]:=Ŭ (vs:=vs) λu d=>h u (.tail _ d);rw[hL];simp only[ta,pK,a,c,Je];rcases h v (.head _)with⟨b,rfl⟩|⟨x,rfl,aq⟩
  .show#[2,2]
  show#[aq,2]
def aj4{s:ft}{o1 o2:Option Nat}{o:Option e0}(r:∀l,o=ja l->0<=l.pr):(H7 s a b o1 o2 o).canLay0=jx/\wB (H7 s a b o1 o2 o)=jx:=by
 let f:=Ę (s:=s) (a:=a) (b:=b) (o1:=o1) (o2:=o2) r;unfold H7;generalize vO s a b o1 o2 o=d at f;let k:∀d:List aL,(∀vs∈d,yd vs)->ta (d.map λvs=>.list (vs.map xW))=jx/\pK (d.map λvs=>.list (vs.map xW))<=1:=λd=>by
  induction d with
  |nil=>exactλ_=>#[2,ei _]
  |cons vs d e=>
   intro f;let#[g,p]:=e λu w=>f u (.tail _ w);let#[m,t]:=Ŭ (f vs (.head _));rw[hL];simp only[ta,Qv,pK,E_,g,m,t,Je];show#[trivial,9]
 let#[g,p]:=k d f;let c:(Kt (d.map λvs=>.list (vs.map xW))).canLay0=jx:=g;show#[c,N1 (n:=2) c (by simp only[E_];lia) qc]
theorem ŭ{K:aI}:∀{vs:aL},yd vs->sZ K H vs (vs.map xW)
 |[],_=>.nil
 |v::vs,h=>.cons (by
   rcases h v (.head _)with⟨b,rfl⟩|⟨x,rfl,_⟩
   .exact .aX b
   show-.str x) (ŭ λu a=>h u (.tail _ a))
theorem gJ.pr{Z:hI}{A:gr}{s:ft}{o:Option e0}(F:gJ Z H x A s a b o):∀c,o=ja c->0<=c.pr:=λc e=>by
 subst e;cases F.bZ with
 |yes h c6 B _ dc Y P i=>show-P.p.1
section
variable{K:aI}{Z:hI}{x:Addr}{A:gr}{s:ft}{a b:bg}{o1 o2:Option Nat}{o:Option e0}{H:af}{Q:aO}{E:bF}
def asked(f:fX K Z)(F:gJ Z H x A s a b o)(y:wa s a b o1)(L:wa s b a o2){i:Nat}{t:bg}(d:(wb o)[i]?=ja t)(c:(vO s a b o1 o2 o)[i]?=ja vs)(q:il H Q vs):ht K Z [.ref x,.str (S (bf a b t))] H Q E:=by
 let n:j5 a b yC:=#[F.na,F.nb,by left,by left]
 let p:j5 a b x_:=#[F.na,F.nb,by left,by left]
 let w:=F.kI.hf;let r:=F.kI.cf;let m:bf a b [0]=a:=sT a b;let k:bf a b [1]=b:=sU a b;let g:∀i:Nat,[sX,tT,xP,yC,x_][i]?=ja t->[l_ (Fw s),l_ (EM s),Kn (kY (jb s.bH) s.hs s.ds (S b) 13 (S a) [S a] []),l_ (S (lL o1)),l_ (S (lL o2))][i]?=ja vs->ht K Z [.ref x,.str (S (bf a b t))] H Q E:=λi d c=>by
  rcases i with _|_|_|_|_|i
  .cases d;cases c;show-alT f F q
  .cases d;cases c;show-aj1 f F q
  .cases d;cases c;show-aiq f F q
  .cases d;cases c;show-Æ (u:=[0]) (v:=[1]) f F n qL (by rwa[m,k]) (by rwa[m]) (by rwa[k]) q
  .cases d;cases c;show-Æ (u:=[1]) (v:=[0]) f F p qL (by rw[m,k];show-L) (by rwa[k]) (by rwa[m]) q
  cases d
 cases o with
 |none=>
  unfold vO at c;rw[kK]at c;show-g i d c
 |some h=>
  by_cases l:i<5
  .refine g i ?_ ?_
   .let e:wb (ja h)=[sX,tT,xP,yC,x_]++[v_,x6]:=rfl;rwa[e,Bc l]at d
   unfold vO at c;rwa[Bc l]at c
  obtain⟨j,rfl⟩:∃j,i=j+5:=#[i-5,9]
  rcases j with _|_|j
  .cases d;cases c;show-alU f F q
  .cases d;cases c;show-aj2 f F q
  cases d
end
def FI{w a b:bg}{U:al.St}{i j:Nat}{Q:aO}(t:f3 a)(y:f3 b)(q:Q (.str (S (w++a++[32]++b))) H)(r:U[i]?=ja (ja (.str (S a))):=by rfl)(m:U[j]?=ja (ja (.str (S b))):=by rfl)(l:c=S w:=by left)(p:d=S [32]:=by left)(g:iy w.length 100=jx:=by rfl):pv q9 (pv q9 (pv q9 (j6 (.str c)) (pz i)) (j6 (.str d))) (pz j) U H Q:=by let k:=t.2.1;let f:=y.2.1;let g:=hM g;show#[_,r,yn l rfl g k λn=>yn rfl p n (show[32].Z<=1 from cy 1) λo=>#[_,m,yn rfl rfl o f λA=>q]]
section
variable{P:cx}{w:b0}{K:aI}{mg:b6}{base:Heap}
abbrev Le:Stmt:=top 130
abbrev Lf:List Str:=["_law_desk","_law_a","_law_b","_law_day"]
def WF:cp ["_law_desk","_law_a","_law_b","_law_day","_law_rows"] Lf (bW Le):=({})
inductive aaE(K:aI)(Z:hI)(vs:aL)(H:af)(Q:aO)(E:bF):Prop where
 |mk(x:Addr)(A:gr)(s:ft)(a b:bg)(o1 o2:Option Nat)(o:Option e0)(_:vs=[.ref x,.str (S a),.str (S b),.aX o.isSome])(_:gJ Z H x A s a b o)(_:wa s a b o1)(_:wa s b a o2)(_:∀v H',av H H'->k' K H' v (H7 s a b o1 o2 o)->Q v H')
def Kq(a b:bg)(c:ba):List al.V:=c.map λt=>.str (S (bf a b t))
def ţ{Z:hI}{A:gr}{s:ft}{o1 o2:Option Nat}{o:Option e0}{H:af}{Q:aO}{U:al.St}(Y:fX K Z)(F:gJ Z H x A s a b o)(uo:wa s a b o1)(uq:wa s b a o2)(C:H p=ja (.lst (Kq a b (wb o))))(V:U[4]?=ja (ja (.ref p)))(L:hG [jp,ja 0] U=[jp,ja (.ref x)])(q:∀v H',av H H'->k' K H' v (H7 s a b o1 o2 o)->Q v H'):
  jf (QC K (pz 4)) [jp,ja 0] (hR 0) oE (QG (ht K Z) [] E (js (pz 1) (js (pz 0) vV))) U H Q:=by
 let gf:(Kq a b (wb o)).Z=(wb o).Z:=bQ _;let MP:(wb o).Z<=7:=by cases o<;>exact hM rfl
 show-À (J:=j9 K p) (H1:=H) (xs:=Kq a b (wb o)) (λR r=>#[_,V,p,2,#[_,aM.of C],r]) L (oj (aM.of C)) (e8 jQ) (λD i v m=>∃c vs,v=.ref c/\c≠D/\(vO s a b o1 o2 o)[i]?=ja vs/\m c=ja (.lst vs)) ?_ ?_ (λD i y m R j N h6 a8 dm=>?_) (λD H' vs h6 a8 M k N=>?_)
 .rintro D i v m aK s3 ⟨c,vs,rfl,n,f,h⟩;show#[c,vs,2,n,f,s3 _ _ h]
 .rintro D i v m zs ⟨c,vs,rfl,n,f,h⟩;show#[c,vs,2,n,f,by rwa[aJ n]]
 .let#[ys,a8]:=a8;unfold Kq at j;rw[ea]at j;let#[t,I,2]:=hN.mp j;let B:=(gM.mp I).1;rw[<-Ç (s:=s) (a:=a) (b:=b) (o1:=o1) (o2:=o2)]at B;let f:=ew B;show#[5,asked Y (F.same N) uo uq I f λl bo nl c2 X=>dm _ bo c2 #[l,1,(cI a8 nl).symm,f,X]]
 rw[gf]at M;show-q _ H' N (.lst (aM.of a8) ?_);let z:∀{g:aL}{d:List aL},g.Z=d.Z->(∀(i:Nat)(v:al.V),g[i]?=ja v->∃c vs,v=.ref c/\c≠D/\d[i]?=ja vs/\H' c=ja (.lst vs))->(∀vs∈d,yd vs)->sZ K H' g (d.map λvs=>.list (vs.map xW)):=by
  intro g
  induction g with
  |nil=>
   intro d l _ _;cases d with
   |nil=>show-.nil
   |cons=>cases l
  |cons u g T=>
   intro d l h G;cases d with
   |nil=>cases l
   |cons w d=>
    let#[c,vs,2,_,f,L]:=h 0 u rfl;cases f;show-.cons (.lst (aM.of L) (ŭ (G _ (.head _)))) (T (rG l) (λi v e=>h (i+1) v e) λvs O=>G vs (.tail _ O))
 show-z (by rw[M,Ç]) k (Ę F.pr)
def apN{Z:hI}{f:Addr}(F:b1 K "_law_stands" "_law_stands" Le f fd)(t:fX K Z)(X:bO K mg "_law_said" HY yF f1 I)(i:-aA a6 10 f1 I yF (ht K Z)):-aA a6 11 f fd Lf (aaE K Z):=by
 show-F.ok WF (λG fO m s0 H vs Q E B h=>?_);show#[_,(a3 (dg 4 WF.aC (gc (aj cF (aj cF (aj (c5 hP (c5 hP (c5 hP cF (aa 1)) cF) (aa 2)) (aj (c5 hP (c5 hP (c5 hP cF (aa 1)) cF) (aa 2)) (aj (c5 hP (c5 hP (c5 hP cF (aa 2)) cF) (aa 1)) ay)))))))
  (a3 (eu (jE (aa 3)) (a9 (dg 4 WF.aC (c5 oo (aa 4) (gc (aj cF (aj cF ay)))))) eH)
  (a9 (ct (j0 (N':=["_law_row","_law_desk"]) (cs:=[jp,ja 0]) rfl (hF (aa 4)) rfl qL rfl qL (hv (c'.mpr #[2,(λp c=>bk c (ee))])) rfl
   (.own (.mu rfl (.inl rfl) (.inl rfl) rfl .nil))
   (λC N u bP de=>#[(ed 0 (by show(["_law_row","_law_desk"]:bY).Nodup;decide+kernel)),iQ,(dp i X B.mono cd (aj (aa 1) (aj (aa 0) ay)))])))))),4]
 ac_rfl
 show-cut λdf D=>?_;let#[x,A,s,a,b,o1,o2,o,2,F,V,e,q]:=h;let k:=F.na;let l:=F.nb;let j:(dH "run")=S (bf a b sX):=by rw[lB a b rfl];decide+kernel
 let z:(dH "home")=S (bf a b tT):=by rw[lB a b rfl];decide+kernel
 let J:S ([114,111,117,116,101,32]++a++[32]++b)=S (bf a b xP):=by
  have:bf a b xP=bf a b [114,111,117,116,101,32]++bf a b [0]++bf a b [32]++bf a b [1]:=by rw[<-qZ,<-qZ,<-qZ];rfl
  rw[this,sT,sU];rfl
 let M:S ([102,97,114,32]++a++[32]++b)=S (bf a b yC):=by
  have:bf a b yC=bf a b [102,97,114,32]++bf a b [0]++bf a b [32]++bf a b [1]:=by rw[<-qZ,<-qZ,<-qZ];rfl
  rw[this,sT,sU];rfl
 let O:S ([102,97,114,32]++b++[32]++a)=S (bf a b x_):=by
  have:bf a b x_=bf a b [102,97,114,32]++bf a b [1]++bf a b [32]++bf a b [0]:=by rw[<-qZ,<-qZ,<-qZ];rfl
  rw[this,sT,sU];rfl
 dsimp only[h4,t5,Bu,js,j6];show-FI (w:=[114,111,117,116,101,32]) k l (FI (w:=[102,97,114,32]) k l (FI (w:=[102,97,114,32]) l k (sJ λp Y n c=>?_)));rw[j,z,J,M,O]at c;subst D;let d:=F.same n;cases o with
 |none=>show#[5,gV (ţ t d V e c rfl rfl λv H' g=>q v H' (n.trans g))]
 |some e7=>
  show#[5,hb #[1,sJ λfz ag L U=>vY (L _ _ c) U λlG u N r=>?_]];let R:(dH "log")=S (bf a b v_):=by rw[lB a b rfl];decide+kernel
  let T:(dH "turn")=S (bf a b x6):=by rw[lB a b rfl];decide+kernel
  rw[R,T]at r;let y:=n.trans (L.trans N);exact ţ t (F.same y) V e r rfl rfl λv H' g=>q v H' (y.trans g)
end
end dP
namespace bX
open PySem PySem.Spec PyProof.Rows al
section
variable{X:bA}{pos:Pos}
inductive arV(K:aI)(n:Nat)(t:uz)(v:al.V)(U:al.St)(H:af)(Q:(al.St->af->Prop)):Prop where
 |mk(a:_)(xs:_)(_:v=.ref a)(_:aM K H a xs)(_:xs.Z=n)(_:t xs U H Q)
def anQ{k:Nat}{t:uz}{n:Nat}(y:X.calm=jx)(h:Bx X i t)(N:(uE i X.env).Z=n:=by rfl)(V:(uE i X.env).findIdx? (·.1)=jp:=by rfl):pJ X (.Tuple i k pos) (arV X.K n t):=by
 intro c s U H v u Q I r d;let#[a,j,l,K,A,d]:=d;subst l;cases r;let#[f,g,p,q]:=I.list K;rw[assign_Tuple];show-az (DY ?_);unfold unpack;let e:n=f.toArray.size:=by rw[<-A,g.Z];simp
 rw[N,V,e];show-az (mR (PySem.W.kun_itemsOf (I.ok.hd y) p.isList λL w=>?_));let m:Inv X c U H {s with heap:=L}:=I.kept (t':=s.toks) λb o e=>w b o (fH (dO e)) e;show-h c _ U H j _ Q m (by simpa using g) d
set_option maxHeartbeats 8000000
end
end bX
namespace dP
open PySem al bX cE
inductive abm(d:Bool)(p:List Nat×List Nat):Prop where
 |row(_:p.1=rq)(_:xq p.2=jx)
 |ael(_:z1 p=jx)
 |day(_:d=jx)(_:h3 p=jx)
 |none(_:d=jA)(_:vm p=jx)
def refused{K:aI}{Z:hI}{A:gr}{s:ft}{o:Option e0}{p:List Nat×List Nat}(f:fX K Z)(F:gJ Z H x A s a b o)(h:abm o.isSome p)(q:il H Q [.str (S p.1)]):ht K Z [.ref x,.str (S (bf a b p.2))] H Q E:=by
 let#[k,t]:=p;rcases h with⟨d,c⟩|z|⟨d,c⟩|⟨d,c⟩
 .obtain rfl:k=rq:=d;show-anD f F.eb.ins F.na F.nb c q
 .exact anJ f F z q
 .cases o with
  |none=>cases d
  |some e=>show-anL f F c q
 cases o with
 |none=>show-anK f F c q
 |some e=>cases d
def Lg(Z:hI)(x:Addr)(u v:bg)(a:Bool)(H:af):Prop:=∃A s o,gJ Z H x A s u v o/\o.isSome=a
def Ť{K:aI}{Z:hI}{A:gr}{u v:bg}{a:ba}{d:cE.f9}{f:List Row}{m:Nat}(k:fX K Z)(T:kc a u v)(l:m<=1000000000)(dc:a.getD d.a []=u)(t:a.getD d.b []=v)(c:ke Z h H x A #[a,[d],bN,f])(n:ru a [d] (jb f) 0 bN)(st:nh a [d] (jb f)):ky K Z x h (Lg Z x u v e) (if e=jx then[S (cM [32] [sS,b_ m]),S (cM [32] [sA,u,v]),S x5]else[]) H:=by
 cases e with
 |false=>show#[A,_,jp,#[c.eb,c.ok,T,#[d,2,dc],n,st,.no c.aC],2]
 |true=>show-aqe k c l λL c6 j p B y r o=>anO k o T l λi N w=>anP (s:=#[a,[d],bN,f]) k l (Ĕ T dc t c.eb.fA.ok r jQ) Kc w λV g b=>#[6,ja _,#[b.eb.but b.fr b.aq,b.ok,T,#[d,2,dc],n,st,.yes p c6 g _ rfl b.bZ b.pr rfl],2]
def apO{K:aI}{Z:hI}{A:gr}{u v:bg}{r:ba}{gz f:Nat}{L:Bool}(a:fX K Z)(T:kc (u::v::r) u v)(b:(u::v::r).Z<=7)(V:1<=gz/\gz<=9)(c:f<=1000000000)(m:ke Z H H x A #[[],[],[],[]]):ky K Z x H (Lg Z x u v e) ((u::v::r).map (λn=>S (cM [32] [l7,n]))++[S (cM [32] [pf,u,v,b_ gz,b_ 1]),S ww]++(if L=jx then[S (cM [32] [oF,u,v,b_ f])]else[])++if e=jx then[S (cM [32] [sS,b_ f]),S (cM [32] [sA,u,v]),S x5]else[]) H:=by
 rw[mX,mX];show-Z9 a (u::v::r) [] H A m T.g b λt q l=>?_;refine anN (d:=#[0,(1),gz,(1)]) a l T jQ #[aiO _,Nat.succ_lt_succ (aiO _),nofun,by show 1<=(gz:Int)/\(gz:Int)<=9;lia,by show(1:Int)<=1/\(1:Int)<=1000000000;lia] rfl λN w o=>alW a o λy j h g st=>?_;cases L with
 |false=>exact Ť a T c rfl rfl g (.nil rfl) st
 |true=>show-aj3 a g T c λi p k=>Ť a T c rfl rfl k (Ĕ T rfl rfl k.eb.fA.ok st jQ) st
def atI{K:aI}(h:aM K H a xs)(b:ra H H'):aM K H' a xs:=by
 rcases h with(h|⟨o,h⟩)|h
 .exact .inl (.inl (b _ _ z4 h))
 .exact .inl (.inr #[o,b _ _ #[λ_ _ _ _ _ _=>nofun,λ_=>nofun] h])
 show-.inr h
def as5(h:eP H xs [.str x,.str y]):xs=[.str x,.str y]/\m3 x=jx:=by
 cases h with
 |cons ai h=>
  cases h with
  |cons ak h=>
   cases h;let#[2,_,o]:=D7 ai;let#[2,6]:=D7 ak;show#[2,o]
def arW{b:eG}{g:kN}(h:b U H λJ a=>jf (λ_ _ R=>R J a) cs g tt e U a Q):jf b cs g tt e U H Q:=(h)
abbrev R1:List al.V->af->aO->Prop:=λa H Q=>∃i,a=[V.int i]/\i.natAbs.log2<1920/\Q (V.str (dH (toString i))) H
def ť{k:Nat}{Q:aO}(a:k<10 ^ 10)(q:Q (.str (S (b_ k))) H):R1 [.int (k:Int)] H Q:=(#[1,Dn a,by rwa[si]])
def as6{w:bg}{k:Nat}{Q:aO}{b:fR}(a:k<10 ^ 10)(f:∀R:List al.V->af->Prop,R [.int (k:Int)] H->b U H R)(q:Q (.str (S (w++b_ k))) H)(d:c=S w:=by left)(g:iy w.length 100=jx:=by rfl):pv q9 (j6 (.str c)) (pq R1 b) U H Q:=(f _ (ť a (yn d rfl (hM g) (pa a) λ_=>q)))
def abn{w a b:bg}{U:al.St}{i j k:Nat}{Q:aO}{g:fR}(n:f3 a)(o:f3 b)(f:k<10 ^ 10)(y:∀R:List al.V->af->Prop,R [.int (k:Int)] H->g U H R)(q:(w++a++[32]++b++[32]++b_ k).Z<=200->Q (.str (S (w++a++[32]++b++[32]++b_ k))) H)(N:U[i]?=ja (ja (.str (S a))):=by rfl)(t:U[j]?=ja (ja (.str (S b))):=by rfl)(r:c=S w:=by left)(K:d=S [32]:=by left)(L:e=S [32]:=by left)(m:iy w.length 100=jx:=by rfl):pv q9 (pv q9 (pv q9 (pv q9 (pv q9 (j6 (.str c)) (pz i)) (j6 (.str d))) (pz j)) (j6 (.str e))) (pq R1 g) U H Q:=by
 let h:=n.2.1;let p:=o.2.1;let lk:=pa f;let l:(w++a++[32]++b).Z<=117:=by
  have:=hM m;simp only[dT,e5,rD]
  lia
 show-FI n o (yn rfl L l (show[32].Z<=1 from cy 1) λA=>y _ (ť f (yn rfl rfl A lk λV=>q (eh V qc)))) N t r K m
def aj5{a:ba}:(fk (dK a).Z).map (λi=>V.str (S (cM [32] [l7,a.getD i []])))=(a.map λn=>S (cM [32] [l7,n])).map V.str:=by rw[DN,range_getD (λn=>V.str (S (cM [32] [l7,n]))) [] a,hp];rfl
section
variable{P:cx}{w:b0}{K:aI}{mg:b6}{base:Heap}
abbrev BK:Stmt:=top 131
abbrev apP:List Str:=["_law_script","_law_desk","_law_names","_law_a","_law_b","_law_cell","_law_turn","_law_rows","_law_some","_law_day","_law_row","_law_before","_law_k","_law_kind_here"]
def ma:cp apP ["_law_script"] (bW BK):=({})
inductive ahe(K:aI)(Z:hI)(x:Addr)(dD:af)(Fin:af->Prop)(rws:bY)(pre post:al.St)(j:Nat)(U:al.St)(H:af):Prop where
 |mk(v:lh)(_:U=pre++v::post)(_:ky K Z x dD Fin (rws.drop j) H)(_:Fr x dD H)
inductive ahf(dD:af)(pre:al.St)(w:al.V)(j:Nat)(U:al.St)(H:af):Prop where
 |mk(v10 Yl Ym:lh)(_:U=pre++[v10,ja w,Yl,Ym])(_:av dD H)
seal fI a' i7 ie
def apQ{Z:hI}{f:Addr}(F:b1 K "law" "law" BK f fd)(B:fc mg)(b3:fX K Z)(l1:ef K Z.a_)(IL:mg "Desk"=ja (.ref Z.a_))(anR:nQ K Z.a_ kl)(zF:mi K Z.a_ "Desk.__init__" Ny eg kl uS)(ag2:-aA a6 7 kl uS eg (abf Z.a_ Z.CW Z.aD))(tj:bO K mg "_law_cell_at" Nx Bl f0 avg)(GK:-aA a6 1 f0 avg Bl (aaZ K))(CA:bO K mg "_law_houses" Oi EZ f1 cg)(agi:-aA a6 1 f1 cg EZ Z5)(Cw:bO K mg "_law_no_rows" K9 nP f2 dY)(afR:-aA a6 1 f2 dY nP (xN jc xq 68 2))(CB:bO K mg "_law_others" K' nP cV iW)(agj:-aA a6 1 cV iW nP (xN mJ z1 36 2))(CC:bO K mg "_law_in_day" La EW f4 uR)(agk:-aA a6 1 f4 uR EW (xN mJ h3 9 3))(CD:bO K mg "_law_no_day" K_ nP fU F6)(agl:-aA a6 1 fU F6 nP (xN mJ vm 10 2))(tp:bO K mg "_law_said" HY yF SU SY)(Nm:-aA a6 10 SU SY yF (ht K Z))(zg:bO K mg "_law_stands" Le Lf LF avh)(afc:-aA a6 11 LF avh Lf (aaE K Z)):
  -aA a6 12 f fd ["_law_script"] (J3 K):=by
 show-F.ok ma (λcdv fO outer s H vs Q E O h=>?_);show#[_,(a3 (dg 1 ma.aC (akD anR ag2 O.mono qF IL zF.bd .nil cd))
  (a3 (dg 2 ma.aC (dp agi CA O.mono cd (aj (dp GK tj O.mono cd (aj (aa 0) (aj bt ay))) (aj (c5 p3 bt (c5 tK (dp GK tj O.mono cd (aj (aa 0) (aj bt ay))) bt)) ay))))
  (a3 (dg 3 ma.aC (ck e4 (aa 2) bt))
  (a3 (dg 4 ma.aC (ck e4 (aa 2) bt))
  (a3 (dg 5 ma.aC (c5 Iz (dp GK tj O.mono cd (aj (aa 0) (aj bt ay))) bt))
  (a3 (dg 6 ma.aC (c5 tK (dp GK tj O.mono cd (aj (aa 0) (aj bt ay))) (c5 aop bt bt)))
  (a3 (dg 7 ma.aC (c5 oo (j0 (N':=["_law_name"]) (cs:=[jp]) rfl (hF (aa 2)) rfl qL rfl qL (hv (λp aw=>bk aw (ee))) rfl
   (.own .nil)
   (λC s3 aK bP de=>#[(ed 0 (by show(["_law_name"]:bY).Nodup;decide+kernel)),iQ,(c5 hP cF (aa 0))])) (gc (aj (c5 hP (c5 hP (c5 hP (c5 hP (c5 hP (c5 hP cF (aa 3)) cF) (aa 4)) cF) (iP qA B.str o_ (aj (c5 p3 bt (c5 tK (aa 5) bt)) ay))) cF) (aj cF ay)))))
  (a3 (eu (gs q7 (c5 tK (c5 Iz (aa 5) bt) bt) bt (e9 _)) (a9 (gD (kV rH ur uu r6 (aa 7) (aj (c5 hP (c5 hP (c5 hP (c5 hP (c5 hP cF (aa 3)) cF) (aa 4)) cF) (iP qA B.str o_ (aj (aa 6) ay))) ay)))) eH)
  (a3 (dg 8 ma.aC (c5 oo (j0 (N':=oP) (cs:=[jp]) rfl (hF (dp afR Cw O.mono cd (aj (aa 3) (aj (aa 4) ay)))) rfl qL rfl qL (hv (λp aw=>bk aw (ee))) rfl
   (.own .nil)
   (λC s3 aK bP de=>#[(ed 0 (by show(oP:bY).Nodup;decide+kernel)),iQ,(gc (aj cF (aj (aa 0) ay)))])) (dp agj CB O.mono cd (aj (aa 3) (aj (aa 4) ay)))))
  (a3 (dg 9 ma.aC (oi q7 (c5 tK (c5 Iz (aa 5) bt) bt) bt (e9 _)))
  (a3 (eu (jE (aa 9)) (a3 (dg 7 ma.aC (c5 oo (aa 7) (gc (aj (c5 hP cF (iP qA B.str o_ (aj (aa 6) ay))) (aj (c5 hP (c5 hP (c5 hP cF (aa 3)) cF) (aa 4)) (aj cF ay))))))
  (a9 (dg 8 ma.aC (c5 oo (aa 8) (dp agk CC O.mono cd (aj (aa 3) (aj (aa 4) (aj bt ay)))))))) (a9 (dg 8 ma.aC (c5 oo (aa 8) (dp agl CD O.mono cd (aj (aa 3) (aj (aa 4) ay)))))))
  (a3 (l6 lT rfl (hF (aa 7)) (ed 10 ma.aC)
   (a9 (eu (gs AP (d4 jC B.len iT (aj (dp Nm tp O.mono cd (aj (aa 1) (aj (aa 10) ay))) ay)) bt (e9 _)) (a9 (ct nv)) eH)))
  (a3 (dg 11 ma.aC (dp afc zg O.mono cd (aj (aa 1) (aj (aa 3) (aj (aa 4) (aj (aa 9) ay))))))
  (a3 (l6 lT rfl (Hx rfl B.range (aj bt ay)) (ed 12 ma.aC)
   (a3 (aon (ck e4 (aa 8) (c5 tK (c5 tK (c5 D2 (c5 p3 (dp GK tj O.mono cd (aj (aa 0) (aj (c5 p3 bt (aa 12)) ay))) (c5 D2 bt (aa 12))) bt) bt) (d4 jC B.len iT (aj (aa 8) ay)))) (anQ rfl (ng (ed 13 ma.aC) (ng (ed 10 ma.aC) xx))))
  (a9 (eu (lS.pt (x2 (gs (PV O.units) (dp Nm tp O.mono cd (aj (aa 1) (aj (aa 10) ay))) (gc (aj (aa 13) ay)) (e9 _)) (xS (gs (PV O.units) (dp afc zg O.mono cd (aj (aa 1) (aj (aa 3) (aj (aa 4) (aj (aa 9) ay))))) (aa 11) (e9 _))))) (a9 (ct nv)) eH))))
  (a9 (ct nv)))))))))))))))),4]
 ac_rfl
 show-cut λg d=>?_;let#[a,D,2,fx,zr,q]:=h
 refineλx ah dq sd ayw=>#[x,ah,2,aN,λH1 A auF dc axK k1 iL=>#[2,4]]
 let s1:av H H1:=λb o e=>k1 b o (cI e dq) ((gE dq (b7 sd)) _ _ e);clear k1 axK auF;let Gl:=s1.seq fx;obtain⟨m,hm⟩:∃m:Nat,2+D.getD (1:Int).toNat 0%2=(m:Int):=#[(2+D.getD (1:Int).toNat 0%2).toNat,9]
 let Gy:2<=m/\m<=3:=by lia
 show-jd g d ?_;clear g d;intro g d;show#[1,a,D,0,2,Gl,8,1,a,D,(1),2,Gl,8,3,(by show(0:Int)<2;decide),3,D.getD (0:Int).toNat 0,m,4,9,λfM ag zW s2 ai=>?_]
 .show[V.int _,V.int (2+D.getD (1:Int).toNat 0%2)]=_;rw[hm]
 obtain⟨hs,LB⟩:∃hs,hs=vt (D.getD (0:Int).toNat 0) m:=#[1]
 let G:Good hs:=by rw[LB];show-agw jQ
 let au:hs.Z=m:=by rw[LB,Ya]
 rw[<-LB]at ai;clear LB hm;obtain⟨u,v,r,rfl⟩:∃u v r,hs=u::v::r:=by
  match hs,au with
  |[],h=>rw[<-h]at Gy;show-bk Gy.1 qc
  |[_],h=>rw[<-h]at Gy;show-bk Gy.1 (show¬(2:Nat)<=1 by decide)
  |u::v::r,_=>show#[u,v,r,2]
 let T:kc (u::v::r) u v:=#[G,.head _,.tail _ (.head _),λz=>(jj.mp G.aC).1 (by rw[z];show-.head _)]
 let zX:=G.nm u (.head _);let zY:=G.nm v (.tail _ (.head _));let Gm:=s2.seq Gl;let jP:=iL.same s2;let cB:ke Z ag ag x A #[[],[],[],[]]:=#[jP,Pz #[λ_ h=>(nomatch h),pI,ei _] (ei _) (ei _),λ_ _ _ e=>e,dc]
 clear iL jP;show-jd g d ?_;clear g d;intro g d;show#[1,fM,_,3,aM.of ai,(jV (j:=0) rfl),4];show-jd g d ?_;clear g d;intro g d;show#[1,fM,_,3,aM.of ai,(jV (j:=1) rfl),4];show-jd g d ?_;clear g d;intro g d;show#[1,a,D,(1),2,Gm,8,3,#[8,8],4];show-jd g d ?_;clear g d;intro g d;show#[1,a,D,(2),2,Gm,8,3,#[8,8,8],3,(by show(0:Int)<10 ^ (9:Int).toNat;decide),4];let m9:0<=D.getD (2:Int).toNat 0%10 ^ (9:Int).toNat:=A_ _ qc;let ig:D.getD (2:Int).toNat 0%10 ^ (9:Int).toNat < 10 ^ (9:Int).toNat:=PJ _ qc;obtain⟨I,SQ⟩:∃I:Nat,D.getD (2:Int).toNat 0%10 ^ (9:Int).toNat=(I:Int):=#[_,(rB m9).symm]
 let cm:I<=1000000000:=by
  let e:(10:Int) ^ (9:Int).toNat=1000000000:=by decide
  rw[e]at ig SQ
  lia
 show-jd g d ?_;clear g d;intro g d;show h4 _ _ _ [ja (.ref a),ja (.ref x),ja (.ref fM),ja (.str (S u)),ja (.str (S v)),ja (.int (D.getD (1:Int).toNat 0/2)),ja (.int (D.getD (2:Int).toNat 0%10 ^ (9:Int).toNat)),jp,jp,jp,jp,jp,jp,jp] ag;rw[SQ];generalize D.getD (1:Int).toNat 0/2=rS;clear m9 ig SQ;obtain⟨gz,GD⟩:∃gz:Nat,(1:Int)+rS%9=(gz:Int):=#[(1+rS%9).toNat,9]
 let awV:1<=gz/\gz<=9:=by lia
 let ov:(dK (u::v::r)).Z<=3:=by rw[DN,au];show-Gy.2
 show-Al ?_;refine xB (J:=j9 K fM) (H1:=ag) (xs:=dK (u::v::r)) (rest:=[]) (λR h=>#[1,fM,2,#[_,aM.of ai],h]) rfl (oj (aM.of ai)) (e8 jQ) (λi=>.str (S (cM [32] [l7,(u::v::r).getD i []]))) (λi y aK R dk ax k=>?_) (λbV aK ays ts s3=>?_)
 .let#[z,2,eo]:=RD dk;rw[ea]at eo;let#[n,gj,2]:=hN.mp eo;let k2:=k aK (av.refl _);rw[A5 gj]at k2;let ln:=(G.nm n (eX gj)).2.1;show#[1,aa0 (u:=l7++[32]) qL rfl rfl (by rw[dT];show 6+n.Z<=_;lia) k2]
 rw[aj5]at ts;dsimp only[Bu,js,j6];show-abn (w:=[114,111,97,100,32]) (k:=gz) zX zY jQ (λR cW=>#[1,3,qc,3,4]) λdX=>yn rfl (v:=[32,49]) qL dX (show 2<=2 from cy 2) λ_=>sJ λdj c9 b4 o8=>?_
 .show R [V.int (1+rS%9)] aK;rwa[GD]
 let Xl:av ag c9:=s3.trans b4;obtain⟨nz,LC⟩:∃nz:List Str,nz=(u::v::r).map (λn=>S (cM [32] [l7,n]))++[S (cM [32] [pf,u,v,b_ gz,b_ 1]),S ww]:=#[1]
 let ab2:[V.str (S ([114,111,97,100,32]++u++[32]++v++[32]++b_ gz++[32,49])),V.str (dH "shortest")]=[S (cM [32] [pf,u,v,b_ gz,b_ 1]),S ww].map V.str:=by
  let aG:dH "shortest"=S ww:=by left
  let aP:b_ 1=[49]:=by decide
  let cz:[114,111,97,100,32]++u++[32]++v++[32]++b_ gz++[32,49]=cM [32] [pf,u,v,b_ gz,[49]]:=by show _=pf++[32]++(u++[32]++(v++[32]++(b_ gz++[32]++[49])));simp[pf]
  rw[aG,aP,cz];rfl
 rw[ab2]at o8;show#[bV,dj,3,b4 _ _ ts,o8,mZ (e8 (by rw[bQ,bQ,au,bQ];show m+2<=1000;lia)),λN Ww=>?_];rw[<-fP,<-LC];let z_:av ag (upd c9 N (.lst (nz.map V.str))):=Xl.trans (b7 Ww);let vl:ag N=jp:=gQ Xl Ww;let M:upd c9 N (.lst (nz.map V.str)) N=ja (.lst (nz.map V.str)):=aN;show-jd g d ?_;clear g d;intro g d;show h4 _ _ _ [ja (.ref a),ja (.ref x),ja (.ref fM),ja (.str (S u)),ja (.str (S v)),ja (.int rS),ja (.int (I:Int)),ja (.ref N),jp,jp,jp,jp,jp,jp] (upd c9 N (.lst (nz.map V.str)));generalize upd c9 N (.lst (nz.map V.str))=bo at z_ M⊢;clear ts o8 ab2 s3 b4 Xl ays Ww;let adH:nz.Z=m+2:=by rw[LC,dT,bQ,au];rfl
 let key:∀(L:Bool)(ud:af),av ag ud->ud N=ja (.lst ((nz++if L=jx then[S (cM [32] [oF,u,v,b_ I])]else[]).map V.str))->g {dq:=λx H'=>Q V.cw H',gz:=Q} [ja (.ref a),ja (.ref x),ja (.ref fM),ja (.str (S u)),ja (.str (S v)),ja (.int rS),ja (.int (I:Int)),ja (.ref N),jp,jp,jp,jp,jp,jp] ud:=?_
 .show#[1,3,#[8,8],3,(by show(0:Int)<2;decide),7,KJ (λ_=>?_) (λ_=>?_)]
  .show#[1,.inl #[2,_,aM.of M],abn (w:=[108,101,116,116,101,114,32]) (k:=I) zX zY jQ (λR cW=>#[1,cW]) λdX=>#[N,3,M,e8 (by rw[bQ,adH];lia),key jx _ (gE vl z_) ?_]];let cz:[108,101,116,116,101,114,32]++u++[32]++v++[32]++b_ I=cM [32] [oF,u,v,b_ I]:=by show _=oF++[32]++(u++[32]++(v++[32]++b_ I));simp[oF]
   rw[cz,aN,b2 rfl,fP];rfl
  show-key jA bo z_ (by rwa[bL qc,kK])
 clear M z_ bo c9;intro L bo z_ M;obtain⟨Dw,erw⟩:∃Dw:List Str,Dw=nz++if L=jx then[S (cM [32] [oF,u,v,b_ I])]else[]:=#[1]
 rw[<-erw]at M;let axB:Dw.Z<=m+3:=by
  rw[erw,dT,adH];cases L
  .exact aiB (ei 1) _
  show-cy _
 show-jd g d ?_;clear g d;intro g d;show-Al ?_;show-arW ?_;show#[5,2,u,v,[],2,.inl rfl,zX,zY,λbB gA g_ aej dX fC ij=>?_];let#[Rm,aAn,2,TP,w',MA]:=qX ij;show#[Rm,2,#[_,aM.of TP],4];refine Á (K:=K) (x:=dH "row") (k:=rq) (wi:=λ_ _ R=>R (j9 K Rm) g_) (cs:=[jp]) qL qc qL (λR h=>h) TP w' MA rfl λh_ kJ kH jG=>?_;show#[5,2,u,v,[],2,.inl rfl,zX,zY,λus hT g0 Dh dr h8 my=>?_];let#[Rn,afz,2,acD,Us,adl]:=qX jG;let#[Ro,D8,2,Cj,Ut,Cs]:=qX my;show-vY (h8 _ _ acD) Cj (hn:=mZ (e8 jQ)) λlH rA nB X=>?_;let Ct:eP rA (afz++D8) ((bB.map (λt=>(rq,t))++us).map (mJ u v)):=by rw[fP];exact((adl.same (h8.trans nB)).append (Cs.same nB))
 let Lj:∀p∈bB.map (λt=>(rq,t))++us,(p.1=rq/\xq p.2=jx)\/z1 p=jx:=λp aw=>by
  rcases iM.mp aw with h|h
  .let#[t,cm,2]:=cD.mp h;show-.inl #[2,iw.mp aej t cm]
  show-.inr (iw.mp Dh p h)
 let zL:(bB.map (λt=>(rq,t))++us).Z=104:=by rw[dT,bQ,dX,dr]
 generalize bB.map (λt=>(rq,t))++us=W2 at Ct Lj zL;generalize afz++D8=sH at Ct X;let Xq:=fC.trans (kH.trans (h8.trans nB));let Xm:=z_.trans Xq;let M:=Xq _ _ M;clear fC kH h8 nB Xq ij jG my TP w' MA acD Us adl Cj Ut Cs aej Dh dX dr bB us aAn z_ Rm Rn Ro g_ kJ g0;show-jd g d ?_;clear g d;intro g d;show#[1,3,#[8,8],3,(by show(0:Int)<2;decide),2,4];show-jd g d ?_;clear g d;intro g d;show h4 _ _ _ [ja (.ref a),ja (.ref x),ja (.ref fM),ja (.str (S u)),ja (.str (S v)),ja (.int rS),ja (.int (I:Int)),ja (.ref N),ja (.ref lH),ja (.aX (decide (V.int (rS/18%2)=V.int 1))),jp,jp,jp,jp] rA;generalize decide (V.int (rS/18%2)=V.int 1)=dd;let key:∀(N lH:Addr)(ud:af)(xs:aL)(ps:List (List Nat×List Nat)),av ag ud->ud N=ja (.lst ((Dw++if dd=jx then[S (cM [32] [sS,b_ I]),S (cM [32] [sA,u,v]),S x5]else[]).map V.str))->ud lH=ja (.lst xs)->eP ud xs (ps.map (mJ u v))->(∀p∈ps,abm dd p)->1<=ps.Z->ps.Z<=200->g {dq:=λx H'=>Q V.cw H',gz:=Q} [ja (.ref a),ja (.ref x),ja (.ref fM),ja (.str (S u)),ja (.str (S v)),ja (.int rS),ja (.int (I:Int)),ja (.ref N),ja (.ref lH),ja (.aX dd),jp,jp,jp,jp] ud:=?_
 .let awF:I<10 ^ 10:=qq cm qc;let aFa:sH.Z=104:=by rw[Ct.len,bQ,zL]
  show#[5,KJ (λwQ=>?_) (λwQ=>?_)]
  .refine Al ?_;show#[1,4];dsimp only[Bu,js,j6];show-as6 (w:=[100,97,121,32]) awF (λR cW=>#[1,cW]) (FI (w:=[112,111,115,116,32]) zX zY (sJ λbV agG hf ts=>vY (hf _ _ M) ts (hn:=mZ (e8 (by rw[bQ];show Dw.Z+3<=1000;lia))) λayE bS cf adb=>?_));let aP:S ([112,111,115,116,32]++u++[32]++v)=S (cM [32] [sA,u,v]):=by show _=S (sA++[32]++(u++[32]++v));simp[sA]
   let cz:dH "pass"=S x5:=by left
   rw[aP,cz]at adb;show#[5,1,2,u,v,[.int 1],2,.inr rfl,zX,zY,λus hT cn Dh dr sc my=>?_];let#[Ro,D8,2,Cj,Ut,Cs]:=qX my;let aeE:=hf.trans cf;show-vY (sc _ _ (aeE _ _ X)) Cj (hn:=mZ (e8 jQ)) λW0 hl d7 UQ=>?_;let aeF:=aeE.trans (sc.trans d7);show-key ayE W0 hl (sH++D8) (W2++us) (Xm.trans aeF) ?_ UQ ?_ (λp aw=>?_) (by rw[dT,zL];lia) (by rw[dT,zL,dr];decide)
   .rw[b2 wQ,fP];show-d7 _ _ (sc _ _ adb)
   .rw[fP];exact(Ct.same aeF).append (Cs.same d7)
   rcases iM.mp aw with h|h
   .rcases Lj p h with⟨aF,aE⟩|z
    .exact .row aF aE
    show-.ael z
   show-.day wQ (iw.mp Dh p h)
  show#[5,1,2,u,v,[],2,.inl rfl,zX,zY,λus hT agG Dh dr hf my=>?_];let#[Ro,D8,2,Cj,Ut,Cs]:=qX my;show-vY (hf _ _ X) Cj (hn:=mZ (e8 jQ)) λW0 bS cf UQ=>?_;show-key N W0 bS (sH++D8) (W2++us) (Xm.trans (hf.trans cf)) ?_ UQ ?_ (λp aw=>?_) (by rw[dT,zL];lia) (by rw[dT,zL,dr];decide)
  .rw[bL (by rw[wQ];decide),kK];show-cf _ _ (hf _ _ M)
  .rw[fP];exact(Ct.same (hf.trans cf)).append (Cs.same cf)
  rcases iM.mp aw with h|h
  .rcases Lj p h with⟨aF,aE⟩|z
   .exact .row aF aE
   show-.ael z
  show-.none wQ (iw.mp Dh p h)
 clear M X Ct Lj zL Xm rA sH W2 lH;intro N lH dD xs ps aeD M X xb ref dX aE5;obtain⟨Y,SO⟩:∃Y:List Str,Y=Dw++if dd=jx then[S (cM [32] [sS,b_ I]),S (cM [32] [sA,u,v]),S x5]else[]:=#[1]
 rw[<-SO]at M;let Ky:ke Z dD dD x A #[[],[],[],[]]:=#[cB.eb.same aeD,cB.ok,λ_ _ _ e=>e,cB.aC]
 let eC:ky K Z x dD (Lg Z x u v dd) Y dD:=by rw[SO,erw,LC];show-apO b3 T (by rw[au];lia) awV cm Ky
 let vM:N≠x:=λz=>by rw[z,Ky.eb.ins]at M;cases M
 let AG:lH≠x:=λz=>by rw[z,Ky.eb.ins]at X;cases X
 let zk:=aeD.seq Gm;clear SO erw LC axB;show-jd g d ?_;clear g d;intro g d;show#[1,N,2,#[_,aM.of M],4];show-tC (K:=K) (a:=N) (xs:=Y.map V.str) (ahe K Z x dD (Lg Z x u v dd) Y [ja (.ref a),ja (.ref x),ja (.ref fM),ja (.str (S u)),ja (.str (S v)),ja (.int rS),ja (.int (I:Int)),ja (.ref N),ja (.ref lH),ja (.aX dd)] [jp,jp,jp]) #[jp,2,eC,λ_ _ _ e=>e] (λj U el _ h=>?_) (λj w U el y_ h=>?_) (λU el h=>?_)
 .let#[6,_,fr]:=h;show-aM.of (fr _ _ vM M)
 .let#[v10,2,Ia,fr]:=h;rw[ea]at y_;let#[ayZ,h2,2]:=hN.mp y_;let lx:Y.drop j=ayZ::Y.drop (j+1):=by let bJ:=(gM.mp h2).1;rw[JP bJ];rw[ew bJ]at h2;rw[gN h2]
  rw[lx]at Ia;show#[5,Ia _ _ λl H' y z h' LU t'=>#[l,1,.inl (aM.of h'),7,fv rfl #[1,t',LU]]]
 let#[v10,2,Ia,fr]:=h;rw[bQ,ahU]at Ia;let#[dC,s',o,F,2]:=Ia;let nW:=F.kI;let st:ra dD el:=λb q1 to e=>fr b q1 (λz=>to.1 _ _ _ _ _ _ (gN (e.symm.trans ((gF dD z).trans Ky.eb.ins)))) e;let avY:=atI zk st;let X:=fr _ _ AG X;let xb:=xb.jw st;let#[o1,uo]:=F.ab6 v nW.hf;let#[o2,uq]:=F.ab6 u nW.cf;show-jd g d ?_;clear g d;intro g d;show#[5,5,x,dC,s',u,v,o1,o2,o,2,F,uo,uq,λazW bS cf kk=>?_];subst d;let F:=F.same cf;let avX:=cf.seq avY;let X:=cf _ _ X;let xb:=xb.same cf;show#[(6),2,8,8,4];show-YN (lo:=0) (n:=6) (ahf bS [ja (.ref a),ja (.ref x),ja (.ref fM),ja (.str (S u)),ja (.str (S v)),ja (.int rS),ja (.int (I:Int)),ja (.ref N),ja (.ref lH),ja (.aX o.isSome)] azW) #[v10,jp,jp,2,av.refl _] (λk U fY aU h=>?_) (λU fY h=>?_)
 .let#[v10,Yl,Ym,2,sq]:=h;let F:=F.same sq;let avZ:=sq.seq avX;let X:=sq _ _ X;let xb:=xb.same sq;let ov:xs.Z=ps.Z:=by rw[xb.len,bQ]
  show-cut λg d=>?_;show#[5,1,3,a,D,3+(0+(k:Int)),2,avZ,9,1,3,.inl #[8,8],3,3,.inr #[8,8],3,(by show(0:Int)<2147483647;decide),1,lH,xs,2,.inl (aM.of X),3,(by show(0:Int)<(xs.Z:Int);lia),4];let adu:0<=(D.getD (3+(0+(k:Int))).toNat 0+7*(0+(k:Int)))*48271%2147483647%(xs.Z:Int):=A_ _ jQ;let gS:(D.getD (3+(0+(k:Int))).toNat 0+7*(0+(k:Int)))*48271%2147483647%(xs.Z:Int)<xs.Z:=PJ _ jQ;obtain⟨i,kS⟩:∃i:Nat,(D.getD (3+(0+(k:Int))).toNat 0+7*(0+(k:Int)))*48271%2147483647%(xs.Z:Int)=(i:Int):=#[_,(rB adu).symm]
  let li:i<xs.Z:=by
   rw[kS]at gS
   lia
  rw[kS];clear adu gS kS;let ep:ps[i]?=ja (ps[i]'(by lia)):=ew jQ;let Xh:=ref _ (eX ep);generalize ps[i]'(by lia)=pp at ep Xh;let ev:=ew li;let#[oW,pR,aT]:=xb.get ev;rw[ea,ep]at pR;cases pR;generalize xs[i]=aFG at ev aT;let#[c,ys,2,ar,_,axe]:=qX aT;let#[2,ok]:=as5 axe;show#[lH,xs,3,aM.of X,jV ev,c,1,aM.of ar,2,_,1,3,4];subst d;let abI:(Kt [.str (S pp.1)]).canLay0=jx:=by simp only[Qv,ta,Je];show-ok
  let aeK:=N1 (n:=1) abI (cy 1) qc;let#[at7,aeL]:=aj4 (s:=s') (a:=u) (b:=v) (o1:=o1) (o2:=o2) F.pr;show#[5,refused b3 F Xh λl g_ nl fC w'=>#[1,sJ λadA kJ kH Us=>#[6,.lst (aM.of (kH _ _ w')) (.cons (.str _) .nil),.lst (aM.of Us) (.cons (.str _) .nil),aeK,aeK,4]]];let Xr:=fC.trans kH;rw[ï abI];show#[1,gV #[5,5,x,dC,s',u,v,o1,o2,o,2,F.same Xr,uo,uq,λN_ g0 h8 auh=>#[1,6,auh,æ (sq.trans (Xr.trans h8)) kk,aeL,aeL,4]]];rw[ï at7];show#[1,gV #[6,1,sq.trans (Xr.trans h8)]]
 let#[v10,Yl,Ym,2,sq]:=h;show-q fY
unseal fI a' i7 ie
def air(G:Good hs):xe (.list (a8 hs))=jx:=by show(decide ((a8 hs).Z<=12)&&(a8 hs).all p1&&decide (ko (a8 hs)).Nodup)=jx;let a:(hs.map S).Nodup:=Qh.mpr (G.aC.imp λh e=>h (kX e));rw[OK,cQ (by rw[aod];show-G.dy),cQ a,qi,Je,iw];intro d f;let#[z,l,2]:=cD.mp f;let#[n,g,2]:=cD.mp l;let k:=G.nm n g;show(decide (1<=(S n).Z)&&decide ((S n).Z<=8)&&(S n).cps.toList.all t7)=jx;rw[eY,cQ k.1,cQ k.2.1,qi,qi,iw];intro c b;have:=k.2.2 c (by simpa[S]using b);show(decide (97<=c)&&decide (c<=122))=jx;rw[cQ this.1,cQ this.2];rfl
def ajQ{a:ba}{ds:cY}(G:Good a)(ok:∀d∈ds,d.Ok a.Z)(l:ds.Z<=40):It (a8 a) (.list (ds.map (q2 a)))=jx:=by
 show(decide ((ds.map (q2 a)).Z<=40)&&(ds.map (q2 a)).all (qS (a8 a)))=jx;rw[cQ (by rwa[bQ]),qi,iw];intro x c;let#[d,f,2]:=cD.mp c;let k:=ok d f;let b:∀{j:Nat},j<a.Z->a.getD j []∈a:=λh=>by rw[gL,ew h];show-uh _
 let g:a.getD d.a []≠a.getD d.b []:=λe=>by rw[gL,gL,ew k.a,ew k.b]at e;show-k.ne ((ah1 G.aC).mp e)
 show(h0 (a8 a) (.str (S (a.getD d.a []))) (.str (S (a.getD d.b [])))&&(decide (1<=d.t)&&decide (d.t<=9))&&(decide (1<=d.m)&&decide (d.m<=1000000000)))=jx;rw[OE (cD.mpr #[_,b k.a,2]) (cD.mpr #[_,b k.b,2]) λe=>g (kX e),cQ k.t.1,cQ k.t.2,cQ k.m.1,cQ k.m.2];rfl
def alL{f:Addr}(F:b1 K "__init__" "Net.__init__" x9 f fd)(B:fc mg)(y:sN K C)(uQ:bO K mg "are_houses" ED wm U Y)(Z:-aA a6 2 U Y wm Ps)(uZ:bO K mg "are_roads" EE wh X T)(Yb:-aA a6 4 X T wh Pt):
  -aA a6 5 f fd rF (Jn K C):=by
 show-F.ok Ŕ (λ_ A _ s H vs Q E M h=>?_);let#[x,j,a,b,l,rs,ds,2,u,V,m,n,r,dy,q]:=h;show#[_,(a3 (eu (jF (jE (dp Z uQ M.mono cd (aj (aa 1) ay)))) (a9 Il) eH)
  (a3 (eu (jF (jE (dp Yb uZ M.mono cd (aj (aa 1) (aj (aa 2) ay))))) (a9 Il) eH)
  (a3 (jo (aa 0) (iP zv B.list vr (aj (aa 1) ay)) rfl)
  (a9 (jo (aa 0) (iP zv B.list vr (aj (aa 2) ay)) rfl))))),4]
 ac_rfl
 show#[1,.ref a,.list (a8 l),2,EA m V,λH1 L=>#[1,4]];rw[air m];show-gV ?_;show#[5,a,a8 l,.ref b,.list (ds.map (q2 l)),2,EA m (L _ _ V),.lst (L _ _ n) (by rw[gX];lia) (Jw m (r.gZ.same L) r.ok),eh (ZY _ _) qc,λi s2=>#[1,4]];rw[ajQ m r.ok (by rwa[<-r.len])];show-gV ?_;let k:=L.trans s2;show#[1,a,1,.inl (aM.of (k _ _ V)),λg J=>?_];let s3:av i (upd i g (.lst (dK l))):=b7 J;let t:=k.trans s3;let I:x≠g:=cI (k _ _ u) J;show#[1,x,C,j,1,t _ _ u,y.cl,y.xo,qc,4];let G:b≠x:=λe=>by rw[e,u]at n;cases n
 let D:upd (upd i g (.lst (dK l))) x (.ins C j (lJ "kept_houses" (.ref g) [])) b=ja (.lst (bw rs)):=by rw[aJ G];show-t _ _ n
 show#[1,b,1,.inl (aM.of D),λp d=>?_];let N:p≠x:=λe=>by rw[e,aN]at d;cases d
 let R:p≠g:=λe=>by rw[e,aJ I.J,aN]at d;cases d
 show#[1,x,C,j,1,(by rw[aJ N.J,aN]),y.cl,y.iq,(by show 1<1000;decide),4];show-q _ g p (λc o z O=>?_) (by rw[aN];rfl) ?_ ?_ ?_ ?_
 .rw[aJ z];have:c≠p:=λe=>by rw[<-e,aJ z,t _ _ O]at d;cases d
  rw[aJ this,aJ z];show-t _ _ O
 .rw[aJ I.J,aJ R.J,aJ I.J,aN]
 .rw[aJ N,aN]
 .exact k.free J
 rw[aJ N,aJ R]at d;show-k.free d
end
end dP
namespace bX
open PySem PySem.Spec PyProof.Rows al
section
variable{X:bA}
def xw{K:aI}(d:ajG K D=jx)(f:BD K (.ref D)=ja (.type "type"))(k:ka K (.ref C) (.ref D)=ja b)(g:(c1 C==c1 D)=jx->b=jx):
  lU K (.ref C) (.ref D)=ja b:=by
 unfold lU;by_cases h:(c1 C==c1 D)=jx
 .rw[b2 h,g h]
 rw[bL h];unfold Ī;let a:(wx K D).isSome=jx:=d;let c:(BD K (.ref D)==ja (.type "type"))=jx:=by rw[f];decide
 show(if((wx K D).isSome&&BD K (.ref D)==ja (.type "type"))=jx then _ else _)=_;rw[a,c];exact(b2 rfl).trans k
end
end bX
namespace dP
open PySem al bX cE
section
variable{w:b0}{K:aI}
def tU(C:Addr)(b:AW)(a:b5)(k:Nat):Bool:=!b.mro.isEmpty&&(fk a.Z).all λj=>match a[j]? with
 |some R=>if j=k then c1 C==c1 R else !(c1 C==c1 R)&&!(b.mro.contains (.ref R))
 |none=>jx
def xQ{k:Nat}{y:Option Addr}{g:AW}{r:ml}{f:b5}(V:K.lookup C=ja #[.type "type",y,.cls g,r])(A:qh K C)(sub:o' K C kM=jx)(re:lU K (.ref C) (.ref kM)=ja jx)(o:lU K (.ref C) (.type "ValueError")=ja jx)(L:k<11)(N:∀R∈f,∃l m n,K.lookup R=ja #[.type "type",l,.cls m,n])(d:tU C g f k=jx):EO K kM f C k:=by
 show#[A,sub,re,o,L,λj R e=>?_];unfold tU at d;let#[t,p]:=(cJ _ _).mp d;let c:=(iw.mp p) j (Bf.mpr (gM.mp e).1);rw[e]at c;dsimp only at c;by_cases z:j=k
 .rw[b2 z]at c;unfold lU;rw[b2 c,cQ z]
 rw[bL z]at c;let#[a,b]:=(cJ _ _).mp c;let#[l,m,n,lo]:=N R (eX e);rw[dJ z];show-ag0 V lo (by simpa using t) (by simpa using a) (by simpa using b)
def azO{b:Array pG}{n:Nat}(f:K.lookup a=ja #[.type "dict",jp,.dict b n,#[]])(d:ajy w.params b.G)(c:(a==k7)=jA):TopD w K a:=(#[b,n,f,d,c])
def avq{c:b5}{b:Option Addr}{n:Nat}{a:ml}(f:dw K cv kw=ja (ja (.ref e)))(d:K.lookup e=ja #[.type "tuple",b,.seq (c.map c1).toArray n,a]):eQ K cv kw c:=(#[e,b,n,a,f,d])
def xR{K:aI}(hm:ī T=jx)(a:ka K (.ref C) (.type T)=ja b):lU K (.ref C) (.type T)=ja b:=by unfold lU;rw[bL (by intro z;cases z)];unfold Ī;show(if ī T=jx then _ else _)=_;rw[b2 hm,a]
def kF{b a:b5}(h:eQ K cv kw b)(e:kw=S l)(g:b=a):eQ K cv (S l) a:=by subst e g;show-h
def ip{r:Option yT}(h:dw K a kw=r)(e:kw=S l):dw K a (S l)=r:=by subst e;show-h
def apR{Z:hI}(s:eQ K Z.cv "house" [Z.R.t])(A:eQ K Z.cv "road" [Z.R.t,Z.R.t,Z.R.n,Z.R.n])(m:eQ K Z.cv "letter" [Z.R.t,Z.R.t,Z.R.n])(U:eQ K Z.cv "way" [Z.R.t,Z.R.t,Z.R.r])(Q:eQ K Z.cv "shortest" [])(i:eQ K Z.cv "day" [Z.R.tl])(j:eQ K Z.cv "far" [Z.R.t,Z.R.t])(L:eQ K Z.cv "route" [Z.R.t,Z.R.t])(N:eQ K Z.cv "run" [])(q:eQ K Z.cv "home" [])(e:eQ K Z.cv "check" [Z.R.t])(o:eQ K Z.cv "most" [Z.R.n])(l:eQ K Z.cv "least" [])(V:eQ K Z.cv "bounds" [])(t:eQ K Z.cv "post" [Z.R.t,Z.R.t])(r:eQ K Z.cv "pass" [])(T:eQ K Z.cv "turn" [])(R:eQ K Z.cv "spot" [Z.R.n])(f_shut:eQ K Z.cv "shut" [Z.R.n])(y:eQ K Z.cv "reopen" [Z.R.n])(n:eQ K Z.cv "log" [])(J:dw K Z.cv "House"=ja jp)(O:dw K Z.cv "houses"=ja jp)(M:dw K Z.cv "Pass"=ja jp)(P:dw K Z.cv "passes"=ja jp)(C:dw K Z.dI "house"=ja (ja (.ref Z.F.aY)))(E:dw K Z.dI "road"=ja (ja (.ref Z.F.Dv)))(D:dw K Z.dI "letter"=ja (ja (.ref Z.F.le)))(I:dw K Z.dI "way"=ja (ja (.ref Z.F.DS)))(H:dw K Z.dI "shortest"=ja (ja (.ref Z.F.dt)))(x:dw K Z.dI "day"=ja (ja (.ref Z.F.bZ)))(z:dw K Z.dI "far"=ja (ja (.ref Z.F.i_)))(F:dw K Z.dI "route"=ja (ja (.ref Z.F.gz)))(G:dw K Z.dI "run"=ja (ja (.ref Z.F.e3)))(B:dw K Z.dI "home"=ja (ja (.ref Z.F.hm)))(u:dw K Z.dI "check"=ja (ja (.ref Z.F.n9)))(axT:dw K Z.dI "post"=ja jp)(Y:dw K Z.dI "pass"=ja jp)(axX:dw K Z.dI "turn"=ja jp)(axW:dw K Z.dI "spot"=ja jp)(axV:dw K Z.dI "shut"=ja jp)(axU:dw K Z.dI "reopen"=ja jp)(X:dw K Z.dI "log"=ja jp)(c:dw K Z.g5 "post"=ja (ja (.ref Z.F.po)))(b:dw K Z.g5 "pass"=ja (ja (.ref Z.F.fp)))(k:dw K Z.g5 "turn"=ja (ja (.ref Z.F.Ic)))(g:dw K Z.g5 "spot"=ja (ja (.ref Z.F.sp)))(f:dw K Z.g5 "shut"=ja (ja (.ref Z.F.H9)))(d:dw K Z.g5 "reopen"=ja (ja (.ref Z.F.re)))(a:dw K Z.g5 "log"=ja (ja (.ref Z.F.lo)))(Vn:∀p∈CJ Z,EO K Z.kM Z.cs p.1 p.2):fX K Z:=(#[#[(c'.mpr #[kF s qL rfl,(c'.mpr #[kF A qL rfl,(c'.mpr #[kF m qL rfl,(c'.mpr #[kF U qL rfl,(c'.mpr #[kF Q qL rfl,(c'.mpr #[kF i qL rfl,(c'.mpr #[kF j qL rfl,(c'.mpr #[kF L qL rfl,(c'.mpr #[kF N qL rfl,(c'.mpr #[kF q qL rfl,(c'.mpr #[kF e qL rfl,(c'.mpr #[kF o qL rfl,(c'.mpr #[kF l qL rfl,(c'.mpr #[kF V qL rfl,(c'.mpr #[kF t qL rfl,(c'.mpr #[kF r qL rfl,(c'.mpr #[kF T qL rfl,(c'.mpr #[kF R qL rfl,(c'.mpr #[kF f_shut qL rfl,(c'.mpr #[kF y qL rfl,(c'.mpr #[kF n qL rfl,(λ_ h=>bk h ee)])])])])])])])])])])])])])])])])])])])])]),(c'.mpr #[ip J qL,(c'.mpr #[ip O qL,(c'.mpr #[ip M qL,(c'.mpr #[ip P qL,(λ_ h=>bk h ee)])])])])],(c'.mpr #[ip C (by dsimp only;decide+kernel),(c'.mpr #[ip E (by dsimp only;decide+kernel),(c'.mpr #[ip D (by dsimp only;decide+kernel),(c'.mpr #[ip I (by dsimp only;decide+kernel),(c'.mpr #[ip H (by dsimp only;decide+kernel),(c'.mpr #[ip x (by dsimp only;decide+kernel),(c'.mpr #[ip z (by dsimp only;decide+kernel),(c'.mpr #[ip F (by dsimp only;decide+kernel),(c'.mpr #[ip G (by dsimp only;decide+kernel),(c'.mpr #[ip B (by dsimp only;decide+kernel),(c'.mpr #[ip u (by dsimp only;decide+kernel),(λ_ h=>bk h ee)])])])])])])])])])])]),(c'.mpr #[ip axT (by dsimp only;decide+kernel),(c'.mpr #[ip Y (by dsimp only;decide+kernel),(c'.mpr #[ip axX (by dsimp only;decide+kernel),(c'.mpr #[ip axW (by dsimp only;decide+kernel),(c'.mpr #[ip axV (by dsimp only;decide+kernel),(c'.mpr #[ip axU (by dsimp only;decide+kernel),(c'.mpr #[ip X (by dsimp only;decide+kernel),(λ_ h=>bk h ee)])])])])])])]),(c'.mpr #[ip c (by dsimp only;decide+kernel),(c'.mpr #[ip b (by dsimp only;decide+kernel),(c'.mpr #[ip k (by dsimp only;decide+kernel),(c'.mpr #[ip g (by dsimp only;decide+kernel),(c'.mpr #[ip f (by dsimp only;decide+kernel),(c'.mpr #[ip d (by dsimp only;decide+kernel),(c'.mpr #[ip a (by dsimp only;decide+kernel),(λ_ h=>bk h ee)])])])])])])]),Vn])
end
section
variable{P:cx}{w:b0}{K:aI}{mg:b6}{base:Heap}
theorem WP{f:Addr}(F:-aA a6 1 f fd j Oj):-aA a6 1 f fd j Pk:=
 let k:∀{vs H Q E},Pk vs H Q E->Oj vs H Q E:=λ{vs H Q E}⟨i,e,q⟩=>#[.int i,.int i,e,.int i,q]
 #[λvs H Q E h=>F.len vs H Q E (k h),λA a s H args l vs Q E d g c b h=>F.run A a s H args l vs Q E d g c b (k h)]
def alM{f:Addr}(F:b1 K "is_tuple_of" "is_tuple_of" Av f fd)(B:fc mg):-aA a6 1 f fd rE í:=by
 show-F.ok Ý (λ_ A _ s H vs Q E c h=>?_);let#[r,d,n,2,a,b,q]:=h;show#[_,(a9 (ct (kT (d4 vf B.isinstance kg (aj (aa 0) (aj (tL qF B.tuple Du) ay))) (qV (oi q7 (d4 jC B.len iT (aj (aa 0) ay)) (aa 1) (e9 _)))))),4]
 ac_rfl
 show#[1,6,6,1,#[2,.tup a,ļ _ _],1,hb ?_];show#[1,r,1,.inr (cH.of a),1,2,aan (cQ (gF V.int b)) q]
end
structure OT(P:cx)(w:b0)(K:aI)(mg:b6)(base:Heap):Prop where
 one:True
def OT.fn{K:aI}{b:b6}{a:Heap}{k:Nat}{f:Addr}(Z:OT P w K b a)(h:aA P w K b a e k f fd i sp):aA P w K b a e k f fd i sp:=(h)
section
variable{K:aI}{h:Heap}{mg:b6}{x qual:Str}{st:Stmt}{C f:Addr}{ps:bY}{lF:a5}{ek an:Option Addr}{nx:ml}{ec doc pm cdv gd:a5}
theorem axH(a:cK K (.ref C) x=ja (ja (.ref f)))(i:rI K (.ref f)=jx)(l:K.lookup f=ja #[lF,ek,.func (nR x qual (o9 st) (mx st) (bW st) .none ec doc pm an cdv gd),nx])(c:Fb K cdv qual=jx)(k:m4 K (.ref f)=jx)(u:∀(ec doc pm:a5)(an:Option Addr)(cdv gd:a5)(b:en),b.Z=ps.Z->Ll (nR x qual (o9 st) (mx st) (bW st) .none ec doc pm an cdv gd) #[b,[]]=pure (ps.zip b)):
  cR K C x qual st ps f (nR x qual (o9 st) (mx st) (bW st) .none ec doc pm an cdv gd):=
 #[zf l c k,#[a,i,k],(zf l c k).binds u]
theorem axk(m:Qz K C=jx)(n:m4 K (.ref C)=jx)(a:cK K (.ref C) "__init__"=ja (ja (.ref f)))(i:rI K (.ref f)=jx)(l:K.lookup f=ja #[lF,ek,.func (nR "__init__" qual (o9 st) (mx st) (bW st) .none ec doc pm an cdv gd),nx])(c:Fb K cdv qual=jx)(k:m4 K (.ref f)=jx)(u:∀(ec doc pm:a5)(an:Option Addr)(cdv gd:a5)(b:en),b.Z=ps.Z->Ll (nR "__init__" qual (o9 st) (mx st) (bW st) .none ec doc pm an cdv gd) #[b,[]]=pure (ps.zip b)):
  mi K C qual st ps f (nR "__init__" qual (o9 st) (mx st) (bW st) .none ec doc pm an cdv gd):=
 #[zf l c k,#[m,a,i,n],(zf l c k).binds u]
theorem auA(X:K.In h)(G:h.Ns sa mg)(a:dw K sa x=ja (ja (.ref f)))(l:K.lookup f=ja #[lF,ek,.func (nR x x (o9 st) (mx st) (bW st) .none ec doc pm an cdv gd),nx])(c:Fb K cdv x=jx)(k:m4 K (.ref f)=jx)(u:∀(ec doc pm:a5)(an:Option Addr)(cdv gd:a5)(b:en),b.Z=ps.Z->Ll (nR x x (o9 st) (mx st) (bW st) .none ec doc pm an cdv gd) #[b,[]]=pure (ps.zip b)):
  bO K mg x st ps f (nR x x (o9 st) (mx st) (bW st) .none ec doc pm an cdv gd):=
 #[zf l c k,ajL X G a,(zf l c k).binds u]
end
def VE{c:en}(h:c.Z=1):∃a,c=[a]:=by rcases c with _|⟨a,_|⟨b,r⟩⟩<;>first|exact⟨a,rfl⟩|simp at h
def MQ{d:en}(h:d.Z=2):∃a c,d=[a,c]:=by rcases d with _|⟨a,_|⟨c,_|⟨b,r⟩⟩⟩<;>first|exact⟨a,c,rfl⟩|simp at h
def MR{f:en}(h:f.Z=3):∃a c d,f=[a,c,d]:=by rcases f with _|⟨a,_|⟨c,_|⟨d,_|⟨b,r⟩⟩⟩⟩<;>first|exact⟨a,c,d,rfl⟩|simp at h
def VF{g:en}(h:g.Z=4):∃a c d f,g=[a,c,d,f]:=by rcases g with _|⟨a,_|⟨c,_|⟨d,_|⟨f,_|⟨b,r⟩⟩⟩⟩⟩<;>first|exact⟨a,c,d,f,rfl⟩|simp at h
def VG{k:en}(h:k.Z=5):∃a c d f g,k=[a,c,d,f,g]:=by rcases k with _|⟨a,_|⟨c,_|⟨d,_|⟨f,_|⟨g,_|⟨b,r⟩⟩⟩⟩⟩⟩<;>first|exact⟨a,c,d,f,g,rfl⟩|simp at h
def all_mk{l:Ħ}{K:aI}{a:b6}(awj:a "law"=ja (.ref i_))(Z':a "NotYet"=ja (.ref Jg))(sk:a "Net"=ja (.ref C))(r9:a "Ways"=ja (.ref x))(r':a "Walk"=ja (.ref u))(Es:a "Day"=ja (.ref i))(IL:a "Desk"=ja (.ref M))(n5:a "RoadError"=ja (.ref D))(Dq:a "NoNet"=ja (.ref H))(CY:a "NoHouse"=ja (.ref G))(C8:a "NoRoad"=ja (.ref z))(qC:a "NoLetter"=ja (.ref j))(HL:a "BadBag"=ja (.ref O))(qP:a "NoWay"=ja (.ref q))(GZ:a "ManyGoals"=ja (.ref Q))(HM:a "CutOff"=ja (.ref P))(Dj:a "NoText"=ja (.ref I))(Dr:a "NoRow"=ja (.ref E))(Ds:a "NoDay"=ja (.ref F))(HN:ef K Jg)(adL:Qz K Jg=jx)(adx:m4 K (.ref Jg)=jx)(Cz:cR K Jg "line" "NotYet.line" aeH eg aDG aBP)(d:ef K C)(V3:cK K (.ref C) "kept_houses"=ja jp)(V4:cK K (.ref C) "kept_roads"=ja jp)(r:mi K C "Net.__init__" x9 rF aDB aBI)(Y:cR K C "houses" "Net.houses" xl eg aDA aBH)(lp:cR K C "roads" "Net.roads" Ak eg aDF aBM)(kR:cR K C "road" "Net.road" xM dv aDE aBL)(rV:cR K C "out_of" "Net.out_of" Fq lR aDD aBK)(ll:cR K C "need_house" "Net.need_house" A6 lR aDC aBJ)(zM:cR K C "far" "Net.far" KM gh aDz aBG)(iR:ef K x)(V8:cK K (.ref x) "net"=ja jp)(V9:cK K (.ref x) "told"=ja jp)(N:mi K x "Ways.__init__" DB mj aDQ aBZ)(n2:cR K x "set_way" "Ways.set_way" DA s9 aDU aB3)(zb:cR K x "drop_way" "Ways.drop_way" Nz gh aDP aBY)(zA:cR K x "way" "Ways.way" NM gh aDV aB4)(rW:cR K x "route" "Ways.route" HX gh aDT aB2)(zw:cR K x "pairs" "Ways.pairs" NF eg aDS aB1)(n1:cR K x "need_pair" "Ways.need_pair" Dz gh aDR aB0)(g6:ef K u)(V6:cK K (.ref u) "net"=ja jp)(V5:cK K (.ref u) "goals"=ja jp)(V7:cK K (.ref u) "steps"=ja jp)(V:mi K u "Walk.__init__" BO uj aDK aBT)(rR:cR K u "take_in" "Walk.take_in" EK wj aDO aBX)(n8:cR K u "send" "Walk.send" AZ um aDN aBW)(zE:cR K u "goal" "Walk.goal" Kg dv aDI aBR)(n0:cR K u "last_house" "Walk.last_house" Ed dv aDL aBU)(lq:cR K u "last_turn" "Walk.last_turn" Aw dv aDM aBV)(lr:cR K u "home_turn" "Walk.home_turn" Ax dv aDJ aBS)(y9:cR K u "can_leave" "Walk.can_leave" Ki Bk aDH aBQ)(p:ef K i)(VS:cK K (.ref i) "net"=ja jp)(VU:cK K (.ref i) "present"=ja jp)(VT:cK K (.ref i) "posted"=ja jp)(VY:cK K (.ref i) "ways"=ja jp)(VW:cK K (.ref i) "shut_roads"=ja jp)(VX:cK K (.ref i) "walk"=ja jp)(VV:cK K (.ref i) "sent"=ja jp)(zy:mi K i "Day.__init__" KZ Bn aDn aBu)(zN:cR K i "now" "Day.now" KY eg aDq aBx)(zC:cR K i "post" "Day.post" J5 gh aDs aBz)(zB:cR K i "shut" "Day.shut" Km qm aDu aBB)(zx:cR K i "reopen" "Day.reopen" K0 qm aDt aBA)(zc:cR K i "pass_turn" "Day.pass_turn" Kl eg aDr aBy)(zO:cR K i "log" "Day.log" Ld eg aDo aBv)(zD:cR K i "spot" "Day.spot" Lc dv aDv aBC)(rQ:cR K i "need_road" "Day.need_road" HV dv aDp aBw)(L:ef K M)(V1:cK K (.ref M) "net"=ja jp)(V0:cK K (.ref M) "kept_letters"=ja jp)(V2:cK K (.ref M) "ways"=ja jp)(VZ:cK K (.ref M) "day"=ja jp)(zF:mi K M "Desk.__init__" Ny eg aDx aBE)(xg:cR K M "say" "Desk.say" FE uk aDy aBF)(rL:cR K M "change_net" "Desk.change_net" HU mj aDw aBD)(rY:bO K a "is_whole" Ei j' aEj aCQ)(tg:bO K a "is_whole_within" IE wg aEk aCR)(pQ:bO K a "is_tuple_of" Av rE aEi aCP)(qw:bO K a "are_unlike_houses" DK s7 aD8 aCh)(Dc:bO K a "is_name" JY j' aEf aCM)(uQ:bO K a "are_houses" ED wm aD5 aCe)(Dd:bO K a "is_road" JZ ql aEg aCN)(uZ:bO K a "are_roads" EE wh aD7 aCg)(CK:bO K a "is_letter" KN ql aEe aCL)(Cy:bO K a "turns_apart" JC ["letters"] aEz aDh)(uP:bO K a "letters_of" FD yH aEo aCV)(uJ:bO K a "is_written_number" H3 k_ aEm aCS)(Ce:bO K a "is_shorter_by" JA Bq aEh aCO)(uH:bO K a "least_turns_from" El yG aEn aCU)(B':bO K a "begins_shortest" KR EY aEb aCo)(vb:bO K a "shortest" HZ ["net"] aEw aC3)(Dp:bO K a "is_bag" JG j' aEd aCK)(B5:bO K a "are_rising_below" K1 E0 aD6 aCf)(Ch:bO K a "reason_against" K2 EV aEu aC1)(C7:bO K a "walk_of" J6 s8 aEB aDj)(CT:bO K a "arrivals" K3 s8 aD9 aCi)(CF:bO K a "has_route" NB Bo aEc aCJ)(CE:bO K a "queues_at" NG EX aEq aCX)(ve:bO K a "bags_at" HT yD aEa aCn)(vN:bO K a "run" Fx yE aEv aC2)(CQ:bO K a "show_bag" KU ["bag"] aEx aC4)(qz:bO K a "show_plan" BB s_ aEy aC5)(wX:bO K a "read_number" NJ iN aEs aCZ)(CU:bO K a "read_bag" NI k_ aEr aCY)(CG:bO K a "read_plan" NK k_ aEt aC0)(HO:bO K a "as_text" Xt iN J aCm)(rX:bO K a "as_number" HS iN T aCk)(GH:bO K a "as_first_turn" Xs iN U aCj)(Gd:bO K a "as_road_or_none" RG iN X aCl)(vc:bO K a "words_of" H2 ["row"] aED aDl)(u1:bO K a "values_of" Fm ["words"] aEA aDi)(uI:bO K a "number_or_dash" HW oQ aEp aCW)(uX:bO K a "with_blanks" H0 wk aEC aDk)(G0:bO K a "take_house" RP f7 LY aC7)(G_:bO K a "take_road" RW f7 L0 aC9)(GN:bO K a "take_letter" RZ f7 LZ aC8)(Hl:bO K a "take_way" RY f7 L2 aDb)(GI:bO K a "take_shortest" RX f7 L1 aDa)(Hm:bO K a "take_day" Sb f7 LX aC6)(Hn:bO K a "tell_far" RR f7 L4 aDd)(G1:bO K a "tell_route" RS f7 L6 aDf)(Ho:bO K a "tell_run" RT f7 L7 aDg)(Ha:bO K a "tell_home" RU f7 L5 aDe)(G2:bO K a "tell_check" RV f7 L3 aDc)(Hp:bO K a "day_post" R9 ix LL aCD)(Hq:bO K a "day_pass" Sa ix LK aCC)(Hr:bO K a "day_turn" R6 ix LP aCH)(Hz:bO K a "day_spot" R' ix LO aCG)(HA:bO K a "day_shut" R7 ix LN aCF)(G3:bO K a "day_reopen" R8 ix LM aCE)(H_:bO K a "day_log" R_ ix LJ aCB)(tj:bO K a "_law_cell_at" Nx Bl aDW aB5)(CA:bO K a "_law_houses" Oi EZ aDX aB6)(CH:bO K a "_law_kind" ND E1 aDZ aB8)(tp:bO K a "_law_said" HY yF aD3 aCc)(Cw:bO K a "_law_no_rows" K9 nP aD1 aCa)(CB:bO K a "_law_others" K' nP aD2 aCb)(CC:bO K a "_law_in_day" La EW aDY aB7)(CD:bO K a "_law_no_day" K_ nP aD0 aB9)(zg:bO K a "_law_stands" Le ["_law_desk","_law_a","_law_b","_law_day"] aD4 aCd)(Sf:a "law"=ja (.ref avo))(Jx:b1 K "law" "law" BK avo aCT)(GY:K.lookup D=ja #[.type "type",aCA,.cls Sn,azo])(GU:K.lookup H=ja #[.type "type",aCv,.cls abM,azk])(GS:K.lookup G=ja #[.type "type",aCt,.cls abL,azj])(GV:K.lookup z=ja #[.type "type",aCw,.cls abN,azl])(CM:K.lookup j=ja #[.type "type",aCu,.cls Ln,aeO])(Vy:K.lookup O=ja #[.type "type",aCp,.cls aBq,aFr])(zK:K.lookup q=ja #[.type "type",aCz,.cls FP,XA])(VA:K.lookup Q=ja #[.type "type",aCr,.cls aBs,aFt])(Vz:K.lookup P=ja #[.type "type",aCq,.cls aBr,aFs])(GX:K.lookup I=ja #[.type "type",aCy,.cls abP,azn])(GW:K.lookup E=ja #[.type "type",aCx,.cls abO,azm])(GR:K.lookup F=ja #[.type "type",aCs,.cls abK,azi])(Lb:cK K (.ref j) "__init__"=ja (ja (.ref ab4)))(MI:rI K (.ref ab4)=jx)(Jp:b1 K "__init__" "NoLetter.__init__" Xv ab4 aBN)(Rp:cK K (.ref q) "__init__"=ja (ja (.ref ab5)))(Vg:rI K (.ref ab5)=jx)(Jq:b1 K "__init__" "NoWay.__init__" Xw ab5 aBO)(YZ:uw K D [.type "ValueError",.type "Exception",.type "BaseException",.type "object"] "ValueError.__new__"=jx)(YV:uw K H [.type "ValueError",.type "Exception",.type "BaseException",.type "object"] "ValueError.__new__"=jx)(YU:uw K G [.type "ValueError",.type "Exception",.type "BaseException",.type "object"] "ValueError.__new__"=jx)(YW:uw K z [.type "ValueError",.type "Exception",.type "BaseException",.type "object"] "ValueError.__new__"=jx)(YY:uw K I [.type "ValueError",.type "Exception",.type "BaseException",.type "object"] "ValueError.__new__"=jx)(YX:uw K E [.type "ValueError",.type "Exception",.type "BaseException",.type "object"] "ValueError.__new__"=jx)(YT:uw K F [.type "ValueError",.type "Exception",.type "BaseException",.type "object"] "ValueError.__new__"=jx)(I1:sh Sn azo D D=jx)(IZ:sh FP XA q q=jx)(IV:sh abM azk H D=jx)(IT:sh abL azj G D=jx)(IW:sh abN azl z D=jx)(IU:sh Ln aeO j D=jx)(I0:sh FP XA q D=jx)(IY:sh abP azn I D=jx)(IX:sh abO azm E D=jx)(IS:sh abK azi F D=jx)(Yp:a "MOST_HOUSES"=ja (.int 12 aFw))(Yr:a "MOST_ROADS"=ja (.int 40 aFy))(Yt:a "MOST_SIGNS"=ja (.int 8 aFA))(Yu:a "MOST_TURNS"=ja (.int 9 aFC))(Ys:a "MOST_ROOM"=ja (.int 1000000000 aFz))(Yq:a "MOST_LETTERS"=ja (.int 40 aFx))(N3:a "MOST_TURN"=ja (.int 1000000000 aFB))(Yo:a "MOST_APART"=ja (.int 30 aFv))(B:fc a)(Y0:Ef Ln Sn aeO j "ValueError.__new__"=jx)(YR:Ln.hasDict=jx)(XZ:cK K (.ref j) "__setattr__"=ja (ja (.builtin "object.__setattr__")))(WW:ka K (.ref j) (.type "object")=ja jx)(Vb:Fc K j=jx)(MN:m4 K (.ref j)=jx)(L9:cK K (.ref j) "__getattribute__"=ja (ja (.builtin "BaseException.__getattribute__")))(M8:cK K (.ref j) "__getattr__"=ja jp)(Me:cK K (.ref j) "__class__"=ja (ja (.builtin "object.__class__")))(Mt:pM K (.builtin "object.__class__") "__get__"=ja (ja (.builtin "getset_descriptor.__get__")))(MB:tb K (.builtin "object.__class__")=ja jx)(Mq:j_ K j (.type "object")=ja jx)(Mh:j_ K j (.type "BaseException")=ja jx)(Y1:Ef FP Sn XA q "ValueError.__new__"=jx)(YS:FP.hasDict=jx)(X0:cK K (.ref q) "__setattr__"=ja (ja (.builtin "object.__setattr__")))(WX:ka K (.ref q) (.type "object")=ja jx)(Vc:Fc K q=jx)(Vw:m4 K (.ref q)=jx)(L':cK K (.ref q) "__getattribute__"=ja (ja (.builtin "BaseException.__getattribute__")))(M9:cK K (.ref q) "__getattr__"=ja jp)(Mf:cK K (.ref q) "__class__"=ja (ja (.builtin "object.__class__")))(Mu:pM K (.builtin "object.__class__") "__get__"=ja (ja (.builtin "getset_descriptor.__get__")))(MC:tb K (.builtin "object.__class__")=ja jx)(Mr:j_ K q (.type "object")=ja jx)(Mi:j_ K q (.type "BaseException")=ja jx)(Nv:į K D (.type "type")=jx)(LI:ħ K (.ref D) (.type "type") "__init__"=ja (.val (.builtin "ValueError.__init__")))(NQ:pM K (.ref D) "__getattribute__"=ja (ja (.builtin "type.__getattribute__")))(UJ:cK K (.ref j) "number"=ja jp)(US:cK K (.ref q) "reason"=ja jp)(UW:cK K (.ref q) "seen"=ja jp)(Tu:cK K (.ref H) "__getattribute__"=ja (ja (.builtin "BaseException.__getattribute__")))(Wk:cK K (.ref H) "__getattr__"=ja jp)(TS:cK K (.ref H) "__class__"=ja (ja (.builtin "object.__class__")))(UD:pM K (.builtin "object.__class__") "__get__"=ja (ja (.builtin "getset_descriptor.__get__")))(U1:tb K (.builtin "object.__class__")=ja jx)(Ux:j_ K H (.type "object")=ja jx)(T2:j_ K H (.type "BaseException")=ja jx)(Tt:cK K (.ref G) "__getattribute__"=ja (ja (.builtin "BaseException.__getattribute__")))(Wj:cK K (.ref G) "__getattr__"=ja jp)(TR:cK K (.ref G) "__class__"=ja (ja (.builtin "object.__class__")))(UC:pM K (.builtin "object.__class__") "__get__"=ja (ja (.builtin "getset_descriptor.__get__")))(U0:tb K (.builtin "object.__class__")=ja jx)(Uw:j_ K G (.type "object")=ja jx)(T1:j_ K G (.type "BaseException")=ja jx)(Tv:cK K (.ref z) "__getattribute__"=ja (ja (.builtin "BaseException.__getattribute__")))(Wl:cK K (.ref z) "__getattr__"=ja jp)(TT:cK K (.ref z) "__class__"=ja (ja (.builtin "object.__class__")))(UE:pM K (.builtin "object.__class__") "__get__"=ja (ja (.builtin "getset_descriptor.__get__")))(U2:tb K (.builtin "object.__class__")=ja jx)(Uy:j_ K z (.type "object")=ja jx)(T3:j_ K z (.type "BaseException")=ja jx)(Tx:cK K (.ref I) "__getattribute__"=ja (ja (.builtin "BaseException.__getattribute__")))(Wn:cK K (.ref I) "__getattr__"=ja jp)(TV:cK K (.ref I) "__class__"=ja (ja (.builtin "object.__class__")))(UH:pM K (.builtin "object.__class__") "__get__"=ja (ja (.builtin "getset_descriptor.__get__")))(U4:tb K (.builtin "object.__class__")=ja jx)(UA:j_ K I (.type "object")=ja jx)(T5:j_ K I (.type "BaseException")=ja jx)(Tw:cK K (.ref E) "__getattribute__"=ja (ja (.builtin "BaseException.__getattribute__")))(Wm:cK K (.ref E) "__getattr__"=ja jp)(TU:cK K (.ref E) "__class__"=ja (ja (.builtin "object.__class__")))(UG:pM K (.builtin "object.__class__") "__get__"=ja (ja (.builtin "getset_descriptor.__get__")))(U3:tb K (.builtin "object.__class__")=ja jx)(Uz:j_ K E (.type "object")=ja jx)(T4:j_ K E (.type "BaseException")=ja jx)(Ts:cK K (.ref F) "__getattribute__"=ja (ja (.builtin "BaseException.__getattribute__")))(Wi:cK K (.ref F) "__getattr__"=ja jp)(TQ:cK K (.ref F) "__class__"=ja (ja (.builtin "object.__class__")))(UB:pM K (.builtin "object.__class__") "__get__"=ja (ja (.builtin "getset_descriptor.__get__")))(UZ:tb K (.builtin "object.__class__")=ja jx)(Uv:j_ K F (.type "object")=ja jx)(TZ:j_ K F (.type "BaseException")=ja jx)(A:ajG K D=jx)(y:BD K (.ref D)=ja (.type "type"))(XO:ka K (.ref H) (.type "ValueError")=ja jx)(XN:ka K (.ref H) (.ref D)=ja jx)(Vr:tU H abM [H,G,z,j,O,q,Q,P,I,E,F] 0=jx)(XJ:ka K (.ref G) (.type "ValueError")=ja jx)(XI:ka K (.ref G) (.ref D)=ja jx)(Vp:tU G abL [H,G,z,j,O,q,Q,P,I,E,F] 1=jx)(XQ:ka K (.ref z) (.type "ValueError")=ja jx)(XP:ka K (.ref z) (.ref D)=ja jx)(Vs:tU z abN [H,G,z,j,O,q,Q,P,I,E,F] 2=jx)(XM:ka K (.ref j) (.type "ValueError")=ja jx)(XK:ka K (.ref j) (.ref D)=ja jx)(Vq:tU j Ln [H,G,z,j,O,q,Q,P,I,E,F] 3=jx)(XW:ka K (.ref q) (.type "ValueError")=ja jx)(XV:ka K (.ref q) (.ref D)=ja jx)(Vv:tU q FP [H,G,z,j,O,q,Q,P,I,E,F] 5=jx)(XU:ka K (.ref I) (.type "ValueError")=ja jx)(XT:ka K (.ref I) (.ref D)=ja jx)(Vu:tU I abP [H,G,z,j,O,q,Q,P,I,E,F] 8=jx)(XS:ka K (.ref E) (.type "ValueError")=ja jx)(XR:ka K (.ref E) (.ref D)=ja jx)(Vt:tU E abO [H,G,z,j,O,q,Q,P,I,E,F] 9=jx)(XH:ka K (.ref F) (.type "ValueError")=ja jx)(XG:ka K (.ref F) (.ref D)=ja jx)(Vo:tU F abK [H,G,z,j,O,q,Q,P,I,E,F] 10=jx)(Dm:a "FORMS"=ja (.ref cv))(ti:a "DESK_ANSWERS"=ja (.ref dI))(wU:a "DAY_ANSWERS"=ja (.ref g5))(yR:TopD w K cv)(TD:TopD w K dI)(Fl:TopD w K g5)(S_:eQ K cv "house" [J])(Th:eQ K cv "road" [J,J,T,T])(Tb:eQ K cv "letter" [J,J,T])(Tq:eQ K cv "way" [J,J,X])(Tl:eQ K cv "shortest" [])(S8:eQ K cv "day" [U])(S9:eQ K cv "far" [J,J])(Ti:eQ K cv "route" [J,J])(Tj:eQ K cv "run" [])(S':eQ K cv "home" [])(S7:eQ K cv "check" [J])(Td:eQ K cv "most" [T])(Ta:eQ K cv "least" [])(S6:eQ K cv "bounds" [])(Tf:eQ K cv "post" [J,J])(Te:eQ K cv "pass" [])(Tp:eQ K cv "turn" [])(To:eQ K cv "spot" [T])(Tn:eQ K cv "shut" [T])(Tg:eQ K cv "reopen" [T])(Tc:eQ K cv "log" [])(OW:dw K cv "House"=ja jp)(Zc:dw K cv "houses"=ja jp)(PA:dw K cv "Pass"=ja jp)(Y6:dw K cv "passes"=ja jp)(WB:dw K dI "house"=ja (ja (.ref LY)))(WD:dw K dI "road"=ja (ja (.ref L0)))(WC:dw K dI "letter"=ja (ja (.ref LZ)))(WI:dw K dI "way"=ja (ja (.ref L2)))(WH:dw K dI "shortest"=ja (ja (.ref L1)))(Wy:dw K dI "day"=ja (ja (.ref LX)))(Wz:dw K dI "far"=ja (ja (.ref L4)))(WE:dw K dI "route"=ja (ja (.ref L6)))(WG:dw K dI "run"=ja (ja (.ref L7)))(WA:dw K dI "home"=ja (ja (.ref L5)))(Wx:dw K dI "check"=ja (ja (.ref L3)))(Wr:dw K dI "post"=ja jp)(WN:dw K g5 "post"=ja (ja (.ref LL)))(Wq:dw K dI "pass"=ja jp)(WM:dw K g5 "pass"=ja (ja (.ref LK)))(Wv:dw K dI "turn"=ja jp)(WS:dw K g5 "turn"=ja (ja (.ref LP)))(Wu:dw K dI "spot"=ja jp)(WR:dw K g5 "spot"=ja (ja (.ref LO)))(Wt:dw K dI "shut"=ja jp)(WQ:dw K g5 "shut"=ja (ja (.ref LN)))(Ws:dw K dI "reopen"=ja jp)(WO:dw K g5 "reopen"=ja (ja (.ref LM)))(Wo:dw K dI "log"=ja jp)(WL:dw K g5 "log"=ja (ja (.ref LJ))):
  ∃fd:nM,(∀(s:aS)(v:a5),Eo s fd #[[v],[]] [("_law_script",v)])/\∀b:Heap,K.In b->b.Ns sa a->aA l.prog w K a b a6 12 i_ fd ["_law_script"] (J3 K):=by
 let e:=awj.symm.trans Sf;cases e;let abB:=Jp.binds (ps:=dv) λ_ _ _ _ _ _ us au=>by(let#[_,1]:=MQ au);rfl
 let at0:=Jq.binds (ps:=Bm) λ_ _ _ _ _ _ us au=>by(let#[6,1]:=MR au);rfl
 let afv:Exc K a "RoadError" D _ _:=#[n5,YZ]
 let N9:Exc K a "NoNet" H _ _:=#[Dq,YV]
 let CR:Exc K a "NoHouse" G _ _:=#[CY,YU]
 let De:Exc K a "NoRoad" z _ _:=#[C8,YW]
 let C':Exc K a "NoText" I _ _:=#[Dj,YY]
 let pZ:Exc K a "NoRow" E _ _:=#[Dr,YX]
 let OY:Exc K a "NoDay" F _ _:=#[Ds,YT]
 let I1:=tw GY I1;let IZ:=tw zK IZ;let IV:=tw GU IV;let IT:=tw GS IT;let IW:=tw GV IW;let IU:=tw CM IU;let I0:=tw zK I0;let IY:=tw GX IY;let IX:=tw GW IX;let IS:=tw GR IS;let nK:Ff a:=#[#[_,Yp],#[_,Yr],#[_,Yt],#[_,Yu],#[_,Ys]]
 let yc:RK a:=#[#[_,Yq],#[_,N3],#[_,Yo]]
 let#[6,ec,auu,pm,an,eZ,gd,1,6]:=id Jx.ex;show#[nR "law" "law" (o9 BK) (mx BK) (bW BK) .none ec auu pm an eZ gd,λs v=>.of_eq rfl,λb _ _=>?_];let Z:OT l.prog w K a b:=⟨trivial⟩
 let θ:=Z.fn (aj7 rY.fn B);let ζ:=Z.fn (ahD tg.fn rY θ);let Gt:=Z.fn (aj8 pQ.fn B);let PE:=Z.fn (ahE qw.fn);let xd:oS K a "RoadError" j D:=#[afv,#[6,6,6,CM,GY,Y0,YR],XZ,WW,Nv,LI,NQ,#[L9,M8,Me,Mt,MB,Mq,Mh],Vb]
 let Ii:oS K a "RoadError" q D:=#[afv,#[6,6,6,zK,GY,Y1,YS],X0,WX,Nv,LI,NQ,#[L',M9,Mf,Mu,MC,Mr,Mi],Vc]
 let n:sN K C:=#[d,V3,V4]
 let o:tS K x:=#[iR,V8,V9]
 let f:rb K u:=#[g6,V6,V5,V7]
 let m:sV K i:=#[p,VS,VU,VT,VY,VW,VX,VV]
 let c:oz K M:=#[L,V1,V0,V2,VZ]
 let O9:aaR a:=⟨#[_,N3]⟩
 let t:∀R∈[H,G,z,j,O,q,Q,P,I,E,F],∃gG kz s2,K.lookup R=ja #[.type "type",gG,.cls kz,s2]:=(c'.mpr #[#[6,_,GU],(c'.mpr #[#[6,_,GS],(c'.mpr #[#[6,_,GV],(c'.mpr #[#[6,_,CM],(c'.mpr #[#[6,_,Vy],(c'.mpr #[#[6,_,zK],(c'.mpr #[#[6,_,VA],(c'.mpr #[#[6,_,Vz],(c'.mpr #[#[6,_,GX],(c'.mpr #[#[6,_,GW],(c'.mpr #[#[6,_,GR],(λ_ h=>bk h ee)])])])])])])])])])])])
 let b3:fX K #[i,u,M,x,C,H,G,z,j,q,I,E,F,D,cv,dI,g5,[H,G,z,j,O,q,Q,P,I,E,F],#[J,T,X,U],#[LY,L0,LZ,L2,L1,LX,L4,L6,L7,L5,L3,LL,LK,LP,LO,LN,LM,LJ]]:=apR S_ Th Tb Tq Tl S8 S9 Ti Tj S' S7 Td Ta S6 Tf Te Tp To Tn Tg Tc OW Zc PA Y6 WB WD WC WI WH Wy Wz WE WG WA Wx Wr Wq Wv Wu Wt Ws Wo WN WM WS WR WQ WO WL (c'.mpr #[xQ GU #[Tu,Wk,TS,UD,U1,Ux,T2] IV (xw A y XN (λ_=>rfl)) (xR qL XO) (by dsimp only;decide) t Vr,(c'.mpr #[xQ GS #[Tt,Wj,TR,UC,U0,Uw,T1] IT (xw A y XI (λ_=>rfl)) (xR qL XJ) (by dsimp only;decide) t Vp,(c'.mpr #[xQ GV #[Tv,Wl,TT,UE,U2,Uy,T3] IW (xw A y XP (λ_=>rfl)) (xR qL XQ) (by dsimp only;decide) t Vs,(c'.mpr #[xQ CM #[L9,M8,Me,Mt,MB,Mq,Mh] IU (xw A y XK (λ_=>rfl)) (xR qL XM) (by dsimp only;decide) t Vq,(c'.mpr #[xQ zK #[L',M9,Mf,Mu,MC,Mr,Mi] I0 (xw A y XV (λ_=>rfl)) (xR qL XW) (by dsimp only;decide) t Vv,(c'.mpr #[xQ GX #[Tx,Wn,TV,UH,U4,UA,T5] IY (xw A y XT (λ_=>rfl)) (xR qL XU) (by dsimp only;decide) t Vu,(c'.mpr #[xQ GW #[Tw,Wm,TU,UG,U3,Uz,T4] IX (xw A y XR (λ_=>rfl)) (xR qL XS) (by dsimp only;decide) t Vt,(c'.mpr #[xQ GR #[Ts,Wi,TQ,UB,UZ,Uv,TZ] IS (xw A y XG (λ_=>rfl)) (xR qL XH) (by dsimp only;decide) t Vo,(λ_ h=>bk h ee)])])])])])])])]);let za:=Z.fn (aq5 Jp xd n5 UJ);let Nf:=Z.fn (aq1 Jq B Ii n5 US UW);let as7:=Z.fn (alf Dc.fn B nK);let abo:=Z.fn (alg uQ.fn B nK Dc as7);let as8:=Z.fn (alh Dd.fn nK pQ Gt qw PE tg ζ);let aaF:=Z.fn (ali uZ.fn B nK Dd as8);let xf:=Z.fn (alL r.fn B n uQ abo uZ aaF);let as9:=Z.fn (alj r.fn B n pL N9 uQ abo uZ aaF);let abp:=Z.fn (aq8 xf as9 qc);let m_:=Z.fn (ahC Y.fn B n);let qB:=Z.fn (aj6 lp.fn B n);let Yc:=Z.fn (ao9 CK.fn yc pQ Gt qw PE tg ζ);let Xa:=Z.fn (alz Cy.fn B);let aaG:=Z.fn (apa uP.fn B yc d Y m_ CK Yc Cy Xa xd qC MN Lb MI za abB);let rP:=Z.fn (am4 ll.fn n pL CR);let abq:=Z.fn (alF kR.fn B n);let abr:=Z.fn (alk kR.fn B n pL De);let Cx:=Z.fn (aoH rV.fn B n ll rP);let WT:=Z.fn (alq Ce.fn);let B4:=Z.fn (alr uH.fn Ce WT);let arX:=Z.fn (ao8 zM.fn n ll rP uH B4);let u0:=Z.fn (aqn N.fn o);let uG:=Z.fn (aqo n1.fn o d pL CR Y m_ qw PE);let uK:=Z.fn (aqp n2.fn o d pL De rV Cx n1 uG);let ata:=Z.fn (aqH zA.fn o n1 uG);let atb:=Z.fn (aq3 zb.fn o n1 uG);let abt:=Z.fn (aq2 rW.fn o d ll rP kR abr Ii qP Vw Rp Vg Nf at0);let atc:=Z.fn (aq0 zw.fn B o);let arY:=Z.fn (aoQ B'.fn);let abu:=Z.fn (aqK vb.fn B o d r9 Y m_ lp qB rV Cx uH B4 B' arY N.made N u0 n2 uK);let abv:=Z.fn (ant rR.fn f);let R2:=Z.fn (apG V.fn f rR abv);let atd:=Z.fn (anw zE.fn f);let R3:=Z.fn (alC n0.fn f);let Lh:=Z.fn (alD lq.fn f);let Li:=Z.fn (alE lr.fn f n0 R3 lq Lh);let ate:=Z.fn (anf y9.fn f n0 R3 lq Lh lr Li);let R4:=Z.fn (anv n8.fn f d kR abq);let atf:=Z.fn (aqQ CF.fn iR IZ qP rW abt);let atg:=Z.fn (aqN CE.fn f o lq Lh n0 R3 zE atd zA ata);let abw:=Z.fn (aqO ve.fn B d CE atg kR abq);let A1:=Z.fn (apf vN.fn B f r' V.made V R2 CF atf lq Lh ve abw n8 R4 lr Li);let ath:=Z.fn (alv Dp.fn B rY (WP θ) pQ (alM pQ.fn B));let ati:=Z.fn (aph B5.fn);let atj:=Z.fn (api Ch.fn B g6 d Dp ath B5 ati lp qB y9 ate);let arZ:=Z.fn (anh C7.fn B f r' Ch atj V.made V R2 n8 R4);let atk:=Z.fn (apj CT.fn B g6 C7 arZ lr Li);let ar0:=Z.fn (aow CQ.fn B);let Rb:=Z.fn (aox qz.fn CQ ar0);let aaH:=Z.fn (aoy uJ.fn B);let atl:=Z.fn (aoz wX.fn B pL C' uJ aaH);let atm:=Z.fn (apq CU.fn B pL C' wX atl);let atn:=Z.fn (apr CG.fn CU atm);let abx:=Z.fn (aqi uI.fn B);let aby:=Z.fn (aqj uX.fn B uI abx);let ato:=Z.fn (sp:=(QY i u x C)) (apJ zy.fn m r' vb abu V.made V R2);let atp:=Z.fn (sp:=(QX i u x C)) (apI zN.fn m);let atq:=Z.fn (sp:=(Qj i u x C j)) (am7 zC.fn B m g6 uP aaG rR abv);let atr:=Z.fn (sp:=(Qk K i u x C)) (am9 zc.fn B m g6 lr Li ve abw n8 R4);let abz:=Z.fn (sp:=(sW i u x C z)) (ari rQ.fn m d kR abr);let ars:=Z.fn (sp:=(sW i u x C z)) (ana zB.fn m rQ abz);let art:=Z.fn (sp:=(sW i u x C z)) (apL zx.fn m rQ abz);let ats:=Z.fn (sp:=(Q0 i u x C)) (apZ zO.fn B m);let aru:=Z.fn (sp:=(QZ i u x C j)) (apM zD.fn B m xd qC MN Lb MI za abB);let att:=Z.fn (sp:=(ry .t E)) (aoX HO.fn);let R5:=Z.fn (aoY rX.fn B pL pZ uJ aaH);let atu:=Z.fn (aoZ Gd.fn rX R5);let atJ:=Z.fn (acl GH.fn O9 pL pZ rX R5);let Cq:∀g sp,QF #[J,T,X,U] E g sp->By l.prog w K a b (dn l.prog w) 3 g sp:=by intro g sp h;let#[k]:=h;cases k;show#[6,aA.wide att (λ_ _ _ _ _ _ h=>h.elim) qc,HO.bd,HO.fn.fL];show#[6,R5.mono qc,rX.bd,rX.fn.fL];show#[6,atu,Gd.bd,Gd.fn.fL];show#[6,atJ,GH.bd,GH.fn.fL]
 let abj:=Z.fn (aqh vc.fn B pL pZ);let aaI:=Z.fn (ao0 u1.fn B Dm yR pL pZ Cq);let abk:=Z.fn (aq7 rL.fn c iR r9 N.made N u0 zw atc n2 uK);let arv:=Z.fn (apt G0.fn c L d sk r.made r abp Y m_ lp qB rL abk);let arw:=Z.fn (adc G_.fn B c L d sk r.made r abp Y m_ lp qB rL abk);let arx:=Z.fn (apw (CW:=x) GN.fn B c uP aaG);let ary:=Z.fn (apv Hl.fn c iR zb atb n2 uK);let arz:=Z.fn (apu GI.fn c vb abu);let arA:=Z.fn (sp:=(Rh i u M x C)) (ap7 Hm.fn c L Es zy.made zy ato);let arB:=Z.fn (apk (CW:=x) Hn.fn c d zM arX uI abx);let arC:=Z.fn (apl G1.fn c iR rW abt uX aby);let arD:=Z.fn (apn Ho.fn c vN A1 qz Rb);let arE:=Z.fn (apo Ha.fn c vN A1 CT atk uX aby);let arF:=Z.fn (aps G2.fn CG atn);let arG:=Z.fn (sp:=(Q2 i u x C j)) (ap3 Hp.fn B p zC atq);let arH:=Z.fn (sp:=(Rg i u x C)) (ap6 Hq.fn p zc atr qz Rb);let arI:=Z.fn (sp:=(Q1 i u x C)) (ap0 Hr.fn B p zN atp);let arJ:=Z.fn (sp:=(Rd i u x C j)) (ap4 Hz.fn p zD aru HN Cz);let arK:=Z.fn (sp:=(A8 i u x C z)) (ap1 HA.fn p zB ars);let arL:=Z.fn (sp:=(A8 i u x C z)) (ap2 G3.fn p zx art);let arM:=Z.fn (sp:=(Rf i u x C)) (ap5 H_.fn p zO ats qz Rb);let awe:∀g sp,jg #[i,u,M,x,C,H,G,z,j,q,I,E,F,D,cv,dI,g5,[H,G,z,j,O,q,Q,P,I,E,F],#[J,T,X,U],#[LY,L0,LZ,L2,L1,LX,L4,L6,L7,L5,L3,LL,LK,LP,LO,LN,LM,LJ]] g sp->By l.prog w K a b (iv l.prog w) 8 g sp:=by intro g sp h;cases h;show#[6,aA.wide arv (λ_ _ _ _ _ _ h=>q_ h) qc,G0.bd,G0.fn.fL];show#[6,aA.wide arw (λ_ _ _ _ _ _ h=>q_ h) qc,G_.bd,G_.fn.fL];show#[6,aA.wide arx (λ_ _ _ _ _ _ h=>h) qc,GN.bd,GN.fn.fL];show#[6,aA.wide ary (λ_ _ _ _ _ _ h=>q_ h) qc,Hl.bd,Hl.fn.fL];show#[6,aA.wide arz (λ_ _ _ _ _ _ h=>h.elim) qc,GI.bd,GI.fn.fL];show#[6,aA.wide arA (λ_ _ _ _ _ _ h=>h.elim) qc,Hm.bd,Hm.fn.fL];show#[6,aA.wide arB (λ_ _ _ _ _ _ h=>q_ h) qc,Hn.bd,Hn.fn.fL];show#[6,aA.wide arC (λ_ _ _ _ _ _ h=>h) qc,G1.bd,G1.fn.fL];show#[6,aA.wide arD (λ_ _ _ _ _ _ h=>h.elim) qc,Ho.bd,Ho.fn.fL];show#[6,aA.wide arE (λ_ _ _ _ _ _ h=>h.elim) qc,Ha.bd,Ha.fn.fL];show#[6,aA.wide arF (λ_ _ _ _ _ _ h=>q_ h) qc,G2.bd,G2.fn.fL];show#[6,aA.wide arG (λ_ _ _ _ _ _ h=>h) qc,Hp.bd,Hp.fn.fL];show#[6,aA.wide arH (λ_ _ _ _ _ _ h=>h.elim) qc,Hq.bd,Hq.fn.fL];show#[6,aA.wide arI (λ_ _ _ _ _ _ h=>h.elim) qc,Hr.bd,Hr.fn.fL];show#[6,aA.wide arJ (λ_ _ _ _ _ _ h=>h) qc,Hz.bd,Hz.fn.fL];show#[6,aA.wide arK (λ_ _ _ _ _ _ h=>q_ h) qc,HA.bd,HA.fn.fL];show#[6,aA.wide arL (λ_ _ _ _ _ _ h=>q_ h) qc,G3.bd,G3.fn.fL];show#[6,aA.wide arM (λ_ _ _ _ _ _ h=>h.elim) qc,H_.bd,H_.fn.fL]
 let arN:=Z.fn (sp:=(FF K M F E #[J,T,X,U] cv dI g5 (jg #[i,u,M,x,C,H,G,z,j,q,I,E,F,D,cv,dI,g5,[H,G,z,j,O,q,Q,P,I,E,F],#[J,T,X,U],#[LY,L0,LZ,L2,L1,LX,L4,L6,L7,L5,L3,LL,LK,LP,LO,LN,LM,LJ]]))) (apx (ano xg.fn c ti wU TD Fl vc abj u1 aaI awe) (anm xg.fn c ti wU TD pL OY vc abj u1 aaI));let atL:=Z.fn (arc zF.fn c L sk r9 r.made r xf N.made N u0);let atM:=Z.fn (aqX CH.fn B n5 Dq CY C8 qC HL qP GZ HM Dj Dr Ds);let abl:=Z.fn (aqY tp.fn B L n5 I1 xg (aA.M' arN) CH atM);let atN:=Z.fn (aql tj.fn B.len);let atO:=Z.fn (ahB CA.fn B);let atP:=Z.fn (apA Cw.fn);let atQ:=Z.fn (apC CB.fn);let atR:=Z.fn (apE CC.fn B);let atU:=Z.fn (apD CD.fn);let atV:=Z.fn (apN zg.fn b3 tp abl);show-apQ Jx B b3 L IL zF.made zF atL tj atN CA atO Cw atP CB atQ CC atR CD atU tp abl zg atV
theorem walk{l:Ħ}{o:b6->Heap->Prop}{m:b0->Heap->Prop}{d:DefRec}{K:Params->aI}(A:l.most=ja 63)(p:d.params.defaults=[])(r:∀(w:b0)(h:Heap),m w h->(K w.params).In h)(F:∀(w:b0)(c:b6)(i_:Addr)(h:Heap),(K w.params).In h->h.Ns sa c->c d.name=ja (.ref i_)->
   ∃g:nM,(∀(s:aS)(u:a5),Eo s g #[[u],[]] [("_law_script",u)])/\∀b:Heap,(K w.params).In b->b.Ns sa c->aA l.prog w (K w.params) c b a6 12 i_ g ["_law_script"] (J3 (K w.params))):
  ajz q loose o m l.row.toRowW d [] (λf vs=>Ķ f vs):=
 al.azX (n:=63) (k:=12) (x:="_law_script") (CX:=λ_=>a6) (sp:=λw=>J3 (K w.params)) A qc p #[2,8,8] r F (λ_ _ a L t _ y=>#[a,L,2,y,t,λ_=>rfl]) λ_ _ _ _ _ z=>z
end dP
#print"BXN.V5p#z[0sCG'8980NFz4{{2c60D;$;^t';N}eG$iH/75q@(%t)Q5$C$e'<<_&@'Y]|@Lp;kC<F9[F>^oS:2O>{_FgPMc-9@i5BX/>{sbec]IgrA7j[qSUMsMSrJXoJMC&c&~2XWy5%O&Ke5/gZN&0ojUT0W1VEJIxV]t;}o(FFbytf3id<vw.,G{'Zo:=4saM-M-.=04l?{go?M0:Gxh+t*(,$Gp&$<O6&3F@{TnO,:377#mR3ViGdL?YHUcZSm0HJ3Lw_B%~1SB@o7EFa64s4~Q*@Nr]tO0_FTP^gV)h&h}|W-&>K<2C&8>BXTDq:Xe}PE|O1q:zQ/e~kS'I8*Zu*GF~i-+kn9#,FPR1&zHw[3M%;J-.W^/%D(7KLlh-MqO;cm.ronKahKrzFBp)otWdx+-,0[aE/a$H2M]?Nxc4Ws-3glcWkVP4<9aLvNc'&QB[dW2+)3u5,D~cW|+ESQ5Pa6czr[N?5|*1te06*;$ST/CqH[G&-Ng9V|.4IpINZNlJG<=<,4Wn:TC2k}&MZPg-E|[82s4fna#;rO/*,4~+7#+'D8K'^yu<co8{Zar_dS>hKaO`;kj9KtJFBCoonqn$&_Sn4(TxcG31Mr?cR~oZ&.?$DZk'Qk-~>[T*p<[yCW~rXk~Bk-I8bZ]DX~?c84HhC'YQUM+qxZp`hF{^'uuYt;`}j1@<6*z8`XduM^(MV=?.s|B>s8%$Oa'.*,5m['[/EQ:LS_/:?-id;$5zZsY$W@<35zZ|wUy7>]AwRA9H)jCw+2g6X8Lw53nv]c1[_3M?p$~~n`ls;*$xw9yZ|nM|9u%FOr9E4E&Ot9s6+y3c[,#14hs+LeT9)IZ<m44iKv9jHb:R*[`})P4gtM&+s>.kP1~2M:CAfwdmcg,Wu?Z2uOBX*QGZ00Ita(6ZGX.,N4(80Q>:MGuDU73?Cl.4xx4u<K#I=IJLm*A?Yt2i~hwG$?Ki;Pb1I6JfMa4.+q?DJyksQTt-ZL4eMM.]JCMMLW/S#jLWkC$u%:J^,t).JVu4DWWw4hFl'7Yn~S&Q?vWuhc/^=S(._/p[@f%~,@7I*:}k4B3`}`yJaiU5+&5DGd'dD$LYP*-[YrsGAoFP&W@.vk-?U#/1pKg50VvLrdOlq}L_VB4&)/|j)r]d#q<[.S6Kd:Aka&F_HT<qp+~bit/r{y`pMHh{=(,3DWNZ?(&,+*y:x$g^=mFfR:&S,a@~D(k.<b<iD;5?]#bQ'{<tvqsI<B7cFXQ8Zn?'^|9e:Bnudz-;M{x(#==%],I2Gg5&w|J,/xZ%q/sKiJH|rS]`PRYXIJ(1lOyE,@Hr-KWc>KS50*ysiZ+3fE6R<]X7/2o';k-{bv.'v8M%g+UZ(u|7BTia/=<-q$BDf]uQ2,>fI=Kh/d13VZ-/iO8o]qH1E#Hs+O[.{U)%GJ?',%{hM#cI*i]{(<0`XT@v6W0*-*k>&{+%JJGXNNOFHu/$Mu2Y,@-,-N@2IET{&.oLK'4^%gO1s#44&x5s40,t6B+LRE>ZtjBU/`O}Ike'?5h;=~24n3&L@WDB#OV1$EXmeWeO,]?2RFgMoN2^9Cv|AD%vy,@_Xx18lP782K].stpt*bKU4NMZpknk&+xOLP'cb:5;7nWW5|;j,>(a;>'rK:MU1t0PCX^hJFp(.V$47eL>S&hOvnZ9=dTCa3PPuaEf{+.1dhoU>u^>&3+|Rq/8F(h2.;.[5Chtt]8mR^%<Ts}3ZIU;Li/260V/X?D?)QI^;b(x'NYrl'oCDwC=?Ly3l)YmG1:xDRo.;@M35NeIAF8(-~;vENynd'N)+d?}I*L_<l_8<m%srE3)44{mV%qRJ<v%+Gw<Y74_kAb$bJLgGhWC$uV:u''}<m+ysZL.%h|yE~2SWoGG&|=I#5N`(0]&22p>xM$>=wY7bqJ,*z-m6&GffWB~8Yg$yGkh.w<aS7q8SF-dAK/<6:d@=Ab;<yNN@Q+u>f&146~NK{EtA}-afeA8S1_TqOtl->ID4qQc,Q14}BB:-;9e3l<<<ty%dG#NB8D<+KeuJ(k6>m6/gqH#yRB+x75&9lyB%bl$]O=@1sRRPXML<U4K[;He-a.Hoerpza`RJKOZFC+pis0dhbSClRub0Fcen%ysO>4f$Eo8m}hGBnF(&>s<cS2Uv4dPgQX~Fp{)2nqq~f?2lTR9xu+Y$e@ec&k5m_C=7|jZ_2yr.9Gj62%mOG7/BZZV%p3]#p,(l#Vz&z@Nv)Q5t0hxHY;Ez5-vzv%ZsJP&HYNr3]f(Y#(2OU9Y]J}fT>AJB%Q/*Pj*]`(_pQ*3(rCh.EWUd+&G2$Lyw$]t=V{B&8-BD.YTYJBd`<<g'Iep&hN,/Mv3<P$-cjL^b50B1@)r2_Q/bU;vsb~neY)u)uZtN7ZkCl%ZZ(Oyw30:B>UZhAOeC,/KPW(}U<jj$;~zTI1iRC9(*_c5z%&,,VXK0ysP0>>_VrqmMxa*JSH*dC4<2_,BMx;l+c-=HE%-Cggm6)<5eW_Cll&S4-vz,$v*L=3q:#rq#Y9J5/r+6rfG5vCBH,4Kf^VM@0OJjCbhTjIyerXMt{7(B-%rU_~0XJMpIsHH1Qqj7|ky^m`|{{9`_U>/QmaeG'O4Nl6>*}2ww#9:VKr.AmIRM:a$;yAAMD%H3CM0L(_aHlDbrS&w;AoJP6$|8{%Rf54/;kC`o5ag+1@<9NO7'Sg,/e:UiMP#us3cG1Ll_=~0;;?Gj&b1HMg$#Nnc7{)K<L;5.`f^/m/e/Y$aC+v'Au5prK:=tMWI$v,k?$C:y.,mW,07gGL.<[u|`k]Gc8)Kf0W926%##KC8g.8Mt7B@#/mckED`#fsDOG0Q$GE*wln(MUK]@B0Z5a/[e,#]OG(~;ACF*g]CBOjxBJ0-I:0/L<[W$xg6eBQW2%<>s&,mA7sOF~ZwNe%QlPGsX5R/Xw;S0~Bgcw)~R~$0*>>CoBfY+eWh=>j&`k-U8{&vnNUKB~46/+FGeb-gF%MQl*2EDfzj$H.]zO8FyJ6(t4zC'|@8{jn].-$%#:_LDW#~M?q*RgW1I~#]J8A_pgLK#Zz@VBW1<t9/GMQpc8<oCm3~+8t~(h5^p$<lQ/-F1[@Y.+{;fpBX~}''QF:?0g87#Ie%[_,F_Fop/(NY>M&|=Hjl*u;bB$WVa29(2boJc~y%^-*ve|Dyhb?P/H]p764eyL)V/m7wv,dx)xOpN[wDB5C'y++|4&P?KqJ*;Z@X;`/G^;zPi,^i9<>{K+fAUxMe^m5GKv[V8]c_#NQch@&eVWF5RrfyJQ|V?]kWeYFC(m)dT*'_=Xi#^U.F}FK^&x.w.|?M7uYiv,V2X+-(λz=>nomatch z)}mi1]Gd?aiCzDvDDy4BAHx~&et.IUA@&>ehTV'P}ZD>s_f88m8p.FI|/FCy/0`:8Fr;&:$9<]K>z*HeJ</9j:K~0NR=[3-of))Qjx`PqS+-#XX<Ht5?Wr-6&4@cU4Rb6Ky.EchqOk$`X7r-g]]r3m&.Ys$@*{/>z0m/vJAt4&D`+WrAFl:ng-1H:%wj#6U*@|9&2+/e:ur@;iI2K`,EE>^Dvt5.Sg+C7et5HUF3S'yO|0DDJZnF8t;M/AY`kT?%/}GoAvG@_nx1/.*-@QHL$mMqRGgq&=5@%8$5|Reejs*(-m;;yTiX?0G9;+UVN:&|Xytge:3*)lmJ@3dX-r5eK;Do(ciTCH)U&-6|Kw.i4wm>hN_mDPXfCg5z9]Lm-f5M?w2z?K7_Q{F0AW1b%uqZ|(dB*5JI03_Ggx.mGB_a7VosGc*PZ=`pv#2,:la7RyAn%^%[e)@ttz@CCmo4_CLy('%oP~G$/eBV:s1][+I%#j%p_>)?e@-;Nb7dT02A?r<B{CZG_[2N+42r.mAO*5|R;DV(}iG-ZV%)_QbF*6K6Xa,%s1BXw6Q]{P>SD.g'GU<1/O?1f.vjL}GT'5~]>C9ukT-%ZSfV?V:pKi,6:{.4%A7vAtNTWw}^Dt%I}R*F6U8bK+B4q4jG#.IwQlB:.=#[FYF*zZ(y2UG1XH'^CP5}(6j^iHM&-_ZXZ{N<S()/3c+PiiNuLi'6&NZ&&c/|jS?#-'|f80j=If'<P8D9z5dfrOLlFYX|])qD;j:3>@:2wcuG0Fe2[rR.c%7I6wKu%QP4#jd6u'/oE*2?)pd5g3Mq9#P3aA:w:~#ecLZ?h50X@,ECZ){_fQ9*0uSA-ns2:^Sl{8@4}f#p33?d{<9'H,DWVbQ5jB/B[UTbS3&`?prcn].3^%>/#J,Ml5rk12QX'p+RIn8LUL|mAlt95%l4@V&$@n.N#SxTGQ=I19%'RfDF/8,Sjp5&EVQ?7qFhFhG~zAMzJ+8cS)/SGR<w</QKgK><RO~PA7Vm$6cY>Yr'B=0?Nm#kg+3{0yVwV{O85E+dh%ctEU`A)&J}dMIz@aK*S4?hnYyQMND}[1bu*j:l(X|0vy7/<Hx9<zf`<@=(A2#C}tJ+1bW*j2WH@tGUP/u&_F?2JV#iY8o5RW@/fv0pq+h:L~Dy(ZMv(R*Z^}t|?aYb6lj)FDeL:;LE>fR#}tgK2aO,^Gane(:jhb@kwuEW)%Xo~G[VlqE1d]sE]4TnKW)q.,gDw2/<)k)?N7>=EuM`pTbU^,-g+H|c&nZ{>Ej8JSC@QW0i,4*jErtR5m'9RqVz+>#/4?>(by intro z;cases z)?PAFgVLv37yHs9X)7Tba_7Y;(LQ&*2$B=;x*kd/'Scm/V5X).UbImI<qd9Ut-tA'4Ebp~(+3y1.<4k't}Qh',Jf_Vv0~)6=)B?'?WC<0i:_@QRXIh;R$f*#x`:_GRXg)J}BqX3y^$#'x[]x@KA#PKjpC?(F.PKL^(F&H0KYw+[c<3:L<uh/$G+JM$=oFMf3y;GM|:N9WEwl:F#MCvwo:B*(i]CsbaDT6Qyf$JDGr9$?h>0_$RE+1U|O3o8@hL3oSOc=,)D}(#8KuZH|R,6gkroym*gIF[Hk]M8Ao#&A^%Zjy$dm'Ln15F^'As)humggKjmH'fNrJT;=PE90%2#{v]Uv$OBj;G^]lS;U<n}/|md8B`YJ[~mM&^(BI@EaDw74HK/,@0GMpK+3aO:`C9%;,X*IQXsa1PF^vZ6<rD,+EE9}K5z'q%IRCG},B6bq8rCwDdd$:@GCNW],P%9HHh+|=LN'l/:l/b53nl=^CM-2N=5&;l6}8S+Q^OH0Hw%*wvcIH'?hgSj=dWIZ1QbRGWFT{2B}lq)W(mL*Dn9_jyQ+qTEY~/gWz}t''HZ[eqV^Z_1{Ov[JeF7(6rqrjDOoV':co6/[[I6aL32t&2$Z:D'D8V|jq[W5;ry-$/[(^J5/SOu3iQ.5))2oBWEuYRIkPNF~DOJ`1M'Bl(DVGQ9Jyml^5PYs+IK.W5,.FG8)8LkCoK*cM+u>;0gf{M+r#{B/21?[)%wwAJ/2/,LlUs{R/u%~;#?Y0A=,8q(j<9~XLm5LDKy2Qy^2R+./VK+sw&CIH|+fWd}EQi9;oA{&)F'pDJM-FB|w~|&cWe3_c%~V)j[.d~?7q<,=NqCq($,O9`<dVRgk8SBRr]LA|53W8Z8*~e|BZu0X>wF^QSj+L]8yp,wfOAK|%M>WN?,FMn0Ag|E&.fB#no#2#10,-)kgewAL1O4KHBjnw-wzHtleC8P?Om@SOH+TN@Du/U(sb89U'H=KZh@JP(6EI6U-9Gj.9~%O[|g=2glD,D4=J3)>o<3$u5m~+m`$K0Pi$S6%ct6v`)YgK1:O'6cX|HJ't=HB}%[rT9:)D9%P$X15NFE'X;L0(-#Z0C56xI;Ivm1x_w_}/ud@-XRWj-=3wW,J.s+A0UUF9LQ4)5pR>[D^[*L7];R|Gh}:f?WU89MV;B9_Z$.[KN@&8&J:B*0zQ,;c5JE/MkHM&SdR65$T%1Ji7:[+*(eme;gYZ'J&@?`_~7=u?F$;.Ma]]#/Ee9wDLOQi=ID&$omu57;*asn5tQ;D(0aXIhwlCD</:usjJgQp8IIrQp@8NR)zdP}Y3QAP/BHtNI7Y$O5oM*%+8]EF6v7|?c{i@X)ekeh$b>)^DefPx^nlXj&0TtR9kKc-%h64$;pzr588P1Rxu[Y[.Q.70>ZkDL:V-p*D[[<H7E.R@F-~+^&7>lAi[gy-E0vLuscM3*64D$-=VP@c-H(/kwV2JV<1(h<wXo0s"
end
theorem K1.glueM {A B C : Type} {f : A → C} {g : B → C} {l : List A} {r : List B} (n : Nat) (h1 : (l.take n).map f = (r.take n).map g) (h2 : (l.drop n).map f = (r.drop n).map g) : l.map f = r.map g := by
  have e1 : l.map f = (l.take n ++ l.drop n).map f := by rw [List.take_append_drop]
  have e2 : r.map g = (r.take n ++ r.drop n).map g := by rw [List.take_append_drop]
  rw [e1, e2, List.map_append, List.map_append, h1, h2]
local macro_rules | `($f:ident ($_:ident $k:term $a:term $e:term)) => do
 let f := f.getId.eraseMacroScopes; let b := f == `Hook.obs
 if b || f == `Hook.val then
  let mut c ← if b then pure a else `($k w.params)
  let mut o := #[]
  for i in [0:8] do
   let t ← if i < 7 then `(List.take 160 $c) else pure c
   o := o.push (← if b then `(List.map s.heap.get? $t) else `(List.map (fun p : PySem.Addr × PySem.Obj => some p.2) $t))
   c ← `(List.drop 160 $c)
  let h := o[0]!; let r := o.extract 1 8
  if b then `(fun s : PySem.Shared => ($h, $r,*)) else `(fun w : PySem.World => ($h, $r,*))
 else if f == `Hook.of then
  let mut x ← `(x); let mut o := #[]
  for _ in [0:7] do {o := o.push (← `(congrArg (fun x => $x.1) h)); x ← `($x.2)}
  let mut r ← `(congrArg (fun x => $x) h)
  for y in o.reverse do r ← `(K1.glueM 160 $y $r)
  `(fun w s h => PySem.W.InK.of $e w s $r)
 else Lean.Macro.throwUnsupported
open PySem PySem.W PyProof.Rows
set_option maxRecDepth 100000 in
set_option maxHeartbeats 0 in
theorem PySem.Challenge.cw_postroad_k87_rows_refused_holds : PySem.Challenge.rw_postroad_k87_rows_refused.Holds := by
 w_on;o_law;k_head;(case hw=>w_witness2)
 k_fill
 refine dP.walk (l:=aA4) rfl rfl (λw h Y=>PySem.W.kIn_of Y) ?F
 case F=>
  intro w mg i_ h qj G Gz
  refine' dP.all_mk Gz ?Z' ?sk ?r9 ?r' ?Es ?IL ?n5 ?Dq ?CY ?C8 ?qC ?HL ?qP ?GZ ?HM ?Dj ?Dr ?Ds ?HN ?adL ?adx ?Cz ?eW ?V3 ?V4 ?nc ?jm ?lp ?kR ?rV ?ll ?zM ?iR ?V8 ?V9 ?n6 ?n2 ?zb ?zA ?rW ?zw ?n1 ?g6 ?V6 ?V5 ?V7 ?n7 ?rR ?n8 ?zE ?n0 ?lq ?lr ?y9 ?iB ?VS ?VU ?VT ?VY ?VW ?VX ?VV ?zy ?zN ?zC ?zB ?zx ?zc ?zO ?zD ?rQ ?l1 ?V1 ?V0 ?V2 ?VZ ?zF ?xg ?rL ?rY ?tg ?pQ ?qw ?Dc ?uQ ?Dd ?uZ ?CK ?Cy ?uP ?uJ ?Ce ?uH ?B' ?vb ?Dp ?B5 ?Ch ?C7 ?CT ?CF ?CE ?ve ?vN ?CQ ?qz ?wX ?CU ?CG ?HO ?rX ?GH ?Gd ?vc ?u1 ?uI ?uX ?G0 ?G_ ?GN ?Hl ?GI ?Hm ?Hn ?G1 ?Ho ?Ha ?G2 ?Hp ?Hq ?Hr ?Hz ?HA ?G3 ?H_ ?tj ?CA ?CH ?tp ?Cw ?CB ?CC ?CD ?zg ?Sf ?Jx ?GY ?GU ?GS ?GV ?CM ?Vy ?zK ?VA ?Vz ?GX ?GW ?GR ?Lb ?MI ?Jp ?Rp ?Vg ?Jq ?YZ ?YV ?YU ?YW ?YY ?YX ?YT ?I1 ?IZ ?IV ?IT ?IW ?IU ?I0 ?IY ?IX ?IS ?Yp ?Yr ?Yt ?Yu ?Ys ?Yq ?N3 ?Yo ?B ?Y0 ?YR ?XZ ?WW ?Vb ?MN ?L9 ?M8 ?Me ?Mt ?MB ?Mq ?Mh ?Y1 ?YS ?X0 ?WX ?Vc ?Vw ?L' ?M9 ?Mf ?Mu ?MC ?Mr ?Mi ?Nv ?LI ?NQ ?UJ ?US ?UW ?Tu ?Wk ?TS ?UD ?U1 ?Ux ?T2 ?Tt ?Wj ?TR ?UC ?U0 ?Uw ?T1 ?Tv ?Wl ?TT ?UE ?U2 ?Uy ?T3 ?Tx ?Wn ?TV ?UH ?U4 ?UA ?T5 ?Tw ?Wm ?TU ?UG ?U3 ?Uz ?T4 ?Ts ?Wi ?TQ ?UB ?UZ ?Uv ?TZ ?tx ?tQ ?XO ?XN ?Vr ?XJ ?XI ?Vp ?XQ ?XP ?Vs ?XM ?XK ?Vq ?XW ?XV ?Vv ?XU ?XT ?Vu ?XS ?XR ?Vt ?XH ?XG ?Vo ?Dm ?ti ?wU ?yR ?TD ?Fl ?S_ ?Th ?Tb ?Tq ?Tl ?S8 ?S9 ?Ti ?Tj ?S' ?S7 ?Td ?Ta ?S6 ?Tf ?Te ?Tp ?To ?Tn ?Tg ?Tc ?OW ?Zc ?PA ?Y6 ?WB ?WD ?WC ?WI ?WH ?Wy ?Wz ?WE ?WG ?WA ?Wx ?Wr ?WN ?Wq ?WM ?Wv ?WS ?Wu ?WR ?Wt ?WQ ?Ws ?WO ?Wo ?WL
  (case Z'|sk|r9|r'|Es|IL|n5|Dq|CY|C8|qC|HL|qP|GZ|HM|Dj|Dr|Ds|Sf|Yp|Yr|Yt|Yu|Ys|Yq|N3|Yo|Dm|ti|wU=>refine' ajL qj G ?z;(case z=>k_is))
  (case HN|eW|iR|g6|iB|l1=>constructor<;>k_is)
  (case adL|adx|V3|V4|V8|V9|V6|V5|V7|VS|VU|VT|VY|VW|VX|VV|V1|V0|V2|VZ|GY|GU|GS|GV|CM|Vy|zK|VA|Vz|GX|GW|GR|Lb|MI|Rp|Vg|XZ|WW|Vb|MN|L9|M8|Me|Mt|MB|Mq|Mh|X0|WX|Vc|Vw|L'|M9|Mf|Mu|MC|Mr|Mi|Nv|LI|NQ|UJ|US|UW|Tu|Wk|TS|UD|U1|Ux|T2|Tt|Wj|TR|UC|U0|Uw|T1|Tv|Wl|TT|UE|U2|Uy|T3|Tx|Wn|TV|UH|U4|UA|T5|Tw|Wm|TU|UG|U3|Uz|T4|Ts|Wi|TQ|UB|UZ|Uv|TZ|tx|tQ|XO|XN|XJ|XI|XQ|XP|XM|XK|XW|XV|XU|XT|XS|XR|XH|XG=>k_is)
  (case nc|n6|n7|zy|zF=>refine' dP.axk ?a ?b ?c ?d ?z ?y ?x ?u;(case a|b|c|d|z|y|x=>k_is);(case u=>intro _ _ _ _ _ _ us au;first|(obtain⟨_,rfl⟩:=dP.VE au;rfl)|(obtain⟨_,_,rfl⟩:=dP.MQ au;rfl)|(obtain⟨_,_,_,rfl⟩:=dP.MR au;rfl)|(obtain⟨_,_,_,_,rfl⟩:=dP.VF au;rfl)|(obtain⟨_,_,_,_,_,rfl⟩:=dP.VG au;rfl)))
  (case Cz|jm|lp|kR|rV|ll|zM|n2|zb|zA|rW|zw|n1|rR|n8|zE|n0|lq|lr|y9|zN|zC|zB|zx|zc|zO|zD|rQ|xg|rL=>refine' dP.axH ?a ?b ?z ?y ?x ?u;(case a|b|z|y|x=>k_is);(case u=>intro _ _ _ _ _ _ us au;first|(obtain⟨_,rfl⟩:=dP.VE au;rfl)|(obtain⟨_,_,rfl⟩:=dP.MQ au;rfl)|(obtain⟨_,_,_,rfl⟩:=dP.MR au;rfl)|(obtain⟨_,_,_,_,rfl⟩:=dP.VF au;rfl)|(obtain⟨_,_,_,_,_,rfl⟩:=dP.VG au;rfl)))
  (case rY|tg|pQ|qw|Dc|uQ|Dd|uZ|CK|Cy|uP|uJ|Ce|uH|B'|vb|Dp|B5|Ch|C7|CT|CF|CE|ve|vN|CQ|qz|wX|CU|CG|HO|rX|GH|Gd|vc|u1|uI|uX|G0|G_|GN|Hl|GI|Hm|Hn|G1|Ho|Ha|G2|Hp|Hq|Hr|Hz|HA|G3|H_|tj|CA|CH|tp|Cw|CB|CC|CD|zg=>refine' dP.auA qj G ?a ?z ?y ?x ?u;(case a|z|y|x=>k_is);(case u=>intro _ _ _ _ _ _ us au;first|(obtain⟨_,rfl⟩:=dP.VE au;rfl)|(obtain⟨_,_,rfl⟩:=dP.MQ au;rfl)|(obtain⟨_,_,_,rfl⟩:=dP.MR au;rfl)|(obtain⟨_,_,_,_,rfl⟩:=dP.VF au;rfl)|(obtain⟨_,_,_,_,_,rfl⟩:=dP.VG au;rfl)))
  (case Jx|Jp|Jq=>refine' al.zf ?z ?y ?x;(case z|y|x=>k_is))
  (case YZ|YV|YU|YW|YY|YX|YT=>k_exc)
  (case I1|IZ|IV|IT|IW|IU|I0|IY|IX|IS|Y0|YR|Y1|YS|Vr|Vp|Vs|Vq|Vv|Vu|Vt|Vo=>decide+kernel)
  (case B=>constructor<;>(refine PySem.W.mg_none_of qj G ?_;k_is))
  (case yR|TD|Fl=>refine' dP.azO ?l ?k ?s;(case l=>k_is);(case k=>repeat (first|exact nX|refine And.intro ⟨_,_,rfl,rfl⟩ ?_));(case s=>decide+kernel))
  (case S_|Th|Tb|Tq|Tl|S8|S9|Ti|Tj|S'|S7|Td|Ta|S6|Tf|Te|Tp|To|Tn|Tg|Tc=>refine' dP.avq ?y ?z;(case y|z=>k_is))
  (case OW|Zc|PA|Y6|WB|WD|WC|WI|WH|Wy|Wz|WE|WG|WA|Wx|Wr|WN|Wq|WM|Wv|WS|Wu|WR|Wt|WQ|Ws|WO|Wo|WL=>k_is)
