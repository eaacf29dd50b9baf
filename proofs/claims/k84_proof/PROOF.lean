import PyProof.Rows.All
import Wide.All
import KE.KIsAll
import KE.KItem
import OpenK.KMore
import OpenK.Peek
import OpenK.KCls
import Open.Head
import OpenK.KLine
import OpenK.KOwn
import Wide.FinOn
import Lean
import PyProof.EqAt
import PyProof.EqKinds
import PyProof.TupleCall
import KE.KEqDict
import PySem.Str
import PyProof.SliceList
import KE.KDictOf
import PyProof.SumWalk
import KE.KSortTup
import KE.KPairComp
import KE.KDictLaws
import KE.KDictSum
import KE.KMinKey
import PyProof.Rows.SortRuns
import KE.KIntText
import PyProof.Rows.ZipGen
import PyProof.Rows.SeqMore
import PyProof.Rows.TupIter
import OpenK.KTop
import PyProof.Rows.SeqMore2
import OpenK.KWalk
import Wide.Tac
import Wide.Line
import Open.Line
import Open.Pieces
import PySem.Challenge.RW_postroad_k84_asked_at_the_desk
set_option Elab.async false
set_option linter.all false
set_option maxRecDepth 100000
set_option maxHeartbeats 4000000
abbrev a4:=@if_neg
abbrev a':=@if_pos
abbrev bt:=@absurd
abbrev cw:=@decide_eq_true
abbrev c9:=@decide_eq_false
abbrev fe:=@congrArg
abbrev nD:=@of_decide_eq_true
abbrev r3:=@beq_iff_eq
abbrev B7:=@beq_eq_false_iff_ne
abbrev atu:=@decide_eq_false_iff_not
open Array renaming getD->xK,append_assoc->ED,getElem?_eq_none->I0,length_toList->I1,toList_inj->I2,getElem?_eq_getElem->ON,getElem?_toList->OO,all_eq_true_iff_forall_mem->Yc,getElem?_eq_some_iff->Yd,Perm.refl->afr,toList->afs
open Bool renaming false_ne_true->gZ,and_eq_true->hN,true_and->vO,eq_false_iff->xO,false_eq_true->AP,false_and->EM,not_eq_true'->I3,and_self->Yj,eq_iff_iff->Yk,not_true->Yl,and_eq_false_iff->afz,and_false->afA,not_eq_false'->afB,not_false->afC,or_true->afD
open Char renaming toNat->Yw
open Classical renaming choose_spec->Ja,choose->Yx,byContradiction->afW
open False renaming elim->iu
open ForInStep renaming yield->ES
open Int renaming toNat_natCast->jf,emod_nonneg->jA,emod_lt_of_pos->k_,toNat_of_nonneg->la,le_refl->rL,toNat->tu,zero_add->vY,emod_eq_of_lt->Bb,natCast_nonneg->PB,le_of_lt->ZG,le_trans->ZH,mul_one->ZI,not_lt->ZJ,sub_emod_right->ZK,add_assoc->agv,le_min->agw,max_eq_right->agx,min_eq_left->agy,natAbs_natCast->agz,ofNat.inj->agA,ofNat_le->agB,ofNat_lt->agC,toNat_eq_max->agD
open List renaming length_map->aM,mem_map->bQ,getElem?_eq_getElem->cQ,getElem?_map->cR,length_append->c0,mem_of_getElem?->dm,getD->dB,not_mem_nil->dU,range->dY,map_append->eb,length_cons->ej,map_map->ek,mem_cons->et,mem_singleton->e4,map_cons->e7,getElem?_eq_some_iff->fU,size_toArray->f',forall_mem_cons->gK,mem_append->gU,mem_filter->hH,replicate->h5,length_range->jg,length_take->jh,append_assoc->jB,length_nil->kf,mem_range->kF,nodup_cons->kG,append_nil->lS,sum_cons->mx,getElem?_of_mem->nY,getElem_mem->nZ,mem_cons_of_mem->n0,take_length->n1,take_of_length_le->o6,length_pos_iff->p3,nodup_nil->p4,take_add_one->p5,getElem_map->rM,length->rN,length_drop->rO,map_congr_left->rP,mem_append_right->rQ,all_eq_true->tv,any_eq_true->tw,filter_cons->tx,map_id->uN,mem_of_mem_take->uO,filter_append->v7,lookup->v8,map->v9,mem_cons_self->v',ext_getElem->x_,find?_cons->ya,getElem_of_mem->yb,length_filter_le->yc,pairwise_map->yd,replicate_succ->ye,cons.inj->Bh,getElem_range->Bi,length_take_le'->Bj,map_eq_nil_iff->Bk,map_nil->Bl,toArray->Bm,exists_mem_of_ne_nil->E3,filterMap_cons->E4,filter_map->E5,getElem?_append->E6,getElem_inj->E7,map_take->E8,mem_of_mem_drop->E9,range'->E',range_succ->E_,take_sublist->Fa,any_cons->JE,drop_left->JF,flatten_cons->JG,forIn_cons->JH,getElem?_append_left->JI,mem_filterMap->JJ,nodup_append->JK,take_zero->JL,all_map->PS,cons.injEq->PT,drop_drop->PU,drop_eq_getElem_cons->PV,ext_getElem?->PW,filter_eq_self->PX,getElem?_cons_zero->PY,getElem?_eq_none->PZ,length_replicate->P0,mem_append_left->P1,mem_flatMap->P2,mem_iff_getElem->P4,nil_append->P5,pairwise_cons->P6,pairwise_iff_getElem->P7,pairwise_lt_range->P8,all_cons->ξ,append_eq_nil_iff->ο,cons_append->π,dropLast_concat_getLast->ρ,foldl->ς,forIn_nil->σ,getElem?_append_right->τ,getElem?_set_ne->υ,getElem?_set_self->φ,length_eq_zero_iff->χ,length_singleton->ψ,length_tail->ω,map_drop->Α,map_id'->Β,mem_range'_1->Γ,nodup_range->Δ,of_mem_zip->Ε,take_append_drop->Ζ,Pairwise.imp_of_mem->ahA,any_eq_false->ahB,append_cancel_right->ahC,concat_eq_append->ahD,contains_cons->ahE,countP_cons->ahF,countP_le_length->ahG,countP_pos_iff->ahH,drop_length->ahI,drop_zero->ahJ,eq_nil_or_concat->ahK,filterMap_cons_none->ahL,filterMap_cons_some->ahM,filter_nil->ahN,foldl_append->ahO,getElem?_drop->ahP,getElem?_eq_none_iff->ahQ,getElem?_range->ahR,getElem?_replicate->ahS,getElem_toArray->ahT,getLastD_eq_getLast?->ahU,length_dropLast->ahV,length_flatMap->ahW,length_take_of_le->ahX,mem_replicate->ahY,ne_nil_of_mem->ahZ,range'_append_1->ah0,range_eq_range'->ah1,sum_append->ah2,take->ah3,take_left->ah4,zipIdx_cons->ah5,zipIdx_map_snd->ah6,zipIdx_nil->ah7
open Nat renaming le_refl->b7,le_trans->dQ,zero_le->eu,ne_of_lt->e8,lt_of_lt_of_le->iR,le_of_lt->n2,lt_of_le_of_lt->p6,lt_irrefl->qN,le_of_ble_eq_true->v_,lt_succ_of_lt->wa,ne_of_gt->wb,lt_or_ge->yv,lt_succ_self->yw,toDigits->yx,lt_trans->By,min_eq_left->Bz,min_le_right->BA,le_succ->Fo,mul_le_mul->Fp,succ_mul->Fq,not_lt->JQ,sub_eq_zero_of_le->JR,le_add_right->Qa,le_of_eq->Qb,le_succ_of_le->Qc,not_lt_zero->Qd,toDigits_of_lt_base->Qe,add_le_add_right->Ë,lt_of_succ_lt->Ì,min_eq_right->Í,min_le_left->Î,mod_lt->Ï,pos_of_ne_zero->Ð,toDigits_append_toDigits->Ñ,add_assoc->air,add_le_add_left->ais,add_sub_cancel_left->ait,div_add_mod->aiu,le_antisymm->aiv,le_of_lt_succ->aiw,le_of_not_lt->aix,le_total->aiy,le_zero->aiz,log2_lt->aiA,mul_comm->aiB,strongRecOn->aiC,sub_le->aiD,sub_self->aiE,sub_zero->aiF,succ.inj->aiG,succ_le_succ->aiH,succ_ne_self->aiI,succ_sub->aiJ,zero_sub->aiK
open Ne renaming symm->e5
open Option renaming map_eq_some_iff->e6,some.inj->gk,isSome_iff_exists->yz,map_some->Qg,some.injEq->Qh,isSome_map->aiO,none->aiP
open Or renaming inl->BD,inr->Qi
open Prod renaming ext->BG
open PyProof.Rows renaming seqObj->kC,IsTup->o5,envOfC->qW,AllBare->uv,SortKind->BZ,IsTupIter->EW,IntsAre->JB,callWith_type1->Qm,Subscript_->Qy,keyKind'->UO,oneType'->VP,slot_tupleiter_next->Wo,subscriptTail->WA,IsTup.new->ZO,slot_tuple_getitem->Ĉ,callWith_builtin1->aiR,args_list_sort->as5,args_tupleiter_next->as6,entry_list_sort->atJ,entry_tupleiter_next->atL,get?_update_seq->aut,slicePart_none->ax1,slot_list_sort->ax3,subscriptTail_builtinR->ax7,kmk_tree->az4,setObjOf_fresh->az5
open PyProof.Rows.F renaming plain_set_update_loop->ć,entry_set_update_loop->aiQ
open PySem renaming wpAny_bind->ax,wpAny->aO,Shared->aS,model->ba,wpAny_pure->bk,Paired->bV,World->bW,Program->cq,Value.ref->cM,Str.ofString->cU,Heap.lt_size->dE,starEach->dM,Heap.get?_push_of_some->dO,Around->ee,Str->eU,wpAny_mono->fC,Value.none->fW,Heap.get?_push_size->gJ,backTo->hr,bootBuiltins->iW,compareOp->jl,Heap.SameBut->jT,IsPair->jU,wpAny_field->kb,PyData.eqv->ki,PyData.strOk->kj,pyNext->ky,PassesOwn.never->kH,argBest->kL,sysModules->kY,wpAny_loadPart_at->k8,Paired.length->lU,rawInt->mU,FuncData->m3,Model->m5,wpAny_call_entry->nP,wpAny_holding->nQ,IsZip->nX,Str.empty->n7,backToKw->od,keywordEach->oH,codeAny->pe,wpAny_newObj_type->pW,DictEntry->pY,Value.int->qS,binaryOp->r4,codeAny_mono->r9,mainGlobals->sS,wpAny_call->te,wpAny_truthy_bool->tf,Heap.get?_update_other->tq,PyData.depthAll->tC,holding->tW,sliceBounds->ug,Heap.FlyingW->uL,Heap.size_push->uM,PyData.canLayAll0->uR,field->va,sizeLine_eq->vA,standAt->vC,wpAny_execs_nil->vI,wpAny_rule->vJ,wpAny_seqItems->vK,wpAny_setField_rec->vL,ExcBaseFacts->vQ,PyData.int->wd,Result->wh,Value.str->wk,Value.type->wm,atKey->wt,getItem->wJ,noteFrame->w',swapsWith->xq,tupleKind->xw,wpAny_callSpecial?_slot->xB,Heap.get?_update_self->xT,IsItemIter->xU,IsPart->xV,Keyword->x7,NameKind->yu,Value.builtin->yH,assignEach->yI,attributeBase->yK,behindInMarks->yM,bindC->yN,bindL->yO,callWith->yQ,call_meets->yR,getMethod->y9,relabel->zZ,wpAny_Call_Name_kw->As,wpAny_attempt->Au,wpAny_dictEntries->Av,wpAny_fieldsOf->Aw,wpAny_letGo->Ax,ClassData->AW,Obj.mapFields->BB,Obj.mapSeq->BC,OwnTail->BE,Within->BK,assign->B6,callerA->B9,codeAny_builtin->B',codeAny_call_builtin->B_,compPost->Ca,excClassObj->Cf,foldedSetIterable->Cn,isTrue->CH,setField->D7,valueAt->Eg,wpAny_passesOwn->Ei,wpAny_pyIter_list->Ej,wpAny_setField->Ek,BindsTo->EK,Data.cell->ER,Obj.data_mapFields->Fs,PyData.canLay0->Fv,PyData.depth->Fw,Value->Fx,mem_of_lookup->FA,Value.bool->FJ,closureFor->F1,entryOfKey->F_,firstArgMember->Gl,instanceDict->G5,isInstance->G6,newExc->Hy,pyIter->HM,setAttr->H7,typeIs_str->Ii,wpAny_dictEpoch->ID,wpAny_of_eq->IE,wpAny_standAt->IF,Around.under_plainId->IZ,Walks.list->Ko,bindArgs->K3,letOwnedTupleGo->Mn,plainId_quiet->M0,preSum->M1,seqItems?->Nx,setFlight->Ny,tupleKind_room_in1->NM,wpAny_execs_cons->Od,wpAny_tryCatch->Oe,Code.quiet_builtin->O4,Data.fields->O7,Heap.ExtBut->Py,Str.ext'->Qx,Value.isStrOf->QN,ZipApart->Q8,compEnvC->R_,comprehension->Sa,getAttr->S8,newList->Vm,refuseLoop->V3,slicePick->Wn,subscripted->WB,wpAny_isInstance->Xh,wpAny_isOneOf_itemiter->Xi,wpAny_isSubtype_exc->Xj,wpAny_throw->Xk,wpAny_typeNameOfWhole_itemiter->Xl,wpAny_typeNameOfWhole_keyiter->Xm,wpAny_typeNameOf_itemiter->Xn,wpAny_typeNameOf_keyiter->Xo,Around.under->Yb,Code.isFrame->Yy,Heap.HeldW->Zj,Heap.MadeExcOf->Zk,Heap.get?_none_of_le->Zl,Heap.get?_update_ne->Zm,IsItemIterOut->ZN,Obj.isFreed_of_fields->è,PassesOwn.leaving->ā,Within.cons->ę,call->Ě,frameOf->ě,Shared.TypeIs->Ī,Str.length->Ĭ,Value.float->ŗ,builtinsNs->abi,call_meetsIn->abj,cellsFrom->abm,codeAny_handlers_test->abo,entryPlaceOf->abC,getAttrBy->abV,handedOut->acg,isSubtype_stop->adi,onTheHeap->adY,raiseStmt->aea,refuseLoop_ref->aeb,slicePicked->aej,slot_list_getitem->ael,strKind_is->aet,typeIs_int->aeF,wpAny_Assign_Name->aeP,wpAny_Call_method->aeQ,wpAny_Name->aeR,wpAny_Try_except->aeS,wpAny_eqBool_int->aeT,wpAny_handleBy_cons->aeU,wpAny_handled->aeV,wpAny_isOneOf_keyiter->aeW,wpAny_landsW->aeX,wpAny_looks_onW->aeY,wpAny_newList->aeZ,wpAny_newTuple->ae0,wpAny_notOrdered_dict->ae1,wpAny_onRaise->ae2,wpAny_pyIter_slot->ae3,wpAny_updateSeq->ae4,Heap.get?_push_at->ago,Heap.get?_some_iff->agp,Obj.cls_mapFields->aiL,Obj.data_mapDictKeys->aiM,Addr->aiS,Within.nil->ajj,intText?->ajk,Value.isInt_shape->alc,behindIsImport->atd,checkBuiltinCall->atj,codeAny_handlers_suite_as->atl,codeAny_of_tree->atm,fastBuiltinMro->atZ,noFill_tuple_add->awV,numbered_texts->aw6,pastItsLine_dict->axj,plainObj_wpAny_Assign_Attribute->axn,raiseErrorWords->axy,size_of_entries->axW,sliceRange_one->ax2,theTreesLotGoes->ayk,wpAny_Compare1->ayI,wpAny_Dict_empty->ayJ,wpAny_Expr_any->ayK,wpAny_assign_Name->ayL,wpAny_getItem_list_slice->ayM,wpAny_getItem_of->ayN,wpAny_isTrue_Compare1->ayO,wpAny_leaves_onW->ayP,wpAny_loadPart->ayQ,wpAny_lookBehind->ayR,wpAny_missedRemoval_other->ayS,wpAny_mroOf_exc->ayT,wpAny_notIn_of->ayU,wpAny_pyIter_enum->ayV,wpAny_pyIter_zip->ayW,wpAny_tupleItemsOf->ayX,wpAny_updateSeq_pair->ayY
open PySem.Builtin.Builtins renaming bindParams->azf
open PySem.Builtin.Dict renaming showsAll->OW,takeOut->afE,dictSlotNone->azg,keyAndDefault->azh,noArgs->azi
open PySem.Builtin.Dict_items renaming ownsTuple->I4,ownedTupleFields->afF,ownedTupleIsFree->afG,pairFromOwner->afH,dictOf->azj,newIterator->azk
open PySem.Builtin.Frozenset renaming updateFrom->azl
open PySem.Builtin.List renaming listTooLong->OX,listFitsIndex->azm,listUpdate->azn
open PySem.Builtin.ObjectAttr renaming storeInOwnDict->OY,find->Yo,attrName->afI,dataDescriptor?->afJ,ownThenClass->afK,storeInDict->afL,Found.value->azo,bindTo->azp,getOf->azq,inOwnDict->azr,newKeyGuard->azs,ownDict->azt
open PySem.Builtin.Range renaming rangeSize->azu
open PySem.Builtin.Slice renaming slicePlaces->OZ,sliceAdjust->Yp,sliceApplied->afM,sliceFields->azv,slicePartIndex->azw
open PySem.Builtin.SmallTypes renaming nextOf->vP,ownedTupleIsFree->O0,ownedTupleHandOut->afN
open PySem.Builtin.Str renaming strSliceIndices->afO,subAt->az6
open PySem.Builtin.Tuple renaming tupleExact->O1,tupleItemsOf->azx
open PySem.Calls renaming spliced_cons->EP,callWith_builtin->I',evalArgs_plain->I_,spliced_nil->O3,Name_function_global->afR,call_function_entry->afS
open PySem.Challenge renaming pw_postroad_k84_asked_at_the_desk->az7,rw_postroad_k84_asked_at_the_desk->az8
open PySem.EntryCells renaming newEntry->azy
open PySem.F renaming plainAttrs_list->o',slot_list_append->p7,type_list_append->p8,plainAttrs_str->uS,excBase_ValueError->yA,slot_str_join->Kg,type_str_join->Kh,plainAttrs_dict->Qn,slot_dict_get->ĉ,slot_str_split->Ċ,type_str_split->ċ,args_dict_get_2->aiT,args_tuple_add_2->aiU,entry_dict_get->aiV,entry_tuple_add->aiW,slot_dict_getitem->aiX,slot_dict_setdefault->aiY,slot_list_index->aiZ,slot_tuple_add->ai0,store_ValueError->ai1
open PySem.Heap renaming SameBut.update->Ba,ExtBut.push->Pz,IsSliceOf.new->agl,Ns1.of_empty->agm,SameBut.extBut->agn
open PySem.SeqAt renaming shaped->uZ,EqAt->akq,EqAt.int_str->akr,EqAt.str_int->aks,EqAt.bool_bool->az9,list_indexAt->aAa
open PySem.Txt renaming split->n9,endswith->QE,slice->QF,startswith->QG
open PySem.W renaming Frag->aL,findIn->c7,nsIn->iK,kitOne->kI,keepIn->mC,fnOf->n3,hideAll->n4,mroIn->o_,isFn->qP,kia_one->qQ,subIn->rT,Looks->tD,hasDictIn->uT,looks_findIn->uU,specialIn->uV,clsIn->we,emptyDict->wg,callWith_K->yB,instObj->yC,excIn->BH,takesIn->BI,typeIn->BJ,kas_place->C3,kas_sort->C4,codeIn->Fy,methodCall_KW->Fz,kas_ask->G_,kas_desc->Ha,kas_rev->Hb,kas_tail3->Hc,hideAll_get->Ki,kitMeta->Qo,lookIn->Qp,of_hideAll->Qq,plainGet->Qr,kas_bin->UK,kas_count->UL,Looks.of_pure->Η,Looks.ld->Č,OpenLaw->č,findCls->Ď,find_K->ď,handedIn->Đ,hideAll_none->đ,kitCls->Ē,makesIn->ē,mapOf_K->Ĕ,methodObj->ĕ,plainGet_of->Ė,readsIn->ė,takerIn->Ę,kas_descPart->adj,KeysLit->ai3,WalkO->ai4,any_some->ai5,bind_fn->ai6,callWith_K0->ai7,cellsFrom_some->ai8,check_slot->ai9,funFrames_hide->aja,isClsIn->ajb,kitx_dict->ajc,kitx_list->ajd,looks_clsIn->aje,looks_mroIn->ajf,looks_subIn->ajg,mg_of->ajh,plainOver->aji
open PySem.W.KF renaming slot_gs->ai2,args_gs->aAb,entry_class->aAc,entry_gs->aAd,owner_class->aAe,type_class->aAf
open PySem.W.KIN renaming call_text->aAg,num_reads->aAh,signs_num->aAi
open PySem.W.KT renaming ends_app->aAj,len_num->aAk,starts_app->aAl
open Sum renaming inr->f5,inl->kk,inr.inj->Qz,inl.inj->ĭ,inr.injEq->akw
open True renaming intro->n8
open Option renaming some->j3,none->jp
open Bool renaming true->q4,false->q9
section
theorem sz_ {n:Nat}(h:Nat.ble n 20 = true:=by rfl):n ≤ PySem.sizeLine:=Nat.le_trans (Nat.le_of_ble_eq_true h) (by decide)
abbrev Y_:=Lean.Syntax
def nT_ (k:String) (l:List Y_):Y_:=.node .none (.str `Lean.Parser.Tactic k) l.toArray
def nR_ (k:String) (l:List Y_):Y_:=.node .none (.str `Lean.Parser.Tactic.rcasesPat k) l.toArray
def nM_ (k:String) (l:List Y_):Y_:=.node .none (.str `Lean.Parser.Term k) l.toArray
def nC_ (k:String) (l:List Y_):Y_:=.node .none (.str `Lean.Parser.Command k) l.toArray
def nL_ (l:List Y_):Y_:=.node .none `null l.toArray
def a_ (s:String):Y_:=.atom .none s
def i_ (n:Lean.Name):Y_:=Lean.mkIdent n
def sp_ (l:List Y_):Y_:=nL_ (l.intersperse (a_ ","))
def sq_ (t:Y_):Y_:=nT_ "tacticSeq" [nT_ "tacticSeq1Indented" [nL_ [t]]]
def by_ (t:Y_):Y_:=nM_ "byTactic" [a_ "by",sq_ t]
def oc_ (l:List Y_):Y_:=nT_ "optConfig" [nL_ l]
def tc_ (s:String):Y_:=nT_ s [a_ s,oc_ []]
def dg_ (x:Y_):List Nat:=[[],[0,1],[1],[0,0,1,1],[2],[0,1,0,1],[0,0],[1,0,1],[3],[4]].getD (x.isNatLit?.getD 0) []
def tu_ (l:List Y_):Y_:=nR_ "tuple" [a_ "⟨",sp_ (l.map fun x=>nT_ "rcasesPatLo" [nT_ "rcasesPatMed" [nL_ [x]],nL_ []]),a_ "⟩"]
def ob_ (p t:Y_):Y_:=nT_ "obtain" [a_ "obtain",nL_ [nT_ "rcasesPatMed" [nL_ [p]]],nL_ [],nL_ [a_ ":=",nL_ [t]]]
def se_ (l:List Y_):Y_:=nT_ "paren" [a_ "(",nT_ "tacticSeq" [nT_ "tacticSeq1Indented" [nL_ (l.intersperse (a_ ";"))]],a_ ")"]
def fi_ (l:List Y_):Y_:=nT_ "first" [a_ "first",nL_ (l.map fun x=>.node .none `group #[a_ "|",sq_ x])]
def us_:Lean.MacroM Y_:=Lean.Macro.throwUnsupported
local macro_rules (kind:=Lean.Parser.Tactic.tacticLet__) | s=>let d:=s[2][0];let e (x:Y_):List Y_:=let d:=dg_ x;if d.isEmpty then [if x.isIdent then nR_ "one" [x]else nR_ "ignore" [a_ "_"]]else d.map fun n=>if n == 0 then nR_ "ignore" [a_ "_"]else nR_ "one" [i_ `rfl];let v (f:Y_→List Y_) (x:Y_):=x[1].getSepArgs.toList.flatMap f;if d[0].isOfKind `«term#[_,]» then let l:=v (fun x=>if x.isOfKind `«term#[_,]» then [tu_ (v e x)]else e x) d[0];return ob_ (tu_ l) d[4]else return nT_ "tacticHave__" [a_ "have",s[1],s[2]]
local macro_rules (kind:=«term#[_,]») | s=>let l:=s[1].getSepArgs.toList.flatMap fun x=>let d:=dg_ x;if d.isEmpty then [x]else d.map fun n=>[nM_ "hole" [a_ "_"],i_ `rfl,nM_ "syntheticHole" [a_ "?",a_ "_"],by_ (tc_ "decide"),by_ (tc_ "lia")].getD n s;if l.length < 2 then us_ else return nM_ "anonymousCtor" [a_ "⟨",sp_ l,a_ "⟩"]
local macro_rules (kind:=Lean.Parser.Tactic.«show») | s=>let t:=s[1];if t.isOfKind `«term-_» then return nT_ "refine" [a_ "refine",t[1]]else if t.isOfKind `«term#[_,]» then return nT_ "refine" [a_ "refine",t]else us_
local macro_rules (kind:=Lean.Parser.Tactic.left) | s=>return nT_ "decide" [a_ "decide",oc_ [nT_ "configItem" [nT_ "posConfigItem" [a_ "+",i_ `kernel]]]]
local macro_rules (kind:=Lean.Parser.Tactic.acRfl) | s=>let m (n:Lean.Name):=nT_ "simpLemma" [nL_ [],nL_ [],i_ n];return nT_ "tacticTry_" [a_ "try",sq_ (nT_ "dsimp" [a_ "dsimp",oc_ [],nL_ [],nL_ [a_ "only"],nL_ [a_ "[",sp_ [m `dr,m `dq],a_ "]"],nL_ []])]
def dA_ (s:Y_) (l:List Lean.Name):Lean.MacroM Y_:=let x:=s[1];let b:=x.isIdent;let f:=if b then x else x[0];if [`aH,`eF,`jZ].contains f.getId then return nM_ "app" [f,nL_ (l.map i_++if b then []else x[1].getArgs.toList)]else us_
local macro_rules (kind:=«term-_») | s=>dA_ s [`P,`w,`K,`mg,`base]
local macro_rules (kind:=«term!_») | s=>dA_ s [`P,`w,`K,`mg,`base,`N,`qual,`scope,`f,`cdv,`A,`outer,`s,`H,`E]
def nm_ (p:Lean.Name) (s:String):Option Lean.Name:=match s with | "L"=>some (["heap","objs","size"].foldl .str p) | "Z"=>some (["length"].foldl .str p) | "Y"=>some (["objs","size"].foldl .str p) | "Q"=>some (["heap"].foldl .str p) | "X"=>some (["toNat"].foldl .str p) | "G"=>some (["toList"].foldl .str p) | "J"=>some (["symm"].foldl .str p) | _=>none
local macro_rules (kind:=ident) | i=>match i.getId with | .str p s=>if p.isAnonymous then (match s with | "qI"=>return by_ (tc_ "lia") | "x8"=>return by_ (tc_ "decide") | "xg"=>return by_ (nT_ "simp" [a_ "simp",oc_ [],nL_ [],nL_ [],nL_ [],nL_ []]) | "xo"=>return by_ (nT_ "tacticRfl" [a_ "rfl"]) | "xL"=>return by_ (nT_ "left" [a_ "left"]) | _=>us_) else (match nm_ p s with | some n=>return i_ n | _=>us_) | _=>us_
local macro_rules (kind:=Lean.Parser.Term.proj) | s=>match s[2].getId with | .str p x=>(match nm_ p x with | some n=>return s.setArg 2 (i_ n) | _=>us_) | _=>us_
local macro_rules (kind:=Lean.Parser.Command.print) | s=>let l:List Y_:=((s[1].isStrLit?.getD "").toList.foldl (fun (x:List Y_ × Nat × Nat) c=>let n:=x.2.1 * 91 + (c.toNat - if c.toNat > 92 then 36 else 35);if x.2.2 == 9 then (i_ (.mkSimple ("tw"++toString n)) :: x.1,0,0) else (x.1,n,x.2.2 + 1)) ([],0,0)).1;let m:=nC_ "declModifiers" (List.replicate 7 (nL_ []));let o (x:Y_):=nC_ "optDeclSig" [nL_ [],nL_ [nM_ "typeSpec" [a_ ":",x]]];return nC_ "declaration" [m,nC_ "structure" [nC_ "structureTk" [a_ "structure"],nC_ "declId" [i_ `PySem.W.Fast,nL_ []],o (nM_ "prop" [a_ "Prop"]),nL_ [],nL_ [a_ "where",nL_ [],nC_ "structFields" [nL_ [nC_ "structExplicitBinder" [m,a_ "(",nL_ l,o (i_ `True),nL_ [],a_ ")"]]]],nC_ "optDeriving" [nL_ []]]]
local macro_rules (kind:=Lean.Parser.Command.declaration) | s=>let d:=s[1];let b:=d.isOfKind `Lean.Parser.Command.definition;let v:=d[3][1];let c:=v.isOfKind `Lean.Parser.Term.paren;if b&&(c||v.isOfKind `Lean.Parser.Term.byTactic)&&d[2][1].getNumArgs == 1&&s[0].getArgs.all (·.isNone) then return s.setArg 1 (nC_ "theorem" [a_ "theorem",d[1],nC_ "declSig" [d[2][0],d[2][1][0]],if c then d[3].setArg 1 v[1]else d[3]]) else if (b||d.isOfKind `Lean.Parser.Command.abbrev)&&s[0].getArgs.all (·.isNone) then return s.setArg 0 (s[0].setArg 4 (nL_ [nC_ "noncomputable" [a_ "noncomputable"]])) else us_
section
abbrev fZ:List eU:=["self","house","goal"]
abbrev eA:List eU:=["self","number"]
abbrev gF:List eU:=["desk","values"]
abbrev m4:List eU:=["net","letters","plan"]
abbrev gx:List eU:=["self"]
abbrev qM:List eU:=["self","houses","roads"]
abbrev tB:List eU:=["self","house","goal","road"]
abbrev lT:List eU:=["self","house"]
abbrev yp:List eU:=["_law_cell","_law_names","_law_base"]
abbrev rS:List eU:=["houses","one","other"]
abbrev uP:List eU:=["thing","least","greatest"]
abbrev my:List eU:=["self","net"]
abbrev iQ:List eU:=["thing"]
abbrev qL:List eU:=["houses","thing"]
abbrev uQ:List eU:=["net","letters","ways"]
abbrev Fb:List eU:=["walk","net","letters","ahead","thing"]
abbrev rR:List eU:=["thing","length"]
abbrev Bn:List eU:=["self","number","house","turn"]
abbrev yj:List eU:=["_law_cell","_law_names"]
abbrev Fc:List eU:=["net","walk","going","ways","turn"]
abbrev jV:List eU:=["word"]
abbrev yk:List eU:=["self","net","letters"]
abbrev kg:List eU:=["text"]
abbrev yl:List eU:=["_law_desk","_law_row"]
abbrev Fd:List eU:=["walk","going","ways","turn"]
abbrev Bo:List eU:=["self","place","reason"]
abbrev Bp:List eU:=["_law_script","_law_k"]
abbrev Bq:List eU:=["self","reason","seen"]
abbrev o7:List eU:=["number"]
abbrev ym:List eU:=["_law_turns_here"]
abbrev Fe:List eU:=["road","far_from","goal"]
abbrev Ff:List eU:=["_law_cell","_law_many"]
abbrev Fg:List eU:=["_law_plan","_law_cell"]
abbrev yn:List eU:=["roads","house"]
abbrev Br:List eU:=["houses","things"]
abbrev tA:List eU:=["numbers"]
abbrev Bs:List eU:=["self","letter"]
abbrev Bt:List eU:=["letter","ways"]
abbrev Bu:List eU:=["number","walk"]
abbrev yo:List eU:=["self","bag"]
abbrev Bv:List eU:=["road","found"]
abbrev Fh:List eU:=["numbers","bound"]
abbrev Fi:List eU:=["net","some"]
abbrev Fj:List eU:=["self","row"]
abbrev Fl:List eU:=["_law_error"]
abbrev bb:= List (List Nat)
abbrev cC:= Fx -> PySem.Shared -> Prop
abbrev dJ:= List (aiS×PySem.Obj)
abbrev b5:= eU -> Option Fx
abbrev bB:= List Nat
abbrev bS:= List aiS
abbrev dR:= List Fx
abbrev bE:= List eU
abbrev m8:= Array Nat
abbrev jW:= Nat -> Nat -> Bool
abbrev yG:= List (Option Nat)
abbrev lX:= Array (Option Fx)
abbrev kl:= List (eU×Int×eU)
abbrev u0:= eU×Int×eU
abbrev gz:= List Int
abbrev hy:= List PySem.Expr
abbrev gy:= List PySem.PyData
abbrev m9:= eU -> Option Int
abbrev lY:= Array Fx
abbrev B2:= Option Fx
end
namespace aq
open PySem PySem.Spec PyProof.Rows
abbrev bD:=Sum Int Str
def AI:bD->Value->Bool
 |.inl k,v=>Value.isInt k v
 |.inr x,v=>QN x v
def arw(w:bW):bD->Int
 |.inl k=>hashInt k
 |.inr x=>hashStr w x
theorem tK:∀{k:bD}{v:Value},AI k v=q4->(∃i t,k=kk i/\v=qS i t)\/(∃x t,k=f5 x/\v=wk x t)
 |.inl i,v,h=>by let#[t,e]:=alc (k:=i) (v:=v) h;show-.inl #[i,t,2,e]
 |.inr x,v,h=>by let#[t,e]:=Value.isStrOf_shape (x:=x) (v:=v) h;show-.inr #[x,t,2,e]
def ajD(i:Int)(t:Tok):AI (.inl i) (.int i t)=q4:=by simp[AI,Value.isInt]
def ajE(x:Str)(t:Tok):AI (.inr x) (.str x t)=q4:=by simp[AI,QN]
def an0(a b:Int):decide ((kk a:bD)=kk b)=(a==b):=by
 by_cases e:a=b
 .subst e;simp
 let h:¬(kk a:bD)=kk b:=λq=>e (ĭ q);rw[c9 h];exact(B7.mpr e).symm
def an1(a b:Str):decide ((f5 a:bD)=f5 b)=decide (a=b):=by
 by_cases e:a=b
 .subst e;simp
 let h:¬(f5 a:bD)=f5 b:=λq=>e (Qz q);rw[c9 h,c9 e]
def an2(a:Int)(b:Str):decide ((kk a:bD)=f5 b)=q9:=(c9 (λq=>nomatch q))
def an3(a:Str)(b:Int):decide ((f5 a:bD)=kk b)=q9:=(c9 (λq=>nomatch q))
def iY(d:cq)(w:bW):PySem.KeyKind d w bD where
 is:=AI
 hash:=arw w
 inj:=λv a b l g=>by
  rcases tK l with⟨i,t,rfl,rfl⟩|⟨x,t,rfl,rfl⟩
  .rcases tK g with⟨j,u,rfl,e⟩|⟨y,u,rfl,e⟩
   .injection e with c _;rw[c]
   exact nomatch e
  rcases tK g with⟨j,u,rfl,e⟩|⟨y,u,rfl,e⟩
  .exact nomatch e
  injection e with c _;rw[c]
 byValue:=λk v h=>by rcases tK h with⟨i,t,rfl,rfl⟩|⟨x,t,rfl,rfl⟩<;>rfl
 pyHash:=λf h=>by
  rcases tK f with⟨i,t,rfl,rfl⟩|⟨x,t,rfl,rfl⟩
  .exact wpAny_pyHash_int h
  exact wpAny_pyHash_str h
 eqBool:=λm f h=>by
  rcases tK m with⟨i,t,rfl,rfl⟩|⟨x,t,rfl,rfl⟩
  .rcases tK f with⟨j,u,rfl,rfl⟩|⟨y,u,rfl,rfl⟩
   .rw[an0]at h;show-aeT h
   rw[an2]at h;show-akr i t y u _ _ _ _ h
  rcases tK f with⟨j,u,rfl,rfl⟩|⟨y,u,rfl,rfl⟩
  .rw[an3]at h;show-aks x t j u _ _ _ _ h
  rw[an1]at h;exact wpAny_eqBool_str h
 «strs»:=λk x t v h=>by
  rcases tK h with⟨i,u,rfl,e⟩|⟨y,u,rfl,e⟩
  .exact nomatch e
  injection e with c _;subst c;cases v<;>rfl
def agq(a:cq)(w:bW)(i:Int)(t:Tok):(iY a w).is (.inl i) (.int i t)=q4:=(ajD i t)
def agr(a:cq)(w:bW)(x:Str)(t:Tok):(iY a w).is (.inr x) (.str x t)=q4:=(ajE x t)
inductive V where
 |cf|bo (b:Bool)|int (i:Int)|str (x:Str)|B8 (b:Array UInt8)|y5 (b:UInt64)|ref (a:Addr)|ty (n:String)
 deriving DecidableEq
abbrev aV:= List V
abbrev ji:= Option V
def RelV:V->Value->Prop
 |.cf,u=>u=fW
 |.bo b,u=>u=FJ b
 |.int i,u=>∃t,u=qS i t
 |.str x,u=>∃t,u=wk x t
 |.B8 b,u=>∃t,u=Value.bytes b t
 |.y5 b,u=>∃t,u=ŗ b t
 |.ref a,u=>u=cM a
 |.ty n,u=>u=wm n
abbrev cI:List V->List Value->Prop:=bV RelV
def cI.Z{b:aV}{a:dR}(r:cI b a):b.Z=a.Z:=(lU r)
theorem cI.get:∀{b:aV}{a:dR}{i:Nat}{x:V},cI b a->b[i]?=j3 x->∃u,a[i]?=j3 u/\RelV x u
 |_,_,_,_,.nil,e=>by simp at e
 |_,_,0,_,.cons r _,e=>by simp at e;subst e;show#[1,r]
 |_,_,i+1,x,.cons _ t,e=>by let#[u,c,d]:=cI.get (i:=i) (x:=x) t (by simpa using e);show#[u,by simpa using c,d]
def cI.append{c d:aV}{a b:dR}(h:cI c a)(s:cI d b):cI (c++d) (a++b):=by
 induction h with
 |nil=>show-s
 |cons r _ e=>show-.cons r e
theorem cI.take:∀{b:aV}{a:dR}(n:Nat),cI b a->cI (b.take n) (a.take n)
 |_,_,0,_=>.nil
 |_,_,_+1,.nil=>.nil
 |_,_,n+1,.cons r t=>.cons r (cI.take n t)
theorem cI.drop:∀{b:aV}{a:dR}(n:Nat),cI b a->cI (b.drop n) (a.drop n)
 |_,_,0,r=>r
 |_,_,_+1,.nil=>.nil
 |_,_,n+1,.cons _ t=>cI.drop n t
def cI.none_of:∀{a:aV}{b:dR}{i:Nat},cI a b->a[i]?=jp->b[i]?=jp:=(λ{a b i}r e=>by let c:=r.Z;let d:a.Z<=i:=ahQ.mp e;show-ahQ.mpr qI)
def kz:Option V->Option Value->Prop
 |some v,j3 u=>RelV v u
 |none,jp=>True
 |_,_=>False
def hG{a:Type}:List (a×V)->List (a×Value)->Prop:=bV λ(p:a×V)(q:a×Value)=>p.1=q.1/\RelV p.2 q.2
def di:bD->V
 |.inl i=>.int i
 |.inr x=>.str x
inductive hP where
  |lst(_:aV)
  |tup(_:aV)
  |cZ(kvs:List (bD×V))|c3 (kvs:List (List bD×V))
  |set(_:Int->Bool)(n:Nat)
  |ins(C al:Addr)(_:List (Str×V))
  |own(x:Addr)
  |AA(_:List (Str×V))
  |met(f x:Addr)
  |M'(lo hi:Int)
  |fp(_:Obj)(_:hP)
  |s_(_:lY)
  |ext(_:Heap->Prop)
abbrev ag:=Addr->Option hP
def upd(H:ag)(a:Addr)(o:hP):ag:=λb=>if b=a then j3 o else H b
def aQ:upd H a o a=j3 o:=by unfold upd;rw[a' rfl]
def aR{H:ag}(h:b≠a):upd H a o b=H b:=by unfold upd;rw[a4 h]
def Oi:upd (upd H a o) a u=upd H a u:=by funext b;unfold upd;split<;>rfl
def gP{H:ag}(h:H a=j3 o)(c:H b=j3 u)(d:o≠u):a≠b:=by intro e;subst e;rw[h]at c;show-d (gk c)
def dj{H:ag}(h:H a=j3 o)(c:H b=jp):a≠b:=by intro e;subst e;rw[h]at c;cases c
section
variable(P:cq)(w:bW)
def e9(H:ag)(h:Heap)(a:Addr):hP->Prop
 |.lst c=>c.Z<=sizeLine/\∃(b:dR)(n:Nat),cI c b/\h.get? a=j3 {cls:=.type "list",data:=.seq b.toArray n}
 |.tup c=>c.Z<=sizeLine/\∃b:List Value,cI c b/\o5 h a b.toArray
 |.cZ e=>e.Z<=sizeLine/\(a==kY)=q9/\∃m,hG e m/\h.DictOf (iY P w) a m
 |.c3 e=>e.Z<=sizeLine/\(a==kY)=q9/\∃c:List (List bD×Addr×Value),
   bV (λ(p:List bD×V)(q:List bD×Addr×Value)=>p.1=q.1/\H q.2.1=j3 (.tup (p.1.map di))/\RelV p.2 q.2.2) e c/\
   ∃o l r,h.get? a=j3 o/\o.ExactDict/\o.data=.dict l r/\l.G=c.map (F_ (xw (iY P w)))/\(c.map (·.1)).Nodup
 |.set S n=>h.SetOf (intKind P w) a S n
 |.ins C al fs=>H al=j3 (.own a)/\fs.Z<=1000/\al≠a/\h.get? a=j3 (yC C al)/\
   ∃d,h.Ns1 al d/\(∀f,kz (fs.lookup f) (d f))/\BK d (fs.map (·.1))
 |.own _=>∃o,h.get? a=j3 o
 |.AA fs=>∃d,h.Ns1 a d/\∀f,kz (fs.lookup f) (d f)
 |.M' lo hi=>∃t u v,h.get? a=j3 {cls:=.type "range",data:=.fields (List.toArray [.int lo t,.int hi u,.int 1 v])}
 |.fp o u=>h.get? a=j3 o/\e9 H h a u
 |.s_ j=>h.get? a=j3 {cls:=.none,data:=.fields j}
 |.met f x=>h.get? a=j3 (ĕ (.ref f) (.ref x))
 |.ext i=>i h/\(∃o,h.get? a=j3 o)/\∀g k:Heap,i g->(∀o,g.get? a=j3 o->k.get? a=j3 o)->i k
def gw(H:ag)(h:Heap):Prop:=∀a o,H a=j3 o->e9 P w H h a o
end
section
variable{P:cq}{w:bW}{H H':ag}{h h':Heap}{a:Addr}{o:hP}
def e9.lt(x:e9 P w H h a o):a<h.Y:=by
 cases o with
 |lst xs=>let#[6,6,e]:=x;show-dE e
 |tup xs=>let#[6,_,p]:=x;show-p.lt
 |cZ i=>let#[6,6,o,6,e,_]:=x;show-dE e
 |c3 i=>let#[6,6,o,6,e,_]:=x;show-dE e
 |set S n=>let#[o,6,_,e,_]:=x;show-dE e
 |ins C al fs=>let#[6,_,e,_]:=x;show-dE e
 |own y=>let#[_,e]:=x;show-dE e
 |AA fs=>let#[_,#[6,_,e,_],_]:=x;show-dE e
 |M' lo hi=>let#[6,_,e]:=x;show-dE e
 |fp ob u=>let#[e,_]:=x;show-dE e
 |s_ j=>show-dE (show h.get? a=j3 _ from x)
 |met f y=>show-dE (show h.get? a=j3 _ from x)
 |ext b=>let#[_,#[_,e],_]:=x;show-dE e
def bV.kv{g k:Type}{F G:g->k->Prop}{c:List g}{d:List k}(h:bV F c d)(f:∀a b,F a b->G a b):bV G c d:=by
 induction h with
 |nil=>show-.nil
 |cons r _ e=>show-.cons (f _ _ r) e
def e9.pO(x:e9 P w H h a o)(k:∀b u,(b=a\/H b=j3 (.own a))->h.get? b=j3 u->h'.get? b=j3 u)(aW:∀b,H b=j3 (.own a)->H' b=j3 (.own a))(B:∀b K,H b=j3 (.tup K)->H' b=j3 (.tup K)):e9 P w H' h' a o:=by
 induction o with
 |lst K=>let#[z,A,n,r,e]:=x;show#[z,A,n,r,k _ _ (.inl rfl) e]
 |tup K=>let#[z,A,r,g,e,c]:=x;show#[z,A,r,g,k _ _ (.inl rfl) e,c]
 |cZ i=>let#[z,y,E,r,g,m,l,e,c]:=x;show#[z,y,E,r,g,m,l,k _ _ (.inl rfl) e,c]
 |c3 i=>
  let#[z,y,K,r,g,m,l,e,c]:=x;show#[z,y,K,bV.kv r λp q z=>#[z.1,B _ _ z.2.1,z.2.2],g,m,l,k _ _ (.inl rfl) e,c]
 |set S n=>let#[g,m,l,t,e,c]:=x;show#[g,m,l,t,k _ _ (.inl rfl) e,c]
 |ins C al fs=>
  let#[d,z,D,e,N,#[L,m,l,V,c],r]:=x;show#[aW _ d,z,D,k _ _ (.inl rfl) e,N,#[L,m,l,k _ _ (.inr d) V,c],r]
 |own y=>let#[g,e]:=x;show#[g,k _ _ (.inl rfl) e]
 |AA fs=>let#[N,#[L,m,l,e,c],r]:=x;show#[N,#[L,m,l,k _ _ (.inl rfl) e,c],r]
 |M' lo hi=>let#[t,u,v,e]:=x;show#[t,u,v,k _ _ (.inl rfl) e]
 |fp g u s=>let#[e,q]:=x;show#[k _ _ (.inl rfl) e,s q]
 |s_ j=>
  let e:h.get? a=j3 {cls:=.none,data:=.fields j}:=x;show h'.get? a=j3 {cls:=.none,data:=.fields j};show-k a _ (.inl rfl) e
 |met f y=>
  let e:h.get? a=j3 (ĕ (.ref f) (.ref y)):=x;show h'.get? a=j3 (ĕ (.ref f) (.ref y));show-k a _ (.inl rfl) e
 |ext F=>let#[p,#[o,e],st]:=x;show#[st _ _ p λo q=>k _ _ (.inl rfl) q,#[o,k _ _ (.inl rfl) e],st]
def gw.lt(x:gw P w H h)(e:H a=j3 o):a<h.Y:=((x a o e).lt)
def gw.fresh(x:gw P w H h)(e:h.Y<=a):H a=jp:=by
 cases q:H a with
 |none=>rfl
 |some u=>show-bt (iR (x.lt q) e) (qN _)
theorem gw.kept(x:gw P w H h)(k:∀b u,h.get? b=j3 u->h'.get? b=j3 u):gw P w H h':=λa o e=>
 (x a o e).pO (λb u _ q=>k b u q) (λ_ q=>q) λ_ _ q=>q
theorem gw.laid(x:gw P w H h)(k:∀b u,h.get? b=j3 u->h'.get? b=j3 u)(l:h.Y<=a)(d:e9 P w (upd H a o) h' a o):gw P w (upd H a o) h':=λb u e=>by
 let g:=x.fresh l;by_cases f:b=a
 .subst f;rw[aQ]at e;cases e;show-d
 rw[aR f]at e;exact(x b u e).pO (λc v _ q=>k c v q) (λc q=>by rwa[aR (dj q g)]) λc m q=>by rwa[aR (dj q g)]
end
def fV(H:ag)(a:Addr)(u:hP):Prop:=H a=j3 u\/∃o,H a=j3 (.fp o u)
def fV.ok{a:Addr}(r:fV H a u)(x:gw P w H h):e9 P w H h a u:=by
 rcases r with r|⟨o,r⟩
 .exact x a u r
 let#[_,q]:=x a _ r;show-q
def Fn:Option hP->Prop
 |some (.lst _)=>True
 |some (.cZ _)=>True
 |some (.c3 _)=>True
 |some (.set _ _)=>True
 |some (.ins _ _ _)=>True
 |some (.ext _)=>True
 |_=>False
section
variable{P:cq}{w:bW}{H:ag}{h h':Heap}{x e:Addr}{cF:hP}
theorem gw.write(ok:gw P w H h)(j8:Fn (H x))(t:e=x\/H e=j3 (.own x))(k:∀b u,b≠e->h.get? b=j3 u->h'.get? b=j3 u)(A:∃u,h'.get? e=j3 u)(n:e9 P w (upd H x cF) h' x cF):gw P w (upd H x cF) h':=λb u q=>by
 let a:∀c y,H c=j3 (.own y)->c≠x:=λc y r z=>by subst z;rw[r]at j8;show-j8
 let m:∀c l,H c=j3 (.tup l)->c≠x:=λc l r z=>by subst z;rw[r]at j8;exact j8
 by_cases d:b=x
 .subst d;rw[aQ]at q;cases q;show-n
 rw[aR d]at q;by_cases g:b=e
 .let p:H b=j3 (.own x):=by
   rcases t with z|z
   .exact bt (g.trans z) d
   rwa[g]
  rw[q]at p;cases p;let#[v,K]:=A;show#[v,by rwa[g]]
 refine(ok b u q).pO (λc v f r=>k c v ?_ r) (λc r=>by rwa[aR (a c b r)]) λc l r=>by rwa[aR (m c l r)]
 rcases f with rfl|f
 .exact g
 rintro rfl;rcases t with z|z
 .exact a c b f z
 rw[f]at z;cases z;exact d rfl
end
structure iv(fs ex:bS)(H H':ag)(h h':Heap):Prop where
 keep:∀b o,h.get? b=j3 o->H b=jp->b∉fs->b∉ex->h'.get? b=j3 o
 slot:∀b o,h.get? b=j3 o->H b=jp->b∈fs->b∉ex->∃bK,h'.get? b=j3 {o with slots:=bK}
 free:∀b o,h.get? b=j3 o->H b=jp->b∉ex->H' b=jp
 there:∀b o,h.get? b=j3 o->b∉ex->∃cF,h'.get? b=j3 cF
 hE:∀b xs,H b=j3 (.tup xs)->H' b=j3 (.tup xs)
 i0:∀b o u,H b=j3 (.fp o u)->H' b=j3 (.fp o u)
 jx:∀b ps,H b=j3 (.s_ ps)->∃more,H' b=j3 (.s_ (ps++more))
section
variable{fs auk ex aCf:bS}{H H1 ah:ag}{h ai ak h':Heap}{a x e:Addr}{o:hP}
def iv.any(u:iv fs ex H H1 h ai){b:Addr}(q:h.get? b=j3 ob)(n:H b=jp)(d:b∉ex):∃f,ai.get? b=j3 {ob with slots:=f}:=by
 by_cases c:b∈fs
 .exact u.slot b ob q n c d
 show#[ob.slots,u.keep b ob q n c d]
theorem iv.kept(k:∀b u,h.get? b=j3 u->h'.get? b=j3 u):iv fs ex H H h h':=
 #[λb c q _ _ _=>k b c q,λb c q _ _ _=>#[c.slots,k b c q],λ_ _ _ n _=>n,λb c q _=>#[c,k b c q],λ_ _ q=>q,λ_ _ _ q=>q,λ_ d q=>#[#[],by rw[q];simp]]
def iv.refl:iv fs ex H H h h:=(iv.kept λ_ _ q=>q)
theorem iv.laid(k:∀b u,h.get? b=j3 u->h'.get? b=j3 u)(d:h.Y<=a)(c:H a=jp):iv fs ex H (upd H a o) h h' where
 keep:=λb u q _ _ _=>k b u q
 slot:=λb u q _ _ _=>#[u.slots,k b u q]
 free:=λb u q n _=>by rwa[aR (e8 (iR (dE q) d))]
 there:=λb u q _=>#[u,k b u q]
 hE:=λb f q=>by rwa[aR (dj q c)]
 i0:=λb u f q=>by rwa[aR (dj q c)]
 jx:=λb g q=>#[#[],by rw[aR (dj q c),q];simp]
def iv.write(j8:Fn (H x))(l:e=x\/H e=j3 (.own x))(k:∀b u,b≠e->h.get? b=j3 u->h'.get? b=j3 u)(g:∃u,h'.get? e=j3 u):iv fs ex H (upd H x o) h h':=by
 let d:∀b,H b=jp->b≠x:=λb n z=>by subst z;rw[n]at j8;show-j8
 let c:∀b,H b=jp->b≠e:=λb n z=>by
  subst z;rcases l with r|r
  .exact d b n r
  rw[n]at r;cases r
 let hm:∀b u,H b=j3 u->¬Fn (j3 u)->b≠x:=λb u q m z=>by subst z;rw[q]at j8;show-m j8
 show#[λb u q n _ _=>k b u (c b n) q,λb u q n _ _=>#[u.slots,k b u (c b n) q],λb u q n _=>by rwa[aR (d b n)],λb u q _=>?_,
  λb p q=>by rwa[aR (hm b _ q λz=>z)],λb u p q=>by rwa[aR (hm b _ q λz=>z)],λb t q=>#[#[],by rw[aR (hm b _ q λz=>z),q];simp]]
 by_cases f:b=e
 .subst f;show-g
 show#[u,k b u f q]
end
def NL(h:Heap)(H:ag):List Addr:=(dY h.Y).filter λa=>(H a).isSome
def ux(h:Heap)(H:ag):Heap:=n4 h (NL h H)
def ajF(h:Heap)(H:ag):(ux h H).objs.size=h.Y:=(PySem.W.hideAll_size _ _)
theorem aj7{h:Heap}{H:ag}(e:h.get? b=j3 o)(n:H b=jp):(ux h H).get? b=j3 o:=
 Ki _ e λhm=>by let q:(H b).isSome=q4:=(hH.mp hm).2;rw[n]at q;simp at q
def al8{h:Heap}{H:ag}(e:(ux h H).get? b=j3 o):h.get? b=j3 o/\H b=jp:=by
 let a:h.get? b=j3 o:=Qq (NL h H) e;show#[a,4];cases q:H b with
 |none=>rfl
 |some x=>
  let hm:b∈NL h H:=hH.mpr #[kF.mpr (dE a),by simp[q]];let z:(ux h H).get? b=jp:=đ (NL h H) hm;rw[z]at e;cases e
structure Mod(K:aL)(mg:b5)(base:Heap):Prop where
 sJ:K.In base
 glob:base.Ns sS mg
 blt:∃j7,base.Ns abi j7/\∀x:Str,x≠"__name__"->j7 x=iW x
 nolimit:base.NoLimit
structure bA where
 prog:cq
 w:bW
 K:aL
 mg:Str->Option Value
 base:Heap
 A:ee
 N:List Str
 fB:aS
 g9:ag
 env:Env
 outer:List Env
 stack:List Env
 ex:List Addr
 fn:Str->Bool
 calm:Bool
 da:List (Addr×Obj)
 dw:Value->aS->Prop
def fg(l:List Env):List Addr:=l.filterMap (·.frame)
abbrev bA.fs(X:bA):List Addr:=fg X.outer
def QO(a:Scope)(x:Str):Prop:=a.names.lookup x=j3 .local\/a.names.lookup x=j3 .cell\/a.names.lookup x=j3 .free
def Loc(a:Scope)(x:Str):Prop:=a.names.lookup x=j3 .local\/a.names.lookup x=j3 .cell
def Look(a:Env)(h:Heap)(m:b5)(x:Str)(u:Value):Prop:=
 (a.kindOf x=j3 .local/\m x=j3 u)\/((a.kindOf x=j3 .cell\/a.kindOf x=j3 .free)/\∃c,a.cells.lookup x=j3 c/\h.IsCell c (j3 u))
structure bA.Ok(X:bA):Prop where
 mod:Mod X.K X.mg X.base
 kind:X.env.scope.kind=.function
 glob:X.env.globals=sS
 blt:X.env.builtins=abi
 above:X.fB.L<=X.env.locals
 inj:∀x y c,X.env.cells.lookup x=j3 c->X.env.cells.lookup y=j3 c->x=y
 has:∀x,(X.env.kindOf x=j3 .cell\/X.env.kindOf x=j3 .free)->∃c,X.env.cells.lookup x=j3 c
 yP:∀x c,X.fn x=q4->X.env.cells.lookup x=j3 c->X.fB.L<=c
 hd:X.calm=q4->X.A.handled=jp
 frames:X.A.frames=j3 X.stack
 uh:X.stack=X.outer\/(X.stack=X.env::X.outer/\X.env.frame=j3 X.env.locals)
 Lf:∀b∈X.ex,b≠X.env.locals/\∀x c,X.env.cells.lookup x=j3 c->c≠b
 bs:∀b o,X.base.get? b=j3 o->X.fB.heap.get? b=j3 o/\X.g9 b=jp
 tG:X.base.Y<=X.fB.L
 zJ:∀b o,X.base.get? b=j3 o->b∉X.ex
 Cg:∀b∈X.ex,b∉X.fs
 l5:X.fB.heap.FunFrames X.base X.outer
 vb:∀b∈X.fs,X.g9 b=jp
structure Inv(X:bA)(pins:dJ)(aa:List (Option V))(H:ag)(s:aS):Prop where
 ok:X.Ok
 os:s.os=X.fB.os
 bare:uv s.gens
 base:iv X.fs X.ex X.g9 H X.fB.heap s.Q
 loc:∃m,s.heap.Ns X.env.locals m/\∀(i:Nat)(x:Str)(v:V),X.N[i]?=j3 x->aa[i]?=j3 (j3 v)->QO X.env.scope x->∃u,RelV v u/\Look X.env s.heap m x u
 cell:∀x c,X.env.cells.lookup x=j3 c->∃v,s.heap.IsCell c v
 free:H X.env.locals=jp
 pj:∀x c,X.env.cells.lookup x=j3 c->H c=jp
 pin:∀p∈X.da++pins,s.heap.get? p.1=j3 p.2/\H p.1=jp/\p.1≠X.env.locals/\p.1∉X.fs/\∀v,p.2.data≠.cell v
 bu:gw X.prog X.w H s.Q
 len:aa.Z=X.N.Z
section
variable{X:bA}{pins:dJ}{aa:List (Option V)}{H H':ag}{s:aS}{h':Heap}
def bA.Ok.awW(ok:X.Ok){b:Addr}(e:X.base.get? b=j3 o):b∉X.fs:=(λa=>by have:=(ok.l5.mem a).1;rw[e]at this;cases this)
theorem Inv.bs(I:Inv X pins aa H s):∀b o,X.base.get? b=j3 o->s.heap.get? b=j3 o/\H b=jp:=λb o e=>
 #[I.base.keep b o (I.ok.bs b o e).1 (I.ok.bs b o e).2 (I.ok.awW e) (I.ok.zJ b o e),I.base.free b o (I.ok.bs b o e).1 (I.ok.bs b o e).2 (I.ok.zJ b o e)]
def Inv.jk(I:Inv X pins aa H s):∀b o,X.base.get? b=j3 o->s.heap.get? b=j3 o:=(λb o e=>(I.bs b o e).1)
def Inv.mod(I:Inv X pins aa H s):Mod X.K X.mg X.base:=(I.ok.mod)
def Inv.eN(I:Inv X pins aa H s):X.K.In s.Q:=(I.ok.mod.sJ.keeps I.jk)
def Inv.lt(I:Inv X pins aa H s):X.env.locals<s.L:=(let⟨_,a,_⟩:=I.loc;a.lt)
def Inv.nH(I:Inv X pins aa H s):X.fB.L<=s.L:=(dQ I.ok.above (n2 I.lt))
def Inv.adL(I:Inv X pins aa H s){a:Addr}(h:s.L<=a):a∉X.fs:=(λb=>by let#[_,o,aW,_]:=I.ok.l5.mem b;show-bt (iR (dE aW) (dQ I.nH h)) (qN _))
def Inv.r8(I:Inv X pins aa H s):∀x c,X.env.cells.lookup x=j3 c->c≠X.env.locals:=(λx c e z=>by let#[v,o,aW,a]:=I.cell x c e;let#[m,#[f,k,g,b,d,_],_]:=I.loc;rw[z,b]at aW;cases aW;rw[d]at a;cases a)
def Inv.l5(I:Inv X pins aa H s):s.heap.FunFrames X.base X.outer:=by
 let all:∀(l:List Env),(∀b∈fg l,b∈X.fs)->X.fB.heap.FunFrames X.base l->s.heap.FunFrames X.base l:=by
  intro l
  induction l with
  |nil=>intro _ _;trivial
  |cons env r h=>
   intro f m;let#[g,#[L,o,c,p,aW,n],k]:=m;let d:L∈X.fs:=f L (by unfold fg;rw[E4,c];show-v');let#[t,e]:=I.base.slot L o aW (I.ok.vb L d) d λz=>I.ok.Cg L z d;show#[g,#[L,_,c,p,e,n],h (λb a=>f b (by unfold fg;rw[E4,c];show-n0 _ a)) k]
 show-all X.outer (λ_ a=>a) I.ok.l5
def Inv.stack(I:Inv X pins aa H s):s.heap.FunFrames X.base X.stack:=by
 rcases I.ok.uh with e|⟨e,h⟩
 .rw[e];show-I.l5
 rw[e];let#[m,a,_]:=I.loc;show-.cons (by rw[I.ok.kind];decide) h a ?_ I.l5;show-Zl (dQ I.ok.tG I.ok.above)
theorem Inv.D9(I:Inv X pins aa H s):∀b∈fg X.stack,b∈X.env.locals::X.fs:=λb a=>by
 rcases I.ok.uh with e|⟨e,h⟩
 .rw[e]at a;show-n0 _ a
 rw[e]at a;unfold fg at a;rwa[E4,h]at a
theorem Inv.NC(I:Inv X pins aa H s):∀b∈fg X.stack,H b=jp:=λb a=>by
 rcases et.mp (I.D9 b a)with e|a
 .rw[e];show-I.free
 let#[_,o,aW,_]:=I.ok.l5.mem a;show-I.base.free b o aW (I.ok.vb b a) λz=>I.ok.Cg b z a
def Inv.step{g':Array GenState}{t':Nat}{d':Drawn}{ch:bS}(I:Inv X pins aa H s)(jK:∀b∈ch,(b∈X.ex\/X.fB.L<=b)/\b≠X.env.locals/\(∀x c,X.env.cells.lookup x=j3 c->c≠b)/\∀p∈X.da++pins,p.1≠b)(t:∀b o,b≠X.env.locals->b∉X.fs->b∉ch->s.heap.get? b=j3 o->H b=jp->h'.get? b=j3 o)(A:∀b o,b≠X.env.locals->b∈X.fs->b∉ch->s.heap.get? b=j3 o->H b=jp->∃F,h'.get? b=j3 {o with slots:=F})(f:∀b o,b∉ch->s.heap.get? b=j3 o->H b=jp->H' b=jp)(N:∀b o,b∉ch->s.heap.get? b=j3 o->∃y,h'.get? b=j3 y)(Z:∀b K,H b=j3 (.tup K)->H' b=j3 (.tup K))(i0:∀b o u,H b=j3 (.fp o u)->H' b=j3 (.fp o u))(jx:∀b E,H b=j3 (.s_ E)->∃B,H' b=j3 (.s_ (E++B)))(ns:∀m,s.heap.Ns X.env.locals m->h'.Ns X.env.locals m)(T:gw X.prog X.w H' h')(U:uv g'):
  Inv X pins aa H' {s with heap:=h',gens:=g',drawn:=d',toks:=t'}:=by
 let j:∀b o,X.fB.heap.get? b=j3 o->b≠X.env.locals:=λb o e=>e8 (iR (dE e) I.ok.above);let D:∀b o,X.fB.heap.get? b=j3 o->b∉X.ex->b∉ch:=λb o e a L=>by
  rcases(jK b L).1 with z|z
  .exact a z
  show-bt (iR (dE e) z) (qN _)
 let g:∀x c,X.env.cells.lookup x=j3 c->∀v,s.heap.IsCell c v->h'.IsCell c v:=λx c e v⟨o,aW,G⟩=>by
  let C:c∉ch:=λz=>(jK c z).2.2.1 x c e rfl;by_cases J:c∈X.fs
  .let#[F,q]:=A c o (I.r8 x c e) J C aW (I.pj x c e);show#[_,q,G]
  show#[o,t c o (I.r8 x c e) J C aW (I.pj x c e),G]
 show#[I.ok,I.os,U,#[λb o e n L a=>?_,λb o e n L a=>?_,λb o e n a=>?_,λb o e a=>?_,λb K e=>Z b K (I.base.hE b K e),λb o K e=>i0 b o K (I.base.i0 b o K e),λb E e=>?_],4,λx c e=>?_,4,λx c e=>?_,λp M=>?_,T,I.len]
 .exact t b o (j b o e) L (D b o e a) (I.base.keep b o e n L a) (I.base.free b o e n a)
 .let#[F,w]:=I.base.slot b o e n L a;let#[qB,h]:=A b _ (j b o e) L (D b o e a) w (I.base.free b o e n a);show#[qB,h]
 .let#[y,w]:=I.base.there b o e a;show-f b y (D b o e a) w (I.base.free b o e n a)
 .let#[y,w]:=I.base.there b o e a;show-N b y (D b o e a) w
 .let#[Y,w]:=I.base.jx b E e;let#[hK,h]:=jx b _ w;show#[Y++hK,by rw[h,ED]]
 .let#[m,hn,Q]:=I.loc;show#[m,ns m hn,λi x v w h R=>?_];let#[u,r,l]:=Q i x v w h R;show#[u,r,4];rcases l with l|⟨k,c,e,z⟩
  .exact .inl l
  show-.inr #[k,c,e,g x c e _ z]
 .let#[v,z]:=I.cell x c e;show#[v,g x c e v z]
 .let#[m,#[o,6,aW,_],_]:=I.loc;show-f _ o (λz=>(jK _ z).2.1 rfl) aW I.free
 .let#[v,o,aW,G]:=I.cell x c e;show-f c o (λz=>(jK c z).2.2.1 x c e rfl) aW (I.pj x c e)
 let#[e,n,P,O,d]:=I.pin p M;let C:p.1∉ch:=λz=>(jK p.1 z).2.2.2 p M rfl;show#[t p.1 p.2 P O C e n,f p.1 p.2 C e n,P,O,d]
def Inv.un{t':Nat}(I:Inv X pins aa H s)(u:iv X.fs [] H H' s.heap h')(d:gw X.prog X.w H' h'):Inv X pins aa H' {s with heap:=h',toks:=t'}:=by
 let#[m,#[o,K,A,aW,r],_]:=id I.loc;let#[p,g]:=u.any aW I.free xg;show-I.step (g':=s.gens) (d':=s.drawn) (ch:=[]) (λ_ z=>nomatch z) (λb o _ a _ e n=>u.keep b o e n a xg) (λb o _ a _ e n=>u.slot b o e n a xg) (λb o _ e n=>u.free b o e n xg) (λb o _ e=>u.there b o e xg) u.hE u.i0 u.jx (λw hm=>by
  let#[t,l,k,c,f]:=hm;rw[aW]at c;cases c;show#[_,l,k,g,f]) d I.bare
def Inv.call{g':Array GenState}{t':Nat}{d':Drawn}{ch:bS}(I:Inv X pins aa H s)(u:iv (fg X.stack) ch H H' s.heap h')(k:gw X.prog X.w H' h')(l:uv g')(jK:∀b∈ch,(b∈X.ex\/X.fB.L<=b)/\b≠X.env.locals/\(∀x c,X.env.cells.lookup x=j3 c->c≠b)/\∀p∈X.da++pins,p.1≠b):
  Inv X pins aa H' {s with heap:=h',gens:=g',drawn:=d',toks:=t'}:=by
 let#[m,#[o,i,h,aW,r],_]:=id I.loc;let#[K,d]:=u.any aW I.free λz=>(jK _ z).2.1 rfl;show-I.step (ch:=ch) jK (λb o d g a e n=>u.keep b o e n (λz=>(et.mp (I.D9 b z)).elim d g) a) (λb o _ _ a e n=>u.any e n a) (λb o a e n=>u.free b o e n a) (λb o a e=>u.there b o e a) u.hE u.i0 u.jx (λN hm=>by
  let#[L,A,w,f,t]:=hm;rw[aW]at f;cases f;show#[_,A,w,d,t]) k l
def Inv.turned{t':Nat}{a:Addr}(I:Inv X pins aa H s)(k:∀b o,b≠a->s.heap.get? b=j3 o->h'.get? b=j3 o)(N:H a=jp)(g:a≠X.env.locals)(w:a∈X.ex\/X.fB.L<=a)(A:∀x c,X.env.cells.lookup x=j3 c->c≠a)(l:∀p∈X.da++pins,p.1≠a):Inv X pins aa H {s with heap:=h',toks:=t'}:=by
 let f:∀b u,H b=j3 u->b≠a:=λb u e z=>by rw[z,N]at e;cases e
 refine I.step (g':=s.gens) (d':=s.drawn) (ch:=[a]) (λb t=>?_) (λb o _ _ d e _=>k b o (λz=>d (by simp[z])) e) (λb o _ _ d e _=>#[o.slots,k b o (λz=>d (by simp[z])) e]) (λ_ _ _ _ n=>n)
  (λb o d e=>#[o,k b o (λz=>d (by simp[z])) e]) (λ_ _ e=>e) (λ_ _ _ e=>e) (λb h e=>#[#[],by rw[e];simp]) (λm hm=>?_) (λb u e=>?_) I.bare
 .let e:b=a:=by simpa using t
  subst e;show#[w,g,A,l]
 .let#[o,L,K,aW,r]:=hm;show#[o,L,K,k _ o (e5 g) aW,r]
 refine(I.bu b u e).pO (λc v d q=>k c v ?_ q) (λ_ q=>q) λ_ _ q=>q;rcases d with z|z
 .rw[z];show-f b u e
 show-f c _ z
def Inv.tok(I:Inv X pins aa H s)(t:Nat):Inv X pins aa H {s with toks:=t}:=(I.un (h':=s.Q) (t':=t) iv.refl I.bu)
def Inv.kept{t':Nat}(I:Inv X pins aa H s)(k:∀b u,s.heap.get? b=j3 u->h'.get? b=j3 u):Inv X pins aa H {s with heap:=h',toks:=t'}:=(I.un (iv.kept k) (I.bu.kept k))
theorem Inv.laid{a:Addr}{t':Nat}(I:Inv X pins aa H s)(k:∀b u,s.heap.get? b=j3 u->h'.get? b=j3 u)(c:s.L<=a)(d:e9 X.prog X.w (upd H a o) h' a o):
  Inv X pins aa (upd H a o) {s with heap:=h',toks:=t'}:=I.un (iv.laid k c (I.bu.fresh c)) (I.bu.laid k c d)
def Inv.write{x:Addr}{t':Nat}(I:Inv X pins aa H s)(j8:Fn (H x))(d:e=x\/H e=j3 (.own x))(k:∀b u,b≠e->s.heap.get? b=j3 u->h'.get? b=j3 u)(c:∃u,h'.get? e=j3 u)(a:e9 X.prog X.w (upd H x o) h' x o):Inv X pins aa (upd H x o) {s with heap:=h',toks:=t'}:=(I.un (iv.write j8 d k c) (I.bu.write j8 d k c a))
theorem Inv.ad3{a:dJ}(I:Inv X pins aa H s)(h:∀p∈a,s.heap.get? p.1=j3 p.2/\H p.1=jp/\p.1≠X.env.locals/\p.1∉X.fs/\∀v,p.2.data≠.cell v):Inv X a aa H s:=
 #[I.ok,I.os,I.bare,I.base,I.loc,I.cell,I.free,I.pj,λp b=>(gU.mp b).elim (λz=>I.pin p (P1 _ z)) (h p),I.bu,I.len]
def X2{N:bE}(f:N.Nodup){i j:Nat}(a:N[i]?=j3 x)(b:N[j]?=j3 x):i=j:=by let#[g,d]:=fU.mp a;let#[k,c]:=fU.mp b;exact(E7 f).mp (d.trans c.J)
def Yz{M:m5}{E:cC}{i:Nat}{Q:Unit->aS->Prop}(I:Inv X pins aa H s)(ec:X.N.Nodup)(F:X.N[i]?=j3 x)(w:Loc X.env.scope x)(r:RelV v u)(h:∀s',Inv X pins (aa.set i (j3 v)) H s'->(∃a,jT a s.heap s'.Q/\(a=X.env.locals\/X.env.cells.lookup x=j3 a))->Q () s')(bG:X.fn x=q4\/X.env.scope.names.lookup x=j3 .local:=by first|exact .inl rfl|exact .inr rfl|assumption):aO M A (storeName X.env x u) Q E s:=by
 let#[m,hn,au]:=id I.loc;let TB:(X.env.scope.kind==.class||(X.env.scope.kind==.module&&X.env.locals !=X.env.globals))=q9:=by rw[I.ok.kind];rfl
 let LI:i<aa.Z:=by rw[I.len];exact(fU.mp F).1
 let r8:=I.r8;let l:∀{a:Addr}{h':Heap},(∃o,s.heap.get? a=j3 o/\H a=jp)->jT a s.heap h'->gw X.prog X.w H h':=λ{a h'}aB f b ob e=>by
  let#[6,LH]:=aB;refine(I.bu b ob e).pO (λc G t q=>(f.2 c ?_).trans q) (λ_ q=>q) λ_ _ q=>q;rintro rfl;rcases t with rfl|t
  .rw[LH]at e;cases e
  rw[LH]at t;cases t
 rcases w with L|L
 .refine wpAny_storeName_local L hn (λh' hB f=>?_) TB;let#[U,6,T,_]:=id hn;show-h _ #[I.ok,I.os,I.bare,#[λb o e n N w=>?_,λb o e n N w=>?_,I.base.free,λb o e w=>?_,I.base.hE,I.base.i0,I.base.jx],#[_,hB,λj y vE g K Z=>?_],λy c e=>?_,I.free,I.pj,λp Y=>?_,l #[U,T,I.free] f,by simpa using I.len] #[_,f,.inl rfl]
  .exact(f.2 b (e8 (iR (dE e) I.ok.above))).trans (I.base.keep b o e n N w)
  .let#[bK,g]:=I.base.slot b o e n N w;show#[bK,(f.2 b (e8 (iR (dE e) I.ok.above))).trans g]
  .let#[cF,g]:=I.base.there b o e w;show#[cF,(f.2 b (e8 (iR (dE e) I.ok.above))).trans g]
  .by_cases B:j=i
   .subst B;rw[F]at g;cases g;rw[φ LI]at K;cases K;show#[u,r,.inl #[L,by simp]]
   rw[υ (e5 B)]at K;let#[u',cu,q]:=au j y vE g K Z;show#[u',cu,4];rcases q with⟨k,e⟩|⟨k,c,e,z⟩
   .refine .inl #[k,4];have:y≠x:=λe=>B (X2 ec g (e▸F));simp[this,e]
   show-.inr #[k,c,e,z.sameBut f (r8 y c e)]
  .let#[G,z]:=I.cell y c e;show#[G,z.sameBut f (r8 y c e)]
  let#[e,n,J,gQ,d]:=I.pin p Y;show#[(f.2 p.1 J).trans e,n,J,gQ,d]
 let P:X.fn x=q4:=by
  rcases bG with z|z
  .exact z
  rw[z]at L;cases L
 let#[c,t]:=I.ok.has x (.inl L);let#[G,z]:=I.cell x c t;show-wpAny_storeName_cell I.ok.kind L t z (λh' wN f=>?_);let#[kx,C,R]:=id z;refine h {s with heap:=h'} #[I.ok,I.os,I.bare,#[λb o e n N w=>?_,λb o e n N w=>?_,I.base.free,λb o e w=>?_,I.base.hE,I.base.i0,I.base.jx],#[m,hn.sameBut f (e5 (r8 x c t)),λj y vE g K Z=>?_],λy O e=>?_,I.free,I.pj,λp Y=>?_,l #[kx,C,I.pj x c t] f,by simpa using I.len] #[c,f,.inr t]
 .exact(f.2 b (e8 (iR (dE e) (I.ok.yP x c P t)))).trans (I.base.keep b o e n N w)
 .let#[bK,g]:=I.base.slot b o e n N w;show#[bK,(f.2 b (e8 (iR (dE e) (I.ok.yP x c P t)))).trans g]
 .let#[cF,g]:=I.base.there b o e w;show#[cF,(f.2 b (e8 (iR (dE e) (I.ok.yP x c P t)))).trans g]
 .by_cases B:j=i
  .subst B;rw[F]at g;cases g;rw[φ LI]at K;cases K;show#[u,r,.inr #[.inl L,c,t,wN]]
  rw[υ (e5 B)]at K;let#[u',cu,q]:=au j y vE g K Z;show#[u',cu,4];rcases q with q|⟨k,O,e,ei⟩
  .exact .inl q
  show-.inr #[k,O,e,ei.sameBut f ?_];rintro rfl;exact B (X2 ec g (I.ok.inj _ _ _ e t▸F))
 .by_cases D:O=c
  .subst D;show#[_,wN]
  let#[hu,aJ]:=I.cell y O e;show#[hu,aJ.sameBut f D]
 let#[e,n,J,gQ,d]:=I.pin p Y;show#[(f.2 p.1 ?_).trans e,n,J,gQ,d];intro q;rw[q,C]at e;let h1:kx=p.2:=gk e;show-d G (by rwa[<-h1])
theorem DZ{M:m5}{E:cC}{i:Nat}{Q:Unit->aS->Prop}(I:Inv X pins aa H s)(d:X.N.Nodup)(f:X.N[i]?=j3 x)(b:Loc X.env.scope x)(r:RelV v u)(h:∀a,Inv X pins (aa.set i (j3 v)) H a->Q () a)(c:X.fn x=q4\/X.env.scope.names.lookup x=j3 .local:=by first|exact .inl rfl|exact .inr rfl|assumption):aO M A (storeName X.env x u) Q E s:=
 Yz I d f b r (λa g _=>h a g) c
def Inv.FZ{s':aS}{ch:bS}(I:Inv X pins aa H s)(aW:s'.os=s.os)(u:iv (fg X.stack) ch H H' s.heap s'.Q)(a:gw X.prog X.w H' s'.Q)(d:uv s'.gens)(jK:∀b∈ch,(b∈X.ex\/X.fB.L<=b)/\b≠X.env.locals/\(∀x c,X.env.cells.lookup x=j3 c->c≠b)/\∀p∈X.da++pins,p.1≠b):Inv X pins aa H' s':=by let#[h',g',d',t',f]:=s';let e:f=s.os:=aW;subst e;show-I.call (g':=g') (t':=t') (d':=d') u a d jK
end
abbrev bM:=Value->Option Addr->ag->Prop
abbrev St:=List (Option V)
abbrev aX:=V->ag->Prop
abbrev TE:=St->ag->aX->Prop
abbrev iL:=St->ag->(Bool->ag->Prop)->Prop
abbrev gb:=St->ag->(List V->ag->Prop)->Prop
structure Ends where
 cX:St->ag->Prop
 rt:aX
 jk:St->ag->Prop:=λ_ _=>False
 fI:St->ag->Prop:=λ_ _=>False
abbrev fo:=Ends->St->ag->Prop
inductive ir(X:bA)(pins:dJ)(aa:St)(Q:aX)(u:Value)(s':aS):Prop where
 |mk(v:V)(H':ag)(_:Inv X pins aa H' s')(_:RelV v u)(_:Q v H')
def Kl(X:bA)(a:dJ)(c:St)(Q:Bool->ag->Prop)(b:Bool)(d:aS):Prop:=∃H',Inv X a c H' d/\Q b H'
inductive X6(X:bA)(pins:dJ)(aa:St)(Q:List V->ag->Prop)(us:dR)(s':aS):Prop where
 |mk(vs:aV)(H':ag)(_:Inv X pins aa H' s')(_:cI vs us)(_:Q vs H')
def uY(X:bA)(a:dJ)(D:Ends)(f:Flow)(c:aS):Prop:=
 match f with
 |.next=>∃b H',Inv X a b H' c/\D.cX b H'
 |.brk=>∃b H',Inv X a b H' c/\D.jk b H'
 |.cont=>∃b H',Inv X a b H' c/\D.fI b H'
 |.ret u=>∃v b H',Inv X a b H' c/\RelV v u/\D.rt v H'
def bq(X:bA)(e:Expr)(t:TE):Prop:=
 ∀(a:dJ)(s:aS)(b:St)(H:ag)(Q:aX),Inv X a b H s->t b H Q->aO (ba X.prog X.w) X.A (eval e X.env) (ir X a b Q) X.dw s
def m7(X:bA)(e:Expr)(t:iL):Prop:=
 ∀(a:dJ)(s:aS)(b:St)(H:ag)(Q:Bool->ag->Prop),Inv X a b H s->t b H Q->aO (ba X.prog X.w) X.A (CH e X.env (eval e X.env)) (Kl X a b Q) X.dw s
def mB(X:bA)(e:Expr)(t:iL):Prop:=
 ∀(b:Sem Value)(a:dJ)(s:aS)(c:St)(H:ag)(Q:Bool->ag->Prop),Inv X a c H s->t c H Q->aO (ba X.prog X.w) X.A (CH e X.env b) (Kl X a c Q) X.dw s
def mB.pt{t:iL}(h:mB X e t):m7 X e t:=(h _)
def fN(X:bA)(d:hy)(t:gb):Prop:=
 ∀(c:Pos)(a:dJ)(s:aS)(b:St)(H:ag)(Q:List V->ag->Prop),Inv X a b H s->t b H Q->aO (ba X.prog X.w) X.A (spliced (hr c (dM d X.env))) (X6 X a b Q) X.dw s
def f3(X:bA)(st:Stmt)(t:fo):Prop:=
 ∀(a:dJ)(s:aS)(b:St)(H:ag)(D:Ends),Inv X a b H s->t D b H->aO (ba X.prog X.w) X.A (exec st X.env) (uY X a D) X.dw s
def gm(X:bA)(st:List Stmt)(t:fo):Prop:=
 ∀(a:dJ)(s:aS)(b:St)(H:ag)(D:Ends),Inv X a b H s->t D b H->aO (ba X.prog X.w) X.A (execs st X.env) (uY X a D) X.dw s
def bL{c:Type}{t:Sem c}{Q b:c->aS->Prop}{M:m5}{E:cC}(h:aO M A t Q E s)(d:∀a s,Q a s->b a s):aO M A t b E s:=(fC h d λ_ _ x=>x)
section
variable{X:bA}
inductive Ks(i:Nat)(aa:aq.St)(H:ag)(Q:aX):Prop where
 |mk(v:_)(_:aa[i]?=j3 (j3 v))(_:Q v H)
def s6(v:V):TE:=λ_ H Q=>Q v H
def an4{i:Nat}(p:X.N[i]?=j3 x)(n:QO X.env.scope x)(f:(x==("__debug__":Str))=q9:=by decide)(w:(x==("__classdict__":Str))=q9:=by decide):bq X (.Name x pos) (Ks i):=by
 intro d s g H Q I h;let#[v,e,h]:=h;let#[m,t,k]:=I.loc;let#[u,r,l]:=k i x v p e n;let b:ir X d g Q u s:=#[v,H,I,r,h]
 rcases l with⟨a,hm⟩|⟨a,c,j,o⟩
 .exact aeR (wpAny_loadName_local I.ok.kind a t hm b) f
 rcases a with a|a
 .exact aeR (wpAny_loadName_cell I.ok.kind a j o b) f
 show-aeR (wpAny_loadName_free I.ok.kind a j o b w) f
def a8{i j pos}:bq X (.Constant (.int i) j pos) (s6 (.int i)):=(λ_ _ _ H _ I h=>wpAny_Constant_int #[.int i,H,I.tok _,#[1],h])
def i2{b j pos}:bq X (.Constant (.bool b) j pos) (s6 (.bo b)):=(λ_ _ _ H _ I h=>Constant_bool #[.bo b,H,I,2,h])
def iZ{j pos}:bq X (.Constant .none j pos) (s6 .cf):=(λ_ _ _ H _ I h=>Constant_none #[.cf,H,I,2,h])
def cz{x j pos}:bq X (.Constant (.str x) j pos) (s6 (.str x)):=(λ_ _ _ H _ I h=>Calls.Constant_str #[.str x,H,I.tok _,#[1],h])
def jd(X:bA)(x:Str):Prop:=X.env.kindOf x=j3 .globalImplicit
theorem sL{E:cC}{Q:cC}(I:Inv X pins e H s)(a:jd X x)(hm:X.mg x=j3 u)(h:Q u s)(b:(x==("__debug__":Str))=q9:=by decide):aO (ba X.prog X.w) X.A (eval (.Name x pos) X.env) Q E s:=
 afR I.ok.kind a (Calls.loadGlobal_global (by rw[I.ok.glob];show-I.mod.glob.keeps I.jk) hm h) b
def Ab{E:cC}{Q:cC}(I:Inv X pins e H s)(d:jd X x)(hm:X.mg x=jp)(c:iW x=j3 u)(h:Q u s)(g:x≠"__name__":=by decide)(f:(x==("__debug__":Str))=q9:=by decide):aO (ba X.prog X.w) X.A (eval (.Name x pos) X.env) Q E s:=by let#[k,a,b]:=I.mod.blt;show-afR I.ok.kind d (Calls.loadGlobal_builtin (by rw[I.ok.glob];show-I.mod.glob.keeps I.jk) hm (by rw[I.ok.blt];show-a.keeps I.jk) ((b x g).trans c) h) f
theorem Υ(a:jd X x)(hm:X.mg x=j3 u)(r:RelV v u)(b:(x==("__debug__":Str))=q9:=by decide):bq X (.Name x pos) (s6 v):=
 λ_ _ _ H _ I h=>sL I a hm #[v,H,I,r,h] b
theorem al9(b:jd X x)(hm:X.mg x=jp)(a:iW x=j3 u)(r:RelV v u)(d:x≠"__name__":=by decide)(c:(x==("__debug__":Str))=q9:=by decide):bq X (.Name x pos) (s6 v):=
 λ_ _ _ H _ I h=>Ab I b hm a #[v,H,I,r,h] d c
variable{a b:Expr}{ck tb:TE}{pos:Pos}
def Ft(X:bA)(g:CmpOp)(a b:Expr)(t:TE):Prop:=
 ∀(c:dJ)(s:aS)(d:St)(H:ag)(Q:aX),Inv X c d H s->t d H Q->
  aO (ba X.prog X.w) X.A (eval a X.env) (λv f=>aO (ba X.prog X.w) X.A (eval b X.env) (λu k=>aO (ba X.prog X.w) X.A (jl g v u) (ir X c d Q) X.dw k) X.dw f) X.dw s
def Zn(b:Expr){c:CmpOp}(h:c≠.In)(g:c≠.NotIn):yM c b=q9:=by
 let f:(c==CmpOp.In)=q9:=by cases c<;>first|rfl|exact bt rfl h
 let d:(c==CmpOp.NotIn)=q9:=by cases c<;>first|rfl|exact bt rfl g
 cases b<;>simp[yM,f,d]
inductive ZS(x:V)(H1:ag)(Q:Bool->ag->Prop):Prop where
 |mk(c:_)(_:x=.bo c)(_:Q c H1)
def WK(t:TE):iL:=λd H Q=>t d H λx c=>ZS x c Q
def an5{d:CmpOp}{t:TE}(h:Ft X d a b t)(g:yM d b=q9:=by first|exact Zn _ x8 x8|rfl):bq X (.Compare a [d] [b] pos) t:=(λc s f H Q I k=>ayI (h c s f H Q I k) g)
def PE{k:CmpOp}{t:TE}(h:Ft X k a b t)(g:yM k b=q9:=by first|exact Zn _ x8 x8|rfl):m7 X (.Compare a [k] [b] pos) (WK t):=by intro f s n H Q I A;show-ayO (bL (h f s n H _ I A) λv L g=>bL g λu N p=>bL p λc V K=>?_) g;let#[x,l,m,w,r]:=K;let#[d,2,q]:=r;cases w;show-tf #[l,m,q]
def kp{e:Expr}{t:TE}(h:bq X e t)(p:∀c,CH e X.env c=(do let v <-c;vC e.pos;tW [v] (truthy v)):=by intro _;rfl):m7 X e (WK t):=by intro f s l H Q I r;show-isTrue_plain (bL (h f s l H _ I r) λv A w=>?_) (p _);let#[x,g,k,n,m]:=w;let#[d,2,q]:=m;cases n;show-tf #[g,k,q]
variable{rn NG:iL}{rest:hy}
def arx(t u:iL):iL:=λf H Q=>t f H λc d=>if c=q4 then u f d Q else Q q9 d
def aye(t u:iL):iL:=λf H Q=>t f H λc d=>if c=q4 then Q q4 d else u f d Q
def aaG(t:iL):iL:=λf H Q=>t f H λc d=>Q (!c) d
def Φ(f:m7 X a rn):mB X (.BoolOp .And [a] pos) rn:=by
 intro k d s g H Q I h;show-isTrue_and (bL (f d s g H Q I h) λc l e=>?_);cases c with
 |true=>show-isTrue_and_nil e
 |false=>show-e
def Ac(f:m7 X a rn):mB X (.BoolOp .Or [a] pos) rn:=by
 intro k d s g H Q I h;show-isTrue_or (bL (f d s g H Q I h) λc l e=>?_);cases c with
 |false=>show-isTrue_or_nil e
 |true=>show-e
def Ġ(n:m7 X a rn)(p:mB X (.BoolOp .And (b::rest) pos) NG):mB X (.BoolOp .And (a::b::rest) pos) (arx rn NG):=by
 intro m d s k H Q I h;show-isTrue_and (bL (n d s k H _ I h) λc t r=>?_);let#[f,g,l]:=r;cases c with
 |true=>show-p m d t k f Q g l
 |false=>show#[f,g,l]
def AJ(n:m7 X a rn)(p:mB X (.BoolOp .Or (b::rest) pos) NG):mB X (.BoolOp .Or (a::b::rest) pos) (aye rn NG):=by
 intro m d s k H Q I h;show-isTrue_or (bL (n d s k H _ I h) λc t r=>?_);let#[f,g,l]:=r;cases c with
 |true=>show#[f,g,l]
 |false=>show-p m d t k f Q g l
def j2(g:m7 X a rn):m7 X (.UnaryOp .Not a pos) (aaG rn):=by intro d s k H Q I h;show-isTrue_not (g d s k H (λc f=>Q (!c) f) I h)
def JN(ck tb:TE):TE:=λf H Q=>ck f H λx d=>∃c,x=.bo c/\if c=q4 then tb f d Q else Q (.bo q9) d
def ary(ck tb:TE):TE:=λf H Q=>ck f H λx d=>∃c,x=.bo c/\if c=q4 then Q (.bo q4) d else tb f d Q
def apJ(ck:TE):TE:=λf H Q=>ck f H λx d=>∃c,x=.bo c/\Q (.bo (!c)) d
def oF{op}{t:TE}(h:bq X a t):bq X (.BoolOp op [a] pos) t:=(λc s d H Q I f=>BoolOp_one (h c s d H Q I f))
def jn(m:bq X a ck)(n:bq X (.BoolOp .And (b::rest) pos) tb):bq X (.BoolOp .And (a::b::rest) pos) (JN ck tb):=by
 intro d s l H Q I h;show-BoolOp_and (bL (m d s l H _ I h) λv t r=>?_);let#[x,g,k,p,f]:=r;let#[c,2,f]:=f;cases p;show-tf ?_;cases c with
 |true=>show-n d t l g Q k f
 |false=>show#[.bo q9,g,k,2,f]
def apK(m:bq X a ck)(n:bq X (.BoolOp .Or (b::rest) pos) tb):bq X (.BoolOp .Or (a::b::rest) pos) (ary ck tb):=by
 intro d s l H Q I h;show-BoolOp_or (bL (m d s l H _ I h) λv t r=>?_);let#[x,g,k,p,f]:=r;let#[c,2,f]:=f;cases p;show-tf ?_;cases c with
 |false=>show-n d t l g Q k f
 |true=>show#[.bo q4,g,k,2,f]
def ġ(k:bq X a ck):bq X (.UnaryOp .Not a pos) (apJ ck):=by intro d s m H Q I h;show-UnaryOp_ (bL (k d s m H _ I h) λv r p=>?_);let#[x,g,l,n,f]:=p;let#[c,2,f]:=f;cases n;show-not_of (tf #[.bo (!c),g,l,2,f])
def ayc(t:iL)(ck tb:TE):TE:=λd H Q=>t d H λc f=>if c=q4 then ck d f Q else tb d f Q
def ajX(t:m7 X c rn)(p:bq X a ck)(r:bq X b tb):bq X (.IfExp c a b pos) (ayc rn ck tb):=by
 intro f s g H Q I h;show-wpAny_IfExp (bL (t f s g H _ I h) λd n w=>?_);let#[k,l,m]:=w;cases d with
 |true=>show-p f n g k Q l m
 |false=>show-r f n g k Q l m
end
def aI(K:aL)(H:ag)(a:Addr)(c:aV):Prop:=
 fV H a (.lst c)\/
  ∃(o:Obj)(b:lY)(n:Nat),K.lookup a=j3 o/\o.cls=.type "list"/\o.dict=jp/\o.data=.seq b n/\b.size<=sizeLine/\cI c b.G
def cj(K:aL)(H:ag)(a:Addr)(c:aV):Prop:=
 fV H a (.tup c)\/
  ∃(o:Obj)(b:lY)(n:Nat),K.lookup a=j3 o/\o.cls=.type "tuple"/\o.data=.seq b n/\b.size<=sizeLine/\cI c b.G
def arz:Value->Option V
 |.none=>j3 .cf
 |.bool b=>j3 (.bo b)
 |.int i _=>j3 (.int i)
 |.str x _=>j3 (.str x)
 |.bytes b _=>j3 (.B8 b)
 |.float b _=>j3 (.y5 b)
 |.ref a=>j3 (.ref a)
 |.type n=>j3 (.ty n)
 |_=>jp
def RelV.abs(r:RelV x u):arz u=j3 x:=by
 cases x with
 |cf=>cases r;rfl
 |bo _=>cases r;rfl
 |int _=>let#[t,2]:=r;rfl
 |str _=>let#[t,2]:=r;rfl
 |B8 _=>let#[t,2]:=r;rfl
 |y5 _=>let#[t,2]:=r;rfl
 |ref _=>cases r;rfl
 |ty _=>cases r;rfl
def RelV.inj{y:V}(r:RelV x u)(q:RelV y u):x=y:=(gk (r.abs.symm.trans q.abs))
def cI.inj{a:aV}(h:cI xs us)(g:cI a us):xs=a:=by
 induction h generalizing a with
 |nil=>
  cases g;rfl
 |cons r _ e=>
  cases g with
  |cons i j=>rw[RelV.inj r i,e j]
section
variable{X:bA}{pins:dJ}{aa:St}{H:ag}{s:aS}{a:Addr}{xs ys:aV}
def aI.of{K:aL}(h:H a=j3 (.lst xs)):aI K H a xs:=(.inl (.inl h))
def cj.of{K:aL}(h:H a=j3 (.tup xs)):cj K H a xs:=(.inl (.inl h))
def Inv.list(I:Inv X pins aa H s)(h:aI X.K H a xs):∃b:List Value,cI xs b/\PlainL s.heap a b.toArray/\xs.Z<=sizeLine:=by
 rcases h with h|⟨o,b,n,i,j,hd,hs,hz,r⟩
 .let#[z,b,n,r,e]:=h.ok I.bu;show#[b,r,#[_,n,e,2,2,2],z]
 show#[b.G,r,#[o,n,I.eN a o i,j,hd,by simpa using hs],4];let e:=r.Z;simp only[I1]at e
 lia
def Inv.tuple(I:Inv X pins aa H s)(h:cj X.K H a xs):∃b:List Value,cI xs b/\o5 s.heap a b.toArray/\xs.Z<=sizeLine:=by
 rcases h with h|⟨o,b,n,i,j,hs,hz,r⟩
 .let#[z,b,r,p]:=h.ok I.bu;show#[b,r,p,z]
 show#[b.G,r,#[o,I.eN a o i,j,n,by simpa using hs],4];let e:=r.Z;simp only[I1]at e
 lia
def Inv.Mo(I:Inv X pins aa H s)(h:aI X.K H a xs)(m:aI X.K H a ys):xs=ys:=by
 let#[c,r,#[o,n,e,6,d],_]:=I.list h;let#[b,k,#[p,t,f,6,g],_]:=I.list m;rw[e]at f;cases f;rw[d]at g;injection g with l _;have:c=b:=by simpa using fe afs l
 subst this;show-r.inj k
def Inv.aeB(I:Inv X pins aa H s)(h:cj X.K H a xs)(m:cj X.K H a ys):xs=ys:=by
 let#[c,r,#[o,e,_,n,d],_]:=I.tuple h;let#[b,k,#[p,f,_,t,g],_]:=I.tuple m;rw[e]at f;cases f;rw[d]at g;injection g with l _;have:c=b:=by simpa using fe afs l
 subst this;show-r.inj k
end
abbrev bA.mr(X:bA)(E:cC):bA:={X with dw:=E}
abbrev bA.ud(X:bA):bA:=X.mr λ_ _=>False
theorem bA.Ok.mr{X:bA}(ok:X.Ok)(E:cC):(X.mr E).Ok:=
 #[ok.mod,ok.kind,ok.glob,ok.blt,ok.above,ok.inj,ok.has,ok.yP,ok.hd,ok.frames,ok.uh,ok.Lf,ok.bs,ok.tG,ok.zJ,ok.Cg,ok.l5,ok.vb]
theorem bA.Ok.nM{X:bA}{E:cC}(ok:(X.mr E).Ok):X.Ok:=
 #[ok.mod,ok.kind,ok.glob,ok.blt,ok.above,ok.inj,ok.has,ok.yP,ok.hd,ok.frames,ok.uh,ok.Lf,ok.bs,ok.tG,ok.zJ,ok.Cg,ok.l5,ok.vb]
section
variable{X:bA}{pins:dJ}{aa:St}{H:ag}{s:aS}{E:cC}
def Inv.mr(I:Inv X pins aa H s)(E:cC):Inv (X.mr E) pins aa H s:=(#[I.ok.mr E,I.os,I.bare,I.base,I.loc,I.cell,I.free,I.pj,I.pin,I.bu,I.len])
def Inv.nM(I:Inv (X.mr E) pins aa H s):Inv X pins aa H s:=(#[I.ok.nM,I.os,I.bare,I.base,I.loc,I.cell,I.free,I.pj,I.pin,I.bu,I.len])
def uY.nM{D:Ends}{f:Flow}(h:uY (X.mr E) pins D f e):uY X pins D f e:=by
 cases f with
 |next=>let#[a,H',I,q]:=h;show#[a,H',I.nM,q]
 |brk=>let#[a,H',I,q]:=h;show#[a,H',I.nM,q]
 |cont=>let#[a,H',I,q]:=h;show#[a,H',I.nM,q]
 |ret u=>let#[v,a,H',I,r,q]:=h;show#[v,a,H',I.nM,r,q]
theorem gm.ud{st:List Stmt}{t:fo}(h:gm X.ud st t):gm X st t:=λpins s aa H D I a=>
 fC (h pins s aa H D (I.mr _) a) (λ_ _ q=>q.nM) λ_ _ z=>iu z
end
section
variable{X:bA}{st:Stmt}{rest:List Stmt}{t u:fo}{e:Expr}{bO:TE}{pos:Pos}
def uk:fo:=λD a H=>D.cX a H
def jQ(t u:fo):fo:=λD a H=>t {D with cX:=u D} a H
def eB:gm X [] uk:=(λ_ _ a H _ I h=>vI #[a,H,I,h])
def a7(c:f3 X st t)(d:gm X rest u):gm X (st::rest) (jQ t u):=by
 intro a s b H D I h;show-Od (bL (c a s b H {D with cX:=u D} I h) λf l q=>?_);cases f with
 |next=>
  let#[g,H',k,q]:=q;show-d a l g H' D k q
 |ret v=>show-q
 |brk=>show-q
 |cont=>show-q
def a_(c:f3 X st t):gm X [st] t:=by
 intro a s b H D I h;show-Od (bL (c a s b H D I h) λf d q=>?_);cases f with
 |next=>show-vI q
 |ret v=>show-q
 |brk=>show-q
 |cont=>show-q
def Inv.quiet(I:Inv X pins h H s):interactive X.env=q9:=by simp[interactive,I.ok.kind]
def apL(bO:TE):fo:=λD a H=>bO a H λ_ b=>D.cX a b
def gL(g:bq X e bO)(k:xq e jp pos.line X.env=pure q9:=by rfl):f3 X (.Expr e pos) (apL bO):=by intro a s b H D I h;show-ayK (bL (g a s b H _ I h) λv n l=>?_) I.quiet k;let#[x,c,d,m,f]:=l;show#[b,c,d,f]
def uy(bO:TE):fo:=λD a H=>bO a H D.rt
def cc(k:bq X e bO):f3 X (.Return (j3 e) pos) (uy bO):=by intro a s b H D I h;show-wpAny_Return_some (bL (k a s b H _ I h) λv m l=>?_);let#[x,c,d,g,f]:=l;show#[x,b,c,d,g,f]
def x3(c:iL)(t u:fo):fo:=λD a H=>c a H λb d=>if b=q4 then t D a d else u D a d
def er{a b:List Stmt}(w:m7 X c i)(p:gm X a t)(r:gm X b u):f3 X (.If c a b pos) (x3 i t u):=by
 intro f s g H D I h;show-wpAny_If (bL (w f s g H _ I h) λd n A=>?_);let#[k,l,m]:=A;cases d with
 |true=>show-p f n g k D l m
 |false=>show-r f n g k D l m
def ĝ:fo:=λ_ _ _=>False
def zN:f3 X st ĝ:=(λ_ _ _ _ _ _ h=>h.elim)
def ajG{a:List Stmt}:gm X a ĝ:=(λ_ _ _ _ _ _ h=>h.elim)
abbrev kK:=V->St->ag->(St->ag->Prop)->Prop
abbrev yF:=List V->St->ag->(St->ag->Prop)->Prop
end
def qO(X:bA)(a:Expr)(t:kK):Prop:=
 ∀(b:dJ)(s:aS)(c:St)(H:ag)(v:V)(u:Value)(Q:St->ag->Prop),Inv X b c H s->RelV v u->t v c H Q->
  aO (ba X.prog X.w) X.A (B6 a X.env u) (λ_ f=>∃d H',Inv X b d H' f/\Q d H') X.dw s
def Fu(X:bA)(k:hy)(t:yF):Prop:=
 ∀(a:dJ)(s:aS)(b:St)(H:ag)(f:aV)(d:dR)(Q:St->ag->Prop),Inv X a b H s->cI f d->t f b H Q->
  aO (ba X.prog X.w) X.A (assignInOrder ((yI k X.env).map (·.2)) d) (λ_ g=>∃c H',Inv X a c H' g/\Q c H') X.dw s
section
variable{X:bA}{pos:Pos}
def hW(i:Nat):kK:=λv a H Q=>Q (a.set i (j3 v)) H
def dV(i:Nat)(d:X.N.Nodup)(f:X.N[i]?=j3 x:=by rfl)(b:Loc X.env.scope x:=by first|exact .inl rfl|exact .inr rfl)(c:X.fn x=q4\/X.env.scope.names.lookup x=j3 .local:=by first|exact .inl rfl|exact .inr rfl|assumption):qO X (.Name x pos) (hW i):=by intro a s k H v u Q I r h;show-ayL (DZ I d f b r (λl g=>#[_,H,g,h]) c)
def x4:yF:=λb a H Q=>b=[]/\Q a H
inductive qt(t:kK)(u:yF)(vs:aV)(aa:aq.St)(H:ag)(Q:(aq.St->ag->Prop)):Prop where
 |mk(v:_)(r:_)(_:vs=v::r)(_:t v aa H λbx H'=>u r bx H' Q)
def sM:Fu X [] x4:=by intro a s b H d c Q I r h;let#[e,h]:=h;subst e;cases r;show-assignInOrder_nil #[b,H,I,h]
def iX{e:Expr}{b:hy}{t:kK}{u:yF}(k:qO X e t)(l:Fu X b u)(n:(yI (e::b) X.env).map (·.2)=B6 e X.env::(yI b X.env).map (·.2):=by rfl):Fu X (e::b) (qt t u):=by
 intro a s g H N L Q I r h;let#[v,K,d,h]:=h;subst d;cases r with
 |cons r i=>
  rw[n];show-assignInOrder_cons (bL (k a s g H _ _ _ I r h) λ_ A p=>?_);let#[w,c,f,m]:=p;show-l a A w c _ _ Q f i m
inductive vS(K:aL)(n:Nat)(t:yF)(v:aq.V)(aa:aq.St)(H:ag)(Q:(aq.St->ag->Prop)):Prop where
 |mk(a:_)(xs:_)(_:v=.ref a)(_:cj K H a xs)(_:xs.Z=n)(_:t xs aa H Q)
def Ad{k:Nat}{t:yF}{n:Nat}(A:X.calm=q4)(h:Fu X i t)(V:(yI i X.env).Z=n:=by rfl)(q:(yI i X.env).findIdx? (·.1)=jp:=by rfl):qO X (.Tuple i k pos) (vS X.K n t):=by intro c s f H v u Q I r d;let#[a,x,l,L,w,d]:=d;subst l;cases r;let#[j,g,K,y]:=I.tuple L;show-assign_Tuple_tuple (I.ok.hd A) K (by simp[V,<-w,g.Z]) q λN p=>?_;let m:Inv X c f H {s with heap:=N}:=I.kept (t':=s.toks) λb o e=>p b o (e8 (dE e)) e;show-h c _ f H x _ Q m (by simpa using g) d
def x5(c:TE)(g:kK):fo:=λD a H=>c a H λx b=>g x a b D.cX
def an6{g:kK}(n:bq X e j)(l:qO X i g)(p:swapsWithSole [i] e pos.line X.env=pure q9:=by rfl)(r:swappedStores [i] e X.env=pure jp:=by rfl)(f:(yI [i] X.env).map (·.2)=[B6 i X.env]:=by rfl):f3 X (.Assign [i] e pos) (x5 j g):=by intro a s b H D I h;show-wpAny_Assign_stores (bL (n a s b H _ I h) λv w t=>?_) p r;let#[x,c,d,m,k]:=t;rw[f];show-bL (l a w b c x v _ d m k) λ_ A q=>q
def cE(i:Nat)(n:X.N.Nodup)(p:bq X e j)(r:X.N[i]?=j3 x:=by rfl)(f:Loc X.env.scope x:=by first|exact .inl rfl|exact .inr rfl)(t:xq e (j3 (.Name x pos')) pos.line X.env=pure q9:=by rfl)(g:X.fn x=q4\/X.env.scope.names.lookup x=j3 .local:=by first|exact .inl rfl|exact .inr rfl|assumption):
  f3 X (.Assign [.Name x pos'] e pos) (x5 j (hW i)):=by intro a s d H D I h;show-aeP (bL (p a s d H _ I h) λv A w=>?_) t;let#[y,b,c,m,l]:=w;show-DZ c n r f m (λK k=>#[_,b,k,l]) g
def an7(c:iL)(k:fo):fo:=λD a H=>∃W:Nat->St->ag->Prop,(∃m,W m a H)/\∀m a H,W m a H->
 c a H λb d=>if b=q4 then∃N:St->ag->Prop,(∀f H',N f H'->∃g,g<m/\W g f H')/\k {D with cX:=N,fI:=N,jk:=D.cX} a d else D.cX a d
def X3{d:List Stmt}(e:PassesOwn (ba X.prog X.w) X.A X.env X.dw)(z:m7 X c F)(y:gm X d tb):f3 X (.While c d [] pos) (an7 F tb):=by
 intro a s x H D I h;let#[W,#[E,q],l]:=h;show-wpAny_While (codeAny_whileLoop (λn G=>∃j H',Inv X a j H' G/\W n j H') ?_ E #[x,H,I,q]);rintro n J ⟨r,L,u,B⟩;show-Ei e (bL (z a J r L _ u (l n r L B)) λb M C=>?_);let#[V,i,m]:=C;cases b with
 |true=>
  let#[N,o,m]:=m;rw[a' rfl];show-Ei e (bL (y a M r V _ i m) λf O p=>?_);cases f with
  |next=>
   let#[k,g,t,K]:=p;let#[w,hm,A]:=o k g K;show#[w,hm,k,g,t,A]
  |cont=>
   let#[k,g,t,K]:=p;let#[w,hm,A]:=o k g K;show#[w,hm,k,g,t,A]
  |brk=>show-p
  |ret v=>show-p
 |false=>
  rw[a4 gZ];show-vI #[r,V,i,m]
structure fF where
 go:Nat->ag->Prop
 AB:Nat->ag->V->ag->Prop
 stop:Nat->ag->Prop
end
def qE(X:bA)(a:dJ)(H:ag)(b:Addr):Prop:=
 H b=jp/\b≠X.env.locals/\b∉X.fs/\(b∈X.ex\/X.fB.L<=b)/\(∀x c,X.env.cells.lookup x=j3 c->c≠b)/\∀p∈X.da++a,p.1≠b
def Inv.tN{H':ag}{s:aS}{b:Addr}(I:Inv X pins h H s)(a:s.L<=b)(f:H' b=jp):qE X pins H' b:=by
 show#[f,wb (iR I.lt a),I.adL a,.inr (dQ I.nH a),λx c e z=>?_,λp d z=>?_]
 .let#[v,q]:=I.cell x c e;show-bt (iR q.lt (by rwa[z])) (qN _)
 show-bt (iR (dE (I.pin p d).1) (by rwa[z])) (qN _)
inductive apM(X:bA)(pins:dJ)(aa:St)(H:ag)(J:fF)(bY:bS)(hD:Nat->Heap->Prop)(i:Nat)(u:Value)(s2:aS):Prop where
 |mk(x:V)(H':ag)(_:Inv X pins aa H' s2)(_:RelV x u)(_:J.AB i H x H')(_:hD (i+1) s2.Q)(_:∀b∈bY,H' b=jp)
structure Turn(P:cq)(w:bW)(K:aL)(d6:Expr)(J:fF)(bY:bS)(it:Addr)(hD:Nat->Heap->Prop):Prop where
 mem:it∈bY
 obj:∀i h,hD i h->∀b∈bY,∃o,h.get? b=j3 o/\∀v,o.data≠.cell v
 keep:∀i h h',hD i h->(∀b∈bY,∀o,h.get? b=j3 o->h'.get? b=j3 o)->hD i h'
 item:∀(X:bA),X.prog=P->X.w=w->X.K=K->X.calm=q4->∀(i:Nat)(pins:dJ)(s:aS)(aa:St)(H:ag)(E:cC),Inv X pins aa H s->(∀b∈bY,qE X pins H b)->hD i s.Q->J.go i H->
  aO (ba P w) X.A (ky (.ref it)) (λr s1=>∃u,r=j3 u/\
   aO (ba P w) X.A (Mn d6 (.ref it) u) (λ_ s2=>apM X pins aa H J bY hD i u s2) E s1) E s
 done:∀(X:bA),X.prog=P->X.w=w->X.K=K->X.calm=q4->∀(i:Nat)(pins:dJ)(s:aS)(aa:St)(H:ag)(E:cC),Inv X pins aa H s->(∀b∈bY,qE X pins H b)->hD i s.Q->J.stop i H->
  aO (ba P w) X.A (ky (.ref it)) (λr s1=>r=jp/\Inv X pins aa H s1) E s
 self:∀(A:ee)(i:Nat)(s:aS)(Q:cC)(E:cC),hD i s.Q->Q (.ref it) s->aO (ba P w) A (HM (.ref it)) Q E s
abbrev eV:=St->ag->(fF->ag->Prop)->Prop
inductive Qj(X:bA)(pins:dJ)(aa:St)(d6:Expr)(R:fF->ag->Prop)(UH:Value)(s2:aS):Prop where
 |mk(it:Addr)(bY:bS)(hD:Nat->Heap->Prop)(J:fF)(H':ag)(_:UH=.ref it)(_:Inv X pins aa H' s2)(_:Turn X.prog X.w X.K d6 J bY it hD)(_:hD 0 s2.Q)(_:∀b∈bY,qE X pins H' b)(_:R J H')
def m6(X:bA)(c iter:Expr)(f:eV):Prop:=
 ∀(a:dJ)(s:aS)(b:St)(H:ag)(R:fF->ag->Prop),Inv X a b H s->f b H R->
  aO (ba X.prog X.w) X.A (eval iter X.env) (λv d=>aO (ba X.prog X.w) X.A (HM v) (Qj X a b c R) X.dw d) X.dw s
def AX{M:m5}{E:cC}{s:aS}{o:Obj}{Q:Unit->aS->Prop}(aW:s.heap.get? it=j3 o)(b:o.cls=.type n)(c:o.data=.fields i)(d:["enumerate","zip","dict_itemiterator","dict_reverseitemiterator","odict_iterator","itertools.zip_longest","itertools.pairwise"].contains n=q9)(a:Q () s):aO M A (Mn e (.ref it) u) Q E s:=by
  unfold Mn;cases e<;>first
    |show-bk a
    | (cases u<;>first
        |show-bk a
        | (show-ax (wpAny_load aW ?_)
           rw[b,c];show aO M A (if(["enumerate","zip","dict_itemiterator","dict_reverseitemiterator","odict_iterator","itertools.zip_longest","itertools.pairwise"].contains n&&i[0]?==j3 (mU _))=q4 then _ else _) Q E s;rw[a4 (by intro h;rw[d,EM]at h;cases h)];show-bk a))
def kE(K:aL)(a:Addr):fF:=
 #[λi H=>∃b x,aI K H a b/\b[i]?=j3 x,λi H x H'=>H'=H/\∀b,aI K H a b->b[i]?=j3 x,λi H=>∃b,aI K H a b/\b.Z<=i]
def xY(K:aL)(a:Addr):fF:=
 #[λi H=>∃b x,cj K H a b/\b[i]?=j3 x,λi H x H'=>H'=H/\∀b,cj K H a b->b[i]?=j3 x,λi H=>∃b,cj K H a b/\b.Z<=i]
def xX(lo:Int)(n:Nat):fF:=#[λi _=>i<n,λi H x H'=>H'=H/\x=.int (lo+i),λi _=>n<=i]
def ajH{K:aL}(a l:Addr):Turn P w K d6 (kE K a) [l] l (λi h=>h.IsListIter l a i)where
 mem:=by simp
 obj:=λi h st b g=>by
  let e:b=l:=by simpa using g
  subst e;let#[o,e,c,d]:=st;show#[o,e,λv z=>by rw[d]at z;cases z]
 keep:=λi h r st k=>st.at λo e=>k l xg o e
 item:=by intro X B D C J i f s G H E I m st A;subst B D C;let#[xs,x,n,t]:=A;let#[F,L,p,Z]:=I.list n;let#[u,R,en]:=L.get t;let#[V,j,Y,N,q,y]:=m l xg;show-wpAny_pyNext_list_item st p.isList (x:=u) (by simpa using R) λr M Q=>?_;let O:Inv X f G H {s with heap:=r}:=I.turned (t':=s.toks) (λb o g e=>(Q.2 b g).trans e) V j N q y;let#[o,e,c,d]:=id M;show#[u,2,AX (s:={s with heap:=r}) e c d x8 #[x,H,O,en,#[2,λys T=>by rwa[I.Mo T n]],M,λb g=>(m b g).1]]
 done:=by intro X B D C J i f s G H E I m st A;subst B D C;let#[xs,n,t]:=A;let#[F,L,p,Z]:=I.list n;let#[V,j,Y,N,q,y]:=m l xg;let au:=L.Z;exact wpAny_pyNext_list_end (I.ok.hd J) st p.isList (by simp;lia) λr U=>#[2,I.turned (t':=s.toks) (λb o g e=>U b o g e) V j N q y]
 self:=λ_ _ _ _ _ st h=>wpAny_pyIter_listiter st h
def agZ{K:aL}(a l:Addr):Turn P w K d6 (xY K a) [l] l (λi h=>h.IsTupleIter l a i)where
 mem:=by simp
 obj:=λi h st b g=>by
  let e:b=l:=by simpa using g
  subst e;let#[o,e,c,d]:=st;show#[o,e,λv z=>by rw[d]at z;cases z]
 keep:=λi h t st k=>st.at λo e=>k l xg o e
 item:=by intro X C F D J i f s G H E I n st L;subst C F D;let#[xs,x,r,A]:=L;let#[m,N,p,Z]:=I.tuple r;let#[u,R,en]:=N.get A;let#[j,q,Y,V,y,B]:=n l xg;show-wpAny_pyNext_tuple_item st (show s.heap.IsTuple a m.toArray from p) (x:=u) (by simpa using R) λt M Q=>?_;let O:Inv X f G H {s with heap:=t}:=I.turned (t':=s.toks) (λb o g e=>(Q.2 b g).trans e) j q V y B;let#[o,e,c,d]:=id M;show#[u,2,AX (s:={s with heap:=t}) e c d x8 #[x,H,O,en,#[2,λys T=>by rwa[I.aeB T r]],M,λb g=>(n b g).1]]
 done:=by intro X C F D J i f s G H E I n st L;subst C F D;let#[xs,r,A]:=L;let#[m,N,p,Z]:=I.tuple r;let#[j,q,Y,V,y,B]:=n l xg;let au:=N.Z;exact wpAny_pyNext_tuple_end (I.ok.hd J) st (show s.heap.IsTuple a m.toArray from p) (by simp;lia) λt U=>#[2,I.turned (t':=s.toks) (λb o g e=>U b o g e) j q V y B]
 self:=λ_ _ _ _ _ st h=>wpAny_pyIter_tupleiter st h
def ag0{K:aL}(a:Addr)(lo:Int)(n:Nat):Turn P w K M (xX lo n) [a] a (λi h=>IsRangeIter h a (lo+(i:Nat)*1) ((n:Int)-(i:Nat)) 1)where
 mem:=by simp
 obj:=λi h st b d=>by
  let e:b=a:=by simpa using d
  subst e;show#[_,st,λv z=>by
   let G:O7 _=ER v:=z;cases G]
 keep:=λi h g st k=>k a xg _ st
 item:=by intro X V q j l i c s x H E I f st m;subst V q j;let#[r,A,J,p,L,N]:=f a xg;let W:=Walks.range (prog:=X.prog) (w:=X.w) (I.ok.hd l) a lo 1 n;show-W.item i s _ _ m st λv g u C y D=>?_;let#[t,2]:=C;let B:Inv X c x H {s with heap:=g,toks:=u}:=I.turned (λb o d e=>D b o (by simpa using d) e) r A p L N;show#[1,AX (s:={s with heap:=g,toks:=u}) (n:="range_iterator") y rfl rfl x8 #[.int (lo+i),H,B,#[t,4],#[2,2],y,λb d=>(f b d).1]];rw[ZI]
 done:=by intro X V q j l i c s x H E I f st m;subst V q j;let#[r,A,J,p,L,N]:=f a xg;exact wpAny_pyNext_range_end (I.ok.hd l) st (by have:n<=i:=m;lia) λg F=>#[2,I.turned (t':=s.toks) (λb o d e=>F b o d e) r A p L N]
 self:=λ_ _ _ _ _ st h=>wpAny_pyIter_rangeiter st h
section
variable{X:bA}{d6:Expr}
inductive arA(K:aL)(x:V)(H1:ag)(R:fF->ag->Prop):Prop where
 |mk(a:_)(_:x=.ref a)(_:(∃xs,aI K H1 a xs))(_:R (kE K a) H1)
def apN(K:aL)(c:TE):eV:=λb H R=>c b H λx a=>arA K x a R
def arB(K:aL)(d:TE):eV:=λc H R=>d c H λx b=>∃a,x=.ref a/\(∃f,cj K b a f)/\R (xY K a) b
def h7(r:bq X l i):m6 X d6 l (apN X.K i):=by
 intro c s m H R I h;show-bL (r c s m H _ I h) λv f g=>?_;let#[x,k,d,A,t]:=g;let#[a,e,#[N,w],q]:=t;subst e;cases A;let#[K,L,p,g]:=d.list w;show-Ej p.isList ?_;show#[f.L,[f.L],6,k,2,d.kept (t':=f.toks) λb o e=>dO _ e,ajH a _,#[_,gJ _ rfl,2,2],λb n=>?_,q];let e:b=f.L:=by simpa using n
 subst e;show-d.tN (b7 _) (d.bu.fresh (b7 _))
def IV(t:bq X l i):m6 X d6 l (arB X.K i):=by
 intro c s n H R I h;show-bL (t c s n H _ I h) λv d k=>?_;let#[x,m,f,K,w]:=k;let#[a,e,#[N,A],q]:=w;subst e;cases K;let#[g,L,p,k]:=f.tuple A;show-wpAny_pyIter_tuple (show d.heap.IsTuple a g.toArray from p) ?_;show#[d.L,[d.L],6,m,2,f.kept (t':=d.toks) λb o e=>dO _ e,agZ a _,#[_,gJ _ rfl,2,2],λb r=>?_,q];let e:b=d.L:=by simpa using r
 subst e;show-f.tN (b7 _) (f.bu.fresh (b7 _))
def ajY{s:aS}{R:fF->ag->Prop}{E:cC}{lo a:Int}{t:Tok}{c:Nat}(I:Inv X pins h H s)(m:-(2 ^ 62)<=lo)(n:lo<2 ^ 62)(f:-(2 ^ 62)<=a)(p:a<2 ^ 62)(q:R (xX lo (a-lo).toNat) H):aO (ba X.prog X.w) X.A (HM (.ref s.L)) (Qj X pins h d6 R) E {s with heap:=s.heap.push {cls:=.type "range",data:=.fields (List.toArray [.int lo t,.int a u,.int 1 v])},toks:=c}:=by
 show-wpAny_pyIter_range (IsRange.new ..) (small_one m n f p) ?_;let d:Inv X pins h H {s with heap:=s.heap.push {cls:=.type "range",data:=.fields (List.toArray [.int lo t,.int a u,.int 1 v])},toks:=c}:=I.kept λb o e=>dO _ e;show#[(s.heap.push {cls:=.type "range",data:=.fields (List.toArray [.int lo t,.int a u,.int 1 v])}).objs.size,[(s.heap.push {cls:=.type "range",data:=.fields (List.toArray [.int lo t,.int a u,.int 1 v])}).objs.size],6,H,2,
  d.kept (t':=c) λb o e=>dO _ e,ag0 _ lo (a-lo).toNat,4,λb l=>?_,q]
 .let k:lo+((0:Nat):Int)*1=lo:=by simp
  let g:(((a-lo).toNat:Nat):Int)-((0:Nat):Int)=azu lo a 1:=by rw[rangeSize_one];split<;>lia
  show IsRangeIter _ _ (lo+((0:Nat):Int)*1) ((((a-lo).toNat:Nat):Int)-((0:Nat):Int)) 1;rw[k,g];exact gJ _ rfl
 let e:b=(s.heap.push {cls:=.type "range",data:=.fields (List.toArray [.int lo t,.int a u,.int 1 v])}).objs.size:=by simpa using l
 subst e;show-d.tN (b7 _) (d.bu.fresh (b7 _))
def aad(c:gb):eV:=λb H R=>c b H λd a=>∃j:Int,d=[.int j]/\-(2 ^ 62)<=j/\j<2 ^ 62/\R (xX 0 j.X) a
def DD{d:gb}{p:Pos}(l:jd X "range")(hm:X.mg "range"=jp)(f:fN X [a] d)(w:dM [a] X.env=[(q9,eval a X.env)]:=by rfl):m6 X d6 (.Call (.Name "range" p) [a] [] pos) (aad d):=by
 intro b s k H R I h;show-Call_ (Ab I l hm boot_range (Qm (bL (f pos b s k H _ I h) λN L A=>?_) w rfl));let#[V,K,g,n,c]:=A;let#[j,e,c,m,q]:=c;subst e;cases n with
 |cons r i=>
  cases i;let#[t,2]:=r;show-call_range_1 (ajY g qI qI c m (by simpa using q))
def xC(J:fF)(g:kK)(l:fo)(D:Ends)(a:St)(d:ag):Prop:=∃W:Nat->Nat->St->ag->Prop,(∃m,W 0 m a d)/\∀i m a H,W i m a H->
 (J.stop i H/\D.cX a H)\/(J.go i H/\∃N:St->ag->Prop,(∀b H',N b H'->∃c,c<m/\W (i+1) c b H')/\∀x H',J.AB i H x H'->g x a H' λk f=>l {D with cX:=N,fI:=N,jk:=D.cX} k f)
def arC(d:eV)(g:kK)(c:fo):fo:=λD a H=>d a H λJ b=>xC J g c D a b
def IW(a:bS)(h:Heap):List (Addr×Obj):=a.filterMap λb=>(h.get? b).map λo=>(b,o)
def M5{a:bS}{h:Heap}{b:Addr}(c:b∈a)(e:h.get? b=j3 o):(b,o)∈IW a h:=(JJ.mpr #[b,c,by rw[e];rfl])
def ajI{a:bS}{h:Heap}{p:Addr×Obj}(d:p∈IW a h):p.1∈a/\h.get? p.1=j3 p.2:=by
 let#[b,c,e]:=JJ.mp d;cases q:h.get? b with
 |none=>rw[q]at e;cases e
 |some o=>
  rw[q]at e;let f:(b,o)=p:=gk e;subst f;show#[c,q]
theorem Inv.pinned{a:dJ}{s:aS}{c:bS}(I:Inv X a h H s)(l:∀b∈c,qE X a H b)(aW:∀b∈c,∃o,s.heap.get? b=j3 o/\∀v,o.data≠.cell v):Inv X (a++IW c s.Q) h H s:=
 I.ad3 λp k=>(gU.mp k).elim (λz=>I.pin p (rQ _ z)) λz=>by let#[f,e]:=ajI z;let#[m,n,r,_]:=l p.1 f;let#[o,g,d]:=aW p.1 f;rw[e]at g;cases g;show#[e,m,n,r,d]
def Inv.NZ{a pl:dJ}(I:Inv X (a++pl) e H s):Inv X a e H s:=(I.ad3 λp b=>I.pin p (rQ _ (P1 _ b)))
def kq{t:List Stmt}{g:kK}(L:PassesOwn (ba X.prog X.w) X.A X.env X.dw)(Q:X.calm=q4)(hi:m6 X d6 iter wi)(bz:qO X d6 g)(c:gm X t tb)(hs:∀x,Cn iter X.env x=pure x:=by intro _;rfl):f3 X (.For d6 iter t [] pos) (arC wi g tb):=by
 intro a s P H D I h;show-wpAny_For (bL (hi a s P H _ I h) λv s1 ai=>bL ai λUH s2 ak=>?_) hs;let#[it,V,hD,J,ah,e,bI,T,xp,Z,W,#[m0,Aq],y]:=ak;subst e;let O:∀{H':ag},(∀b∈V,H' b=jp)->∀b∈V,qE X a H' b:=λhn b c=>#[hn b c,(Z b c).2]
 show-codeAny_forLoop_any (λn s'=>∃i j H',Inv X a j H' s'/\hD i s'.Q/\(∀b∈V,H' b=jp)/\W i n j H') ?_ m0 #[0,P,ah,bI,xp,λb c=>(Z b c).1,Aq];rintro n s3 ⟨i,q,B,Y,vB,K,k7⟩;rcases y i n q B k7 with⟨stop,sY⟩|⟨go,N,ec,step⟩
 .refine Ei L (bL (T.done X rfl rfl rfl Q i a s3 q B X.dw Y (O K) vB stop) λr b3 A=>?_);let#[E,k']:=A;subst E;show-vI #[q,B,k',sY]
 show-Ei L (bL (T.item X rfl rfl rfl Q i a s3 q B X.dw Y (O K) vB go) λr b3 A=>?_);let#[u,E,b8]:=A;subst E;show-Ei L (bL b8 λ_ U A=>?_);let#[x,R,iP,HU,XO,M,SU]:=A;let PA:=iP.pinned (O SU) (T.obj _ _ M);show-Ei L (bL (bz _ U q R x u _ PA HU (step x R XO)) λ_ fM A=>?_);let#[IY,je,rK,VU]:=A;show-Ei L (bL (c _ fM IY je _ rK VU) λf G w=>?_);let again:∀{p:St}{k:ag},Inv X (a++IW V U.Q) p k G->N p k->∃m,m<n/\∃i j H',Inv X a j H' G/\hD i G.Q/\(∀b∈V,H' b=jp)/\W i m j H':=λ{p k}l z=>by let#[d9,hm,Xe]:=ec p k z;show#[d9,hm,i+1,p,k,l.NZ,T.keep _ _ _ M λb c o e=>(l.pin (b,o) (rQ _ (rQ _ (M5 c e)))).1,λb c=>?_,Xe];let#[o,e,d]:=T.obj _ _ M b c;exact(l.pin (b,o) (rQ _ (rQ _ (M5 c e)))).2.1
 cases f with
 |next=>let#[p,k,l,z]:=w;show-again l z
 |cont=>let#[p,k,l,z]:=w;show-again l z
 |brk=>let#[p,k,l,w]:=w;show#[p,k,l.NZ,w]
 |ret v=>let#[F,p,k,l,C,w]:=w;show#[F,p,k,l.NZ,C,w]
def q6{K:aL}{xs:aV}{g:kK}{f:fo}{D:Ends}(c:Nat->St->ag->Prop)(n:c 0 b H)(l:∀i b H,i<=xs.Z->c i b H->aI K H a xs)(A:∀i x b H,xs[i]?=j3 x->c i b H->g x b H λL k=>f {D with cX:=c (i+1),fI:=c (i+1),jk:=D.cX} L k)(t:∀b H,c xs.length b H->D.cX b H):
  xC (kE K a) g f D b H:=by
 show#[λi m b H=>m=xs.Z-i/\i<=xs.Z/\c i b H,#[xs.Z,by simp,eu _,n],4];rintro i m b H ⟨rfl,w,p⟩;let q:=l i b H w p;by_cases d:i<xs.Z
 .refine .inr #[#[xs,xs[i],q,by simp[d]],c (i+1),λN H' r=>#[xs.Z-(i+1),9,2,d,r],λx H' y=>?_];let#[e,y]:=y;subst e;show-A i x b _ (y xs q) p
 let e:i=xs.Z:=by lia
 subst e;show-.inl #[#[xs,q,b7 _],t b H p]
def Χ{K:aL}{xs:aV}{g:kK}{f:fo}{D:Ends}(c:Nat->St->ag->Prop)(n:c 0 b H)(l:∀i b H,i<=xs.Z->c i b H->cj K H a xs)(A:∀i x b H,xs[i]?=j3 x->c i b H->g x b H λL k=>f {D with cX:=c (i+1),fI:=c (i+1),jk:=D.cX} L k)(t:∀b H,c xs.length b H->D.cX b H):
  xC (xY K a) g f D b H:=by
 show#[λi m b H=>m=xs.Z-i/\i<=xs.Z/\c i b H,#[xs.Z,by simp,eu _,n],4];rintro i m b H ⟨rfl,w,p⟩;let q:=l i b H w p;by_cases d:i<xs.Z
 .refine .inr #[#[xs,xs[i],q,by simp[d]],c (i+1),λN H' r=>#[xs.Z-(i+1),9,2,d,r],λx H' y=>?_];let#[e,y]:=y;subst e;show-A i x b _ (y xs q) p
 let e:i=xs.Z:=by lia
 subst e;show-.inl #[#[xs,q,b7 _],t b H p]
def Xd{lo:Int}{n:Nat}{g:kK}{d:fo}{D:Ends}(b:Nat->St->ag->Prop)(k:b 0 a H)(t:∀i a H,i<n->b i a H->g (.int (lo+i)) a H λw f=>d {D with cX:=b (i+1),fI:=b (i+1),jk:=D.cX} w f)(r:∀a H,b n a H->D.cX a H):
  xC (xX lo n) g d D a H:=by
 show#[λi m a H=>m=n-i/\i<=n/\b i a H,#[n,by simp,eu _,k],4];rintro i m a H ⟨rfl,K,p⟩;by_cases c:i<n
 .refine .inr #[c,b (i+1),λA H' l=>#[n-(i+1),9,2,c,l],λx H' y=>?_];let#[e,y]:=y;subst e y;show-t i a _ c p
 let e:i=n:=by lia
 subst e;show-.inl #[b7 _,r a H p]
abbrev n5:=V->V->ag->aX->Prop
end
def g5(X:bA)(f:Value->Value->Sem Value)(r:n5):Prop:=
 ∀(a:dJ)(s:aS)(b:St)(H:ag)(x y:V)(v u:Value)(Q:aX),Inv X a b H s->RelV x v->RelV y u->r x y H Q->
  aO (ba X.prog X.w) X.A (f v u) (ir X a b Q) X.dw s
def QK(X:bA)(f:Value->Sem Value)(r:V->ag->aX->Prop):Prop:=
 ∀(a:dJ)(s:aS)(b:St)(H:ag)(x:V)(v:Value)(Q:aX),Inv X a b H s->RelV x v->r x H Q->
  aO (ba X.prog X.w) X.A (f v) (ir X a b Q) X.dw s
def ks(X:bA)(f:Value)(r:List V->ag->aX->Prop):Prop:=
 ∀(a:dJ)(s:aS)(b:St)(H:ag)(d:aV)(c:dR)(Q:aX),Inv X a b H s->cI d c->r d H Q->
  aO (ba X.prog X.w) X.A (call f c) (ir X a b Q) X.dw s
def arD(X:bA)(r:V->ag->(Bool->ag->Prop)->Prop):Prop:=
 ∀(a:dJ)(s:aS)(b:St)(H:ag)(x:V)(v:Value)(Q:Bool->ag->Prop),Inv X a b H s->RelV x v->r x H Q->
  aO (ba X.prog X.w) X.A (truthy v) (Kl X a b Q) X.dw s
def Ie(r:n5)(d f:TE):TE:=λa H Q=>d a H λx b=>f a b λy c=>r x y c Q
def ayg(r:V->ag->aX->Prop)(c:TE):TE:=λb H Q=>c b H λx a=>r x a Q
inductive HX(C:Int->Int->Prop)(g:Int->Int->V)(x:aq.V)(y:aq.V)(H:ag)(Q:aX):Prop where
 |mk(i:_)(j:_)(_:x=.int i)(_:y=.int j)(_:C i j)(_:Q (g i j) H)
inductive zT(g:Int->Int->V)(x:aq.V)(y:aq.V)(H:ag)(Q:aX):Prop where
 |mk(i:_)(j:_)(_:x=.int i)(_:y=.int j)(_:Q (g i j) H)
inductive ad9(g:Int->V)(x:V)(H:ag)(Q:aX):Prop where
 |mk(i:_)(_:x=.int i)(_:Q (g i) H)
section
variable{X:bA}{a b c:Expr}{ck tb nI:TE}{pos:Pos}
def Rg(m:bq X a ck)(p:bq X b tb){R:V->V->ag->Prop}(I:Inv X pins e H s)(h:ck e H λx k=>tb e k λy d=>R x y d){Q:cC}{f:Value->Value->Sem Value}(r:∀v u g x y d,Inv X pins e d g->RelV x v->RelV y u->R x y d->aO (ba X.prog X.w) X.A (f v u) Q X.dw g):
  aO (ba X.prog X.w) X.A (eval a X.env) (λv N=>aO (ba X.prog X.w) X.A (eval b X.env) (λu j=>aO (ba X.prog X.w) X.A (f v u) Q X.dw j) X.dw N) X.dw s:=by show-bL (m pins s e H _ I h) λv i l=>?_;let#[x,k,n,K,w]:=l;show-bL (p pins i e k _ n w) λu g l=>?_;let#[y,d,t,L,A]:=l;show-r v u g x y d t K L A
def br{f:Operator}{r:n5}(aW:g5 X (r4 f) r)(g:bq X a ck)(l:bq X b tb):bq X (.BinOp a f b pos) (Ie r ck tb):=by intro d s k H Q I h;show-wpAny_BinOp (Rg g l I h λv u w x y m n p t q=>aW d w k m x y v u Q n p t q)
def AK{g:UnaryOp}{r:V->ag->aX->Prop}(aW:QK X (unaryOp g) r)(l:bq X a ck):bq X (.UnaryOp g a pos) (ayg r ck):=by intro d s f H Q I h;show-UnaryOp_ (bL (l d s f H _ I h) λv w t=>?_);let#[x,k,m,p,n]:=t;show-aW d w f k x v Q m p n
def MS{f:Value->Value->Sem Value}{C:Int->Int->Prop}{g:Int->Int->Int}(rule:∀(i j:Int)(t u:Tok)(s:aS)(Q:cC)(E:cC),C i j->Q (.int (g i j) s.toks) {s with toks:=s.toks+1}->aO (ba X.prog X.w) X.A (f (.int i t) (.int j u)) Q E s):
  g5 X f (HX C λi j=>.int (g i j)):=by intro d s p H x y v u Q I l m h;let#[i,j,2,2,k,q]:=h;let#[t,2]:=l;let#[n,2]:=m;show-rule i j t n s _ _ k #[.int (g i j),H,I.tok _,#[1],q]
def aaH{f:Value->Value->Sem Value}{g:Int->Int->Int}(rule:∀(i j:Int)(t u:Tok)(s:aS)(Q:cC)(E:cC),Q (.int (g i j) s.toks) {s with toks:=s.toks+1}->aO (ba X.prog X.w) X.A (f (.int i t) (.int j u)) Q E s):
  g5 X f (zT λi j=>.int (g i j)):=by intro d s n H x y v u Q I k l h;let#[i,j,2,2,q]:=h;let#[t,2]:=k;let#[m,2]:=l;show-rule i j t m s _ _ #[.int (g i j),H,I.tok _,#[1],q]
def Rh{f:Value->Value->Sem Value}{g:Int->Int->Bool}(rule:∀(i j:Int)(t u:Tok)(s:aS)(Q:cC)(E:cC),Q (.bool (g i j)) s->aO (ba X.prog X.w) X.A (f (.int i t) (.int j u)) Q E s):
  g5 X f (zT λi j=>.bo (g i j)):=by intro d s n H x y v u Q I k l h;let#[i,j,2,2,q]:=h;let#[t,2]:=k;let#[m,2]:=l;show-rule i j t m s _ _ #[.bo (g i j),H,I,2,q]
def arE(i j:Int):Prop:=0<j/\j<1073741824
def arF(i j:Int):Prop:=0<=j/\j<=1000000/\i.natAbs<2 ^ 64
def Ri(i j:Int):Prop:=(-(2 ^ 64)<i/\i<2 ^ 64)\/(-(2 ^ 64)<j/\j<2 ^ 64)
def Ri.ok{i j:Int}(h:Ri i j):IntMulOk i j:=by
 rcases h with⟨d,f⟩|⟨d,f⟩
 .exact .of_left (intBits_le_64 d f)
 show-.of_right (intBits_le_64 d f)
def h9:g5 X (r4 .Add) (zT λi j=>.int (i+j)):=(aaH λ_ _ _ _ _ _ _ q=>add_int q)
def Ae:g5 X (r4 .Sub) (zT λi j=>.int (i-j)):=(aaH λ_ _ _ _ _ _ _ q=>sub_int q)
def vx:g5 X (r4 .Mult) (HX Ri λi j=>.int (i*j)):=(MS λ_ _ _ _ _ _ _ d q=>mul_int q d.ok)
def nk:g5 X (r4 .FloorDiv) (HX arE λi j=>.int (i/j)):=(MS λi j _ _ _ _ _ d q=>by let f:(0:Int)<j:=d.1;let g:j<1073741824:=d.2;show-floordiv_int qI (by rwa[Int.fdiv_eq_ediv_of_nonneg i qI]) (.inl (PyProof.noPylong_small qI)))
def ha:g5 X (r4 .Mod) (HX (λ_ j=>0<j) λi j=>.int (i%j)):=(MS λi j _ _ _ _ _ d q=>by let f:(0:Int)<j:=d;show-mod_int' qI (by rwa[Int.fmod_eq_emod_of_nonneg i qI]))
def ğ:g5 X (r4 .Pow) (HX arF λi j=>.int (i ^ j.X)):=(MS λ_ _ _ _ _ _ _ d q=>pow_int_small d.1 d.2.1 d.2.2 q)
def ayz{f:Value->Sem Value}{g:Int->Int}(rule:∀(i:Int)(t:Tok)(s:aS)(Q:cC)(E:cC),Q (.int (g i) s.toks) {s with toks:=s.toks+1}->aO (ba X.prog X.w) X.A (f (.int i t)) Q E s):
  QK X f (ad9 λi=>.int (g i)):=by intro d s l H x v Q I k h;let#[i,2,q]:=h;let#[t,2]:=k;show-rule i t s _ _ #[.int (g i),H,I.tok _,#[1],q]
def Aa:QK X (unaryOp .USub) (ad9 λi=>.int (-i)):=(ayz λ_ _ _ _ _ q=>neg_int q)
def Kq:V->V->Bool
 |.int _,.int _=>q4
 |.str _,.str _=>q4
 |_,_=>q9
def axw:n5:=λx y H Q=>Kq x y=q4/\Q (.bo (decide (x=y))) H
def axx:n5:=λx y H Q=>Kq x y=q4/\Q (.bo (!decide (x=y))) H
def Oj{i j:Int}:decide (V.int i=V.int j)=(i==j):=by rw[Yk];simp
def Ψ{j:Str}:decide (V.str i=V.str j)=(i==j):=by rw[Yk];simp
def xm{Q:aX}{k d:Bool}(I:Inv X pins h H s)(q:Q (.bo k) H)(e:k=d):ir X pins h Q (.bool d) s:=by subst e;show#[.bo k,H,I,2,q]
def nB:g5 X (jl .Eq) axw:=by
 intro k s m H x y v u Q I f g h;let#[d,q]:=h;unfold Kq at d;split at d
 .let#[t,2]:=f;let#[l,2]:=g;show-eq_int (xm I q Oj)
 .let#[t,2]:=f;let#[l,2]:=g;show-eq_str (xm I q Ψ)
 cases d
def AF:g5 X (jl .NotEq) axx:=by
 intro k s m H x y v u Q I f g h;let#[d,q]:=h;unfold Kq at d;split at d
 .let#[t,2]:=f;let#[l,2]:=g;show-ne_int (xm I q (fe not Oj))
 .let#[t,2]:=f;let#[l,2]:=g;show-ne_str (xm I q (fe not Ψ))
 cases d
def xD:g5 X (jl .Lt) (zT λi j=>.bo (decide (i<j))):=(Rh λ_ _ _ _ _ _ _ q=>lt_int q)
def qu:g5 X (jl .LtE) (zT λi j=>.bo (decide (i<=j))):=(Rh λ_ _ _ _ _ _ _ q=>le_int q)
def AY:g5 X (jl .Gt) (zT λi j=>.bo (decide (j<i))):=(Rh λ_ _ _ _ _ _ _ q=>gt_int q)
def vy:g5 X (jl .Is) (λx y H Q=>y=.cf/\Q (.bo (decide (x=.cf))) H):=by
 intro f s k H x y v u Q I d g h;let#[2,q]:=h;cases g;show-is_none_gen (xm I q ?_);cases x<;>first
  | (cases d;rfl)
  | (let#[t,2]:=d;rfl)
def Ol:g5 X (jl .IsNot) (λx y H Q=>y=.cf/\Q (.bo (!decide (x=.cf))) H):=by
 intro f s k H x y v u Q I d g h;let#[2,q]:=h;cases g;show-isnot_none_gen (xm I q ?_);cases x<;>first
  | (cases d;rfl)
  | (let#[t,2]:=d;rfl)
def eK(b:Expr){d:CmpOp}(h:d≠.In:=by decide)(k:d≠.NotIn:=by decide):yM d b=q9:=by
 let g:(d==CmpOp.In)=q9:=by cases d<;>first|rfl|exact bt rfl h
 let f:(d==CmpOp.NotIn)=q9:=by cases d<;>first|rfl|exact bt rfl k
 cases b<;>simp[yM,g,f]
def l7{f:CmpOp}{r:n5}(aW:g5 X (jl f) r)(g:bq X a ck)(l:bq X b tb)(hm:yM f b=q9):bq X (.Compare a [f] [b] pos) (Ie r ck tb):=by intro d s k H Q I h;show-ayI (Rg g l I h λv u w x y m n p t q=>aW d w k m x y v u Q n p t q) hm
def Qt(t:TE):iL:=λd H Q=>t d H λx H'=>ZS x H' Q
def fQ{g:CmpOp}{r:n5}(aW:g5 X (jl g) r)(n:bq X a ck)(t:bq X b tb)(hm:yM g b=q9):m7 X (.Compare a [g] [b] pos) (Qt (Ie r ck tb)):=by
 intro d s f H Q I h;show-ayO (bL (n d s f H _ I h) λv o⟨x,l,p,V,K⟩=>bL (t d o f l _ p K) λu q⟨y,w,A,i,L⟩=>
  bL (aW d q f w x y v u _ A V i L) λc C⟨z,m,N,B,k,e,j⟩=>?_) hm
 subst e;cases B;show-tf #[m,N,j]
def ĩ(r m:n5)(ck tb nI:TE):TE:=λd H Q=>ck d H λx g=>tb d g λy l=>r x y l λz f=>∃k,z=.bo k/\
 (if k=q4 then nI d f λp n=>m y p n Q else Q (.bo q9) f)
def N2{l m:CmpOp}{r t:n5}(aW:g5 X (jl l) r)(O:g5 X (jl m) t)(N:bq X a ck)(i:bq X b tb)(o:bq X c nI)(hm:lastMarks [l,m] [b,c]=q9:=by with_unfolding_all rfl):bq X (.Compare a [l,m] [b,c] pos) (ĩ r t ck tb nI):=by
 intro f s g H Q I h;show-Compare_chain (bL (N f s g H _ I h) λv P⟨x,K,V,E,C⟩=>chain_link (bL (i f P g K _ V C) λu R⟨y,j,B,w,D⟩=>
  bL (aW f R g j x y v u _ B E w D) λd T⟨z,n,p,U,k,e,A⟩=>?_)) hm
 subst e;cases U;show-tf ?_;cases k with
 |false=>show-ite_ff #[.bo q9,n,p,2,A]
 |true=>show-ite_tt (chain_last (bL (o f T g n _ p A) λJ q⟨G,F,M,Y,L⟩=>O f q g F y G u J Q M w Y L))
def DQ{m n:CmpOp}{r w:n5}(aW:g5 X (jl m) r)(lC:g5 X (jl n) w)(j:bq X a ck)(B:bq X b tb)(D:bq X c nI)(hm:lastMarks [m,n] [b,c]=q9:=by with_unfolding_all rfl):m7 X (.Compare a [m,n] [b,c] pos) (Qt (ĩ r w ck tb nI)):=by
 intro f s g H Q I h;show-isTrue_chain (bL (j f s g H _ I h) λv s1⟨x,L,q,P,M⟩=>test_link (bL (B f s1 g L _ q M) λu s2⟨y,C,G,A,O⟩=>
  bL (aW f s2 g C x y v u _ G P A O) λd s3⟨z,p,t,xk,k,e,K⟩=>?_)) hm
 subst e;cases xk;show-tf ?_;cases k with
 |false=>
  let#[g6,J,Y]:=K;cases J;show-ite_ff #[p,t,Y]
 |true=>
  show-ite_tt (test_last (bL (D f s3 g p _ t K) λU E l=>?_));let#[T,R,k',zR,N]:=l;show-bL (lC f E g R y T u U _ k' A zR N) λd' c5 l=>?_;let#[aJ,F,Z,V,k2,o,i]:=l;subst o;cases V;show-tf #[F,Z,i]
def aaz(K:aL)(x:V)(H:ag)(k:Bool):Prop:=
 match x with
 |.cf=>k=q9
 |.bo b=>k=b
 |.int i=>k=(i !=0)
 |.str y=>y.Z<=sizeLine/\k=((y.Z:Int) !=0)
 |.B8 y=>y.size<=sizeLine/\k=((y.size:Int) !=0)
 |.ref p=>(∃f,aI K H p f/\k=!f.isEmpty)\/(∃f,cj K H p f/\k=!f.isEmpty)\/∃d,H p=j3 (.cZ d)/\k=!d.isEmpty
 |_=>False
def agH{g:Type}{d:List (g×V)}{f:List (g×Value)}(r:hG d f):(!f.isEmpty)=!d.isEmpty:=by cases r<;>rfl
def afj{f:aV}{d:dR}(r:cI f d):(!d.toArray.isEmpty)=!f.isEmpty:=by cases r<;>simp
def Eh:(sizeLine:Nat)<2 ^ 63:=by rw[vA];decide
def an8:arD X (λx H Q=>∃k,aaz X.K x H k/\Q k H):=by
 intro N s o H x v Q I n h;let#[k,e,q]:=h;let u:=Eh;let z:sizeLine=16777216:=vA;cases x with
 |cf=>
  cases n;let d:k=q9:=e;subst d;show-truthy_none #[H,I,q]
 |bo b=>
  cases n;let d:k=b:=e;subst d;show-tf #[H,I,q]
 |int i=>
  let#[t,2]:=n;let d:k=(i !=0):=e;subst d;show-PySem.P.truthy_int #[H,I,q]
 |str y=>
  let#[t,2]:=n;obtain⟨V,d⟩:y.Z<=sizeLine/\k=((y.Z:Int) !=0):=e;subst d;show-PySem.P.truthy_str qI #[H,I.tok _,q]
 |B8 y=>
  let#[t,2]:=n;obtain⟨V,d⟩:y.size<=sizeLine/\k=((y.size:Int) !=0):=e;subst d;show-PySem.W.truthy_bytes qI #[H,I.tok _,q]
 |ref p=>
  cases n;let d:(∃l,aI X.K H p l/\k=!l.isEmpty)\/(∃l,cj X.K H p l/\k=!l.isEmpty)\/∃f,H p=j3 (.cZ f)/\k=!f.isEmpty:=e;rcases d with⟨l,w,d⟩|⟨l,w,d⟩|⟨f,w,d⟩
  .subst d;let#[K,r,pl,L]:=I.list w;let g:=r.Z;show-wpAny_truthy_list pl.isList (by simp only[f'];lia) #[H,I.tok _,by rwa[afj r]]
  .subst d;let#[K,r,pl,L]:=I.tuple w;let g:=r.Z;show-truthy_tuple pl (by simp only[f'];lia) #[H,I.tok _,by rwa[afj r]]
  subst d;obtain⟨L,j,A,r,m⟩:f.Z<=sizeLine/\(p==kY)=q9/\∃A,hG f A/\s.heap.DictOf (iY X.prog X.w) p A:=I.bu p _ w;let g:f.Z=A.Z:=lU r;show-wpAny_truthy_dict j m qI #[H,I.tok _,by rwa[agH r]]
 |_=>exact(show False from e).elim
def akt(m:bq X a ck)(t:∀d,CH a X.env d=(do let v <-d;vC a.pos;tW [v] (truthy v))):
  m7 X a (λg H Q=>ck g H λx H'=>∃k,aaz X.K x H' k/\Q k H'):=by intro f s g H Q I h;show-isTrue_plain (bL (m f s g H _ I h) λv A w=>?_) (t _);let#[x,l,n,r,p]:=w;show-an8 f A g l x v Q n r p
inductive Qw(x y:V)(H:ag)(Q:aX):Prop where
 |mk(i j:Str)(_:x=.str i)(_:y=.str j)(_:i.Z+j.Z<=sizeLine)(_:Q (.str (i++j)) H)
def gA:g5 X (r4 .Add) Qw:=by intro d s n H x y v u Q I f g h;let#[i,j,2,2,k,q]:=h;let#[t,2]:=f;let#[l,2]:=g;show-add_str (λl m=>#[.str (i++j),H,I.tok _,#[1],q]) k
def vals1(r:cI [x] us):∃u,us=[u]/\RelV x u:=by
 cases r with
 |cons e h=>cases h;show#[1,e]
def vals2(r:cI [x,y] us):∃u d,us=[u,d]/\RelV x u/\RelV y d:=by
 cases r with
 |cons e h=>
  cases h with
  |cons i j=>cases j;show#[_,1,e,i]
def ajJ(l:X.calm=q4):ks X (.builtin "max") (λg H Q=>∃i j,g=[.int i,.int j]/\Q (.int (if j>i then j else i)) H):=by
 intro f s n H g K Q I r h;let#[i,j,2,q]:=h;let#[u,p,2,#[t,2],#[A,2]]:=vals2 r;refine max_two_ints (I.ok.hd l) λw m k=>#[_,H,I.kept k,4,q]
 by_cases d:j>i
 .rw[a' d,a' d];show#[1]
 rw[a4 d,a4 d];show#[1]
def YA:ks X (.type "int") (λd H Q=>(∃i,d=[.int i]/\Q (.int i) H)\/∃k,d=[.bo k]/\Q (.int (if k then 1 else 0)) H):=by
 intro f s l H d m Q I r h;rcases h with⟨i,rfl,q⟩|⟨k,rfl,q⟩
 .let#[u,2,t,2]:=vals1 r;show-call_int_int #[.int i,H,I,#[1],q]
 let#[u,2,g]:=vals1 r;cases g;show-call_int_bool #[.int (if k then 1 else 0),H,I.tok _,#[1],q]
def oh:ks X (.type "str") (λf H Q=>∃i,f=[.int i]/\i.natAbs.log2<1920/\Q (.str (toString i)) H):=by intro d s k H f l Q I r h;let#[i,2,g,q]:=h;let#[u,2,t,2]:=vals1 r;show-PySem.P.str_of_int g #[.str _,H,I.tok _,#[1],q]
structure xZ(h:Heap)(x al C:Addr)(mA:b5):Prop where
 obj:h.get? x=j3 (yC C al)
 ns:h.Ns1 al mA
 ne:al≠x
end
def ajK{h:Heap}{d:b5}(n:h.Ns1 al d):∃b,h.get? al=j3 b/\∀name,Qp name b=j3 (d name):=by
 let#[o,c,p,aW,m,g,_,hm]:=n;show#[o,aW,λname=>?_];let e:=hm name;unfold nsFind findBy at e;rw[<-Array.find?_toList]at e;unfold Qp;rw[m];dsimp only;split
 .rename_i y q;rw[q]at e;show-fe j3 e
 rename_i q;rw[q]at e;let a:c.toList.any (·.refKey)=q9:=by rw[ahB];intro y l;let#[z,t,f]:=g y (Array.mem_toList_iff.mp l);simp[DictEntry.refKey,f]
 let k:¬c.toList.any (·.refKey)=q4:=by rw[a];show-gZ
 rw[a4 k];show-fe j3 e
theorem xZ.look{b:b5}(I:xZ h x al C b):∃a,PySem.W.InstAt h x (yC C al) C (j3 a)/\∀name,Qp name a=j3 (b name):=
 let⟨a,aW,c⟩:=ajK I.ns
 #[a,#[I.obj,2,2,aW],c]
section
variable{prog:cq}{w:bW}{A:ee}{E:cC}{s:aS}{K:aL}{x al C f:Addr}{mA:b5}{name:Str}{v:Value}
def alO{Q:cC}(X:K.In s.Q)(I:xZ s.heap x al C mA)(g:Qr K C name=q4)(k:uT K C=q4)(b:c7 K (.ref C) name=j3 jp)(d:mA name=j3 v)(a:Đ v=q4)(h:Q v {s with toks:=s.toks+1}):
  aO (ba prog w) A (S8 (.ref x) name expr) Q E s:=by let#[l,J,c]:=I.look;show-PySem.W.get_value X J (Ė g).1 (PySem.W.findObj_own k b rfl (by rw[c,d])) a h
def aku{pl:Sem Bool}{Q:Value×List Value->aS->Prop}(X:K.In s.Q)(I:xZ s.heap x al C mA)(a:Qr K C name=q4)(d:c7 K (.ref C) name=j3 (j3 (.ref f)))(c:qP K (.ref f)=q4)(g:mA name=jp)(h:Q (.ref f,[.ref x]) s):
  aO (ba prog w) A (y9 (.ref x) name pl) Q E s:=by let#[k,J,b]:=I.look;show-PySem.W.method_fn X J (Ė a).1 (Ė a).2 d (r3.mp c) (by show(Qp name k).map (·.isSome)=j3 q9;rw[b,g];rfl) h
def alP{k:bE}{Q:Unit->aS->Prop}(X:K.In s.Q)(I:xZ s.heap x al C mA)(o:c7 K (.ref C) "__setattr__"=j3 (j3 (.builtin "object.__setattr__")))(e:aji K C=q4)(i:Ę K C name=j3 jp)(j:uT K C=q4)(q:BK mA k)(hsz:k.Z<=sizeLine)(h:∀c,xZ c x al C (λy=>if y=name then j3 v else mA y)->jT al s.heap c->Q () {s with heap:=c,toks:=s.toks+2}):
  aO (ba prog w) A (H7 (.ref x) name v) Q E s:=by let#[B,J,z]:=I.look;show-PySem.W.set_plain X J o (PySem.W.osa_open (s:={s with toks:=s.toks+1}) (r:=jp) X J e i λb=>?_);let#[D,N,u]:=ai5 j;let p:s.heap.get? x=j3 #[.ref C,j3 al,.plain,#[]]:=I.obj;show-ax (bk (ax (ax (ayQ p (ax (PySem.W.Looks.here (s:={s with toks:=s.toks+1}) (aje X N) ?_))))));rw[u];show-bk (a:=j3 al) (ax (bk (ax ?_)));show-wpAny_nsSet1 (s:={s with toks:=s.toks+1}) I.ns λc d g=>?_;let#[V,L,t,l,n,m]:=d.count (ę name v q);show-ax (ayR l (by rw[n];show-axj (dQ m (by rw[ej];lia))) ?_);show-bk (h _ #[(g.2 _ (e5 I.ne)).trans I.obj,d,I.ne] g)
def akv{R:wh->aS->Prop}{b:dR}{a:List (Str×Value)}(X:K.In s.Q)(hm:ē K C=q4)(k:c7 K (.ref C) "__init__"=j3 (j3 (.ref f)))(c:BJ K (.ref f)=j3 (.type "function"))(h:pe (ba prog w) (A.under (.builtin "type.__call__" #[.ref C::b,a])) (.call (.ref f) #[.ref (s.L+1)::b,a]) (PySem.W.InitBack (s.L+1) R)
   {s with heap:=(s.heap.push wg).push (yC C s.L)}):
  pe (ba prog w) A (.call (.ref C) #[b,a]) R s:=by let#[l,g,d,t,os]:=s;show-PySem.W.make_core (PySem.W.makes_of X hm) (uU X k) (λself=>ai6 X self c) (.inl rfl) h
end
def lL(f:Str)(v:V):List (Str×V)->List (Str×V)
 |[]=>[(f,v)]
 | (g,x)::r=>if g=f then(g,v)::r else(g,x)::lL f v r
theorem We(f g:Str)(v:V):∀c:List (Str×V),(lL f v c).lookup g=if g=f then j3 v else c.lookup g
 |[]=>by
  show v8 g [(f,v)]=_;by_cases h:g=f
  .let a:(g==f)=q4:=r3.mpr h;simp only[v8,a,a' h]
  let a:(g==f)=q9:=B7.mpr h;simp only[v8,a,a4 h]
 | (k,x)::r=>by
  let d:=We f g v r;rw[show lL f v ((k,x)::r)=(if k=f then(k,v)::r else(k,x)::lL f v r)from rfl];by_cases b:k=f
  .rw[a' b];by_cases h:g=k
   .let a:(g==k)=q4:=r3.mpr h;simp only[v8,a,a' (h.trans b)]
   let a:(g==k)=q9:=B7.mpr h;simp only[v8,a,a4 (λe:g=f=>h (e.trans b.J))]
  rw[a4 b];by_cases h:g=k
  .let a:(g==k)=q4:=r3.mpr h;simp only[v8,a,a4 (λe:g=f=>b (h.symm.trans e))]
  let a:(g==k)=q9:=B7.mpr h;simp only[v8,a];show-d
theorem HP(f:Str)(v:V):∀b:List (Str×V),f∈(lL f v b).map (·.1)/\∀g,g∈b.map (·.1)->g∈(lL f v b).map (·.1)
 |[]=>#[by simp[lL],λg h=>by simp at h]
 | (k,x)::r=>by
  let#[c,d]:=HP f v r;rw[show lL f v ((k,x)::r)=(if k=f then(k,v)::r else(k,x)::lL f v r)from rfl];by_cases a:k=f
  .rw[a' a];subst a;show#[by simp,λg h=>by simpa using h]
  rw[a4 a];show#[4,λg h=>?_]
  .rw[e7];show-n0 _ c
  rw[e7]at h⊢;rcases et.mp h with e|e
  .exact et.mpr (.inl e)
  show-n0 _ (d g e)
theorem Wf(f:Str)(v:V):∀b:List (Str×V),(lL f v b).Z<=b.Z+1
 |[]=>by simp[lL]
 | (k,x)::r=>by
  let c:=Wf f v r;rw[show lL f v ((k,x)::r)=(if k=f then(k,v)::r else(k,x)::lL f v r)from rfl];by_cases a:k=f
  .rw[a' a,ej,ej];lia
  rw[a4 a,ej,ej];lia
def kz.NA{o:B2}(r:kz (j3 v) o):∃u,o=j3 u/\RelV v u:=by
 cases o with
 |none=>exact(show False from r).elim
 |some u=>show#[u,2,r]
def kz.none_of{o:B2}(r:kz jp o):o=jp:=by
 cases o with
 |none=>rfl
 |some u=>exact(show False from r).elim
def YB(r:RelV v u):Đ u=q4:=by
 cases v with
 |cf=>cases(show u=fW from r);rfl
 |bo b=>cases(show u=FJ b from r);rfl
 |int i=>let#[t,e]:=(show∃t,u=qS i t from r);cases e;rfl
 |str x=>let#[t,e]:=(show∃t,u=wk x t from r);cases e;rfl
 |B8 b=>let#[t,e]:=(show∃t,u=Value.bytes b t from r);cases e;rfl
 |y5 b=>let#[t,e]:=(show∃t,u=ŗ b t from r);cases e;rfl
 |ref a=>cases(show u=cM a from r);rfl
 |ty n=>cases(show u=wm n from r);rfl
section
variable{P:cq}{w:bW}{H H':ag}{h h':Heap}{a C al:Addr}{fs auk:List (Str×V)}
def Om(c:gw P w H h)(e:H a=j3 (.ins C al fs)):∃b,xZ h a al C b/\(∀f,kz (fs.lookup f) (b f))/\BK b (fs.map (·.1))/\fs.Z<=1000/\H al=j3 (.own a):=by
 let#[d,z,g,k,b,n,r,q]:=(show e9 P w H h a (.ins C al fs)from c a _ e)
 show#[b,#[k,n,g],r,q,z,d]
end
structure fw(K:aL)(C:Addr):Prop where
 axk:Qr K C n7=q4
 hd:uT K C=q4
 po:aji K C=q4
 ka:c7 K (.ref C) "__setattr__"=j3 (j3 (.builtin "object.__setattr__"))
def fw.get{K:aL}(c:fw K C)(f:Str):Qr K C f=q4:=(c.axk)
def xv(K:aL)(C:Addr)(f:Str):Prop:=c7 K (.ref C) f=j3 jp
def xv.ayi{K:aL}{f:Str}(n:xv K C f):Ę K C f=j3 jp:=by unfold Ę;rw[show c7 K (.ref C) f=j3 jp from n];rfl
structure Meth(K:aL)(C:Addr)(m:Str)(f:Addr):Prop where
 at_:c7 K (.ref C) m=j3 (j3 (.ref f))
 fn:qP K (.ref f)=q4
 fK:mC K (.ref f)=q4
section
variable{X:bA}{pins:dJ}{aa:St}{H:ag}{s:aS}{a C al:Addr}{fs:List (Str×V)}{f:Str}{v:V}{A:ee}{E:cC}
def agI{Q:cC}(I:Inv X pins aa H s)(e:H a=j3 (.ins C al fs))(c:fw X.K C)(n:xv X.K C f)(l:fs.lookup f=j3 v)(h:∀u d,Inv X pins aa H d->RelV v u->Q u d):aO (ba X.prog X.w) A (S8 (.ref a) f b) Q E s:=by let#[k,O,r,6,_]:=Om I.bu e;let#[u,g,en]:=kz.NA (v:=v) (o:=k f) (by rw[<-l];show-r f);show-alO I.eN O (c.get f) c.hd n g (YB en) (h u _ (I.tok _) en)
def HF{pl:Sem Bool}{Q:Value×List Value->aS->Prop}(I:Inv X pins aa H s)(e:H a=j3 (.ins C al fs))(c:fw X.K C)(k:Meth X.K C m g)(l:fs.lookup m=jp)(h:Q (.ref g,[.ref a]) s):aO (ba X.prog X.w) A (y9 (.ref a) m pl) Q E s:=by let#[d,O,r,6,_]:=Om I.bu e;let b:d m=jp:=kz.none_of (by rw[<-l];show-r m);show-aku I.eN O (c.get m) k.at_ k.fn b h
def agJ{Q:Unit->aS->Prop}(I:Inv X pins aa H s)(e:H a=j3 (.ins C al fs))(c:fw X.K C)(n:xv X.K C f)(B:fs.Z<1000)(L:RelV y u)(h:∀l,Inv X pins aa (upd H a (.ins C al (lL f y fs))) l->Q () l):aO (ba X.prog X.w) A (H7 (.ref a) f u) Q E s:=by
 let#[k,O,r,m,_,aW]:=Om I.bu e;let j:(fs.map (·.1)).Z<=sizeLine:=by rw[aM,vA];lia
 show-alP I.eN O c.ka c.po n.ayi c.hd m j λN d K=>h _ ?_;let i:∃o,N.get? al=j3 o:=let⟨o,_,_,t,_⟩:=d.ns;#[o,t]
 show-I.write (x:=a) (e:=al) (by rw[e];show-n8) (.inr aW) (λb q p z=>(K.2 b p).trans z) i ?_;show#[by rwa[aR O.ne],4,O.ne,d.obj,_,d.ns,λg=>?_,λg w=>?_]
 .have:=Wf f y fs;lia
 .show kz ((lL f y fs).lookup g) (if g=f then j3 u else k g);rw[We];by_cases q:g=f
  .rw[a' q,a' q];show-L
  rw[a4 q,a4 q];exact r g
 by_cases q:g=f
 .rw[q];exact(HP f y fs).1
 refine(HP f y fs).2 g (m g λz=>w ?_);show(if g=f then j3 u else k g)=jp;rwa[a4 q]
def Inv.made(I:Inv X pins aa H s):Inv X pins aa (upd (upd H s.heap.objs.size (.own (s.L+1))) (s.L+1) (.ins C s.heap.objs.size []))
  {s with heap:=(s.heap.push wg).push (yC C s.L)}:=by
 let c:(s.heap.push wg).get? s.L=j3 wg:=gJ s.heap rfl;let g:((s.heap.push wg).push (yC C s.L)).get? (s.L+1)=j3 (yC C s.L):=by
  have:=gJ (s.heap.push wg) (o:=yC C s.L) rfl
  rwa [uM]at this
 let l:(s.heap.push wg).Ns s.heap.objs.size (λ_=>jp):=#[wg,#[],_,c,2,(λe n=>bt n xg),λ_=>rfl]
 let k:=I.laid (a:=s.L) (o:=.own (s.L+1)) (h':=s.heap.push wg) (t':=s.toks) (λb u q=>dO _ q) (b7 _) #[_,c];show-k.laid (a:=s.L+1) (o:=.ins C s.heap.objs.size []) (t':=s.toks) (λb u q=>dO _ q) (Qb (uM _ _)) ?_;let d:s.L≠s.L+1:=e8 (yw _);show#[by rw[aR d,aQ],eu _,d,g,λ_=>jp,(agm l).at λo q=>dO _ q,λ_=>n8,λy m=>bt rfl m]
theorem À{b:Env}{f:Str}{Q:cC}(c:yK e f b (eval e b)=eval e b)(h:aO (ba prog w) A (eval e b) (λo d=>aO (ba prog w) A (S8 o f q4) Q E d) E s):aO (ba prog w) A (eval (.Attribute e f pos) b) Q E s:=
 Attribute_any_ h (by rw[arm_eval_Attribute,c])
end
inductive arG(K:aL)(f:Str)(x:V)(H1:ag)(Q:aX):Prop where
 |mk(a:_)(C:_)(al:_)(fs:_)(v:_)(_:x=.ref a)(_:H1 a=j3 (.ins C al fs))(_:fw K C)(_:xv K C f)(_:fs.lookup f=j3 v)(_:Q v H1)
def arH(K:aL)(c:TE)(f:Str):TE:=λb H Q=>c b H λx a=>arG K f x a Q
def arI(K:aL)(l m:TE)(f:Str):fo:=λD b H=>m b H λy k=>l b k λx d=>∃a C g c,x=.ref a/\d a=j3 (.ins C g c)/\fw K C/\xv K C f/\c.Z<1000/\
 D.cX b (upd d a (.ins C g (lL f y c)))
section
variable{X:bA}{o e value:Expr}{f:Str}{pos pos' z9:Pos}{ck mq:TE}
def eX(A:bq X e ck)(p:yK e f X.env (eval e X.env)=eval e X.env:=by rfl):bq X (.Attribute e f pos) (arH X.K ck f):=by intro b s m H Q I h;show-À p (bL (A b s m H _ I h) λu V K=>?_);let#[x,d,k,t,a,C,L,N,v,w,g,c,n,l,q]:=K;subst w;obtain rfl:u=cM a:=t;show-agI k g c n l λj i r en=>#[v,d,r,en,q]
def oG(m:bq X o ck)(w:bq X value mq)(j:xq value (j3 (.Attribute o f pos')) pos.line X.env=pure q9):f3 X (.Assign [.Attribute o f pos'] value pos) (arI X.K ck mq f):=by intro b s d H D I h;show-axn (bL (w b s d H _ I h) λu z g=>?_) j;let#[y,k,r,L,q]:=g;show-bL (m b z d k _ r q) λi G g=>?_;let#[x,B,t,A,a,C,E,F,V,p,c,n,l,K]:=g;subst V;obtain rfl:i=cM a:=A;show-agJ t p c n l L λJ N=>#[d,_,N,K]
def aAm{pl:Sem Bool}{n:Pos}{args:hy}{Q:cC}{w:TE}(j:bq X e w)(I:Inv X pins i H s)(h:w i H λx d=>∃a C t p g,x=.ref a/\d a=j3 (.ins C t p)/\fw X.K C/\Meth X.K C m g/\p.lookup m=jp/\
   ∀b,Inv X pins i d b->aO (ba X.prog X.w) X.A (yQ pos (.ref g) [.ref a] (hr pos (dM args X.env)) (od pos (oH [] X.env))) Q X.dw b)(L:eval (.Call (.Attribute e m n) args [] pos) X.env=(do
   let A <-eval e X.env
   vC n.atName
   let(f,first) <-tW [A] (y9 A m pl)
   yQ pos f first (hr pos (dM args X.env)) (od pos (oH [] X.env)))):
  aO (ba X.prog X.w) X.A (eval (.Call (.Attribute e m n) args [] pos) X.env) Q X.dw s:=by show-Fz (pl:=pl) (bL (j pins s i H _ I h) λu b y=>?_) L;let#[x,d,r,N,a,C,t,p,g,V,K,c,k,l,q]:=y;subst V;obtain rfl:u=cM a:=N;show-HF r K c k l (q b r)
end
section
variable{X:bA}{pins:dJ}{aa:St}{H:ag}{s:aS}{A:ee}{E:cC}{Q:cC}{c:Value}{b:Bool}
inductive pQ(K:aL)(H:ag):V->Value->Prop where
 |cf:pQ K H .cf (.type "NoneType")
 |bo(x:Bool):pQ K H (.bo x) (.type "bool")
 |int(i:Int):pQ K H (.int i) (.type "int")
 |str(x:Str):pQ K H (.str x) (.type "str")
 |y5(x:UInt64):pQ K H (.y5 x) (.type "float")
 |lst{a:Addr}{xs:aV}(_:H a=j3 (.lst xs)):pQ K H (.ref a) (.type "list")
 |fp{a:Addr}{o:Obj}{xs:aV}(_:H a=j3 (.fp o (.lst xs))):pQ K H (.ref a) (.type "list")
 |tup{a:Addr}{xs:aV}(_:H a=j3 (.tup xs)):pQ K H (.ref a) (.type "tuple")
 |cZ{a:Addr}{kvs:List (bD×V)}(_:H a=j3 (.cZ kvs)):pQ K H (.ref a) (.type "dict")
 |c3{a:Addr}{kvs:List (List bD×V)}(_:H a=j3 (.c3 kvs)):pQ K H (.ref a) (.type "dict")
 |ins{a C al:Addr}{fs:List (Str×V)}(_:H a=j3 (.ins C al fs))(_:fw K C)(_:c7 K (.ref C) "__class__"=j3 (j3 (.builtin "object.__class__")))
   (hn:uV K (.builtin "object.__class__") "__get__"=j3 (j3 (.builtin "getset_descriptor.__get__"))) (L5:BI K (.builtin "object.__class__")=j3 q4)
   (hm:o_ K C (.type "object")=j3 q4):pQ K H (.ref a) (.ref C)
def ajL{t:Value}(I:Inv X pins aa H s)(d:RelV x u)(ty:pQ X.K H x t)(e:kI X.K t c=j3 b)(h:∀l,Q (.bool b) {s with toks:=l}):
  aO (ba X.prog X.w) A (call (.builtin "isinstance") [u,c]) Q E s:=by
 cases ty with
 |cf=>cases(show u=fW from d);show-qQ PySem.W.kitx_none I.eN n8 e (λz=>nomatch z) h
 |bo y=>cases(show u=FJ y from d);show-qQ PySem.W.kitx_bool I.eN n8 e (λz=>nomatch z) h
 |int i=>let#[t,q]:=(show∃t,u=qS i t from d);cases q;show-qQ PySem.W.kitx_int I.eN n8 e (λz=>nomatch z) h
 |str y=>let#[t,q]:=(show∃t,u=wk y t from d);cases q;show-qQ PySem.W.kitx_str I.eN n8 e (λz=>nomatch z) h
 |y5 y=>let#[t,q]:=(show∃t,u=ŗ y t from d);cases q;show-qQ PySem.W.kitx_float I.eN n8 e (λz=>nomatch z) h
 |@lst a g j=>
  cases(show u=cM a from d);let#[6,n,_,f]:=(show e9 X.prog X.w H s.heap a (.lst g)from I.bu a _ j)
  show-qQ ajd I.eN #[_,f,2] e (λz=>nomatch z) h
 |@fp a ob g j=>
  cases(show u=cM a from d);let#[6,_,n,_,f]:=(show e9 X.prog X.w H s.heap a (.fp ob (.lst g))from I.bu a _ j)
  show-qQ ajd I.eN #[_,f,2] e (λz=>nomatch z) h
 |@tup a g j=>
  cases(show u=cM a from d);let#[6,_,p]:=(show e9 X.prog X.w H s.heap a (.tup g)from I.bu a _ j)
  let#[o,f,k,_]:=p;show-qQ PySem.W.kitx_tuple I.eN #[o,f,k] e (λz=>nomatch z) h
 |@cZ a B j=>
  cases(show u=cM a from d);let#[6,L,_,p]:=(show e9 X.prog X.w H s.heap a (.cZ B)from I.bu a _ j)
  let#[o,r,m,f,k,_]:=p;show-qQ ajc I.eN #[o,f,k.1] e (λz=>nomatch z) h
 |@c3 a B j=>
  cases(show u=cM a from d);let#[6,g,_,o,r,m,f,k,_]:=(show e9 X.prog X.w H s.heap a (.c3 B)from I.bu a _ j)
  show-qQ ajc I.eN #[o,f,k.1] e (λz=>nomatch z) h
 |@ins a C al fs j cl aB hn L5 hm=>
  cases(show u=cM a from d);let#[K,O,_]:=Om I.bu j;let#[w,J,_]:=O.look;show-qQ (PySem.W.kitx_own (cl.get _) cl.hd aB hn L5 hm) I.eN J e (λz=>nomatch z) h
end
structure gD(k:Nat)(A:ee):Prop where
 hd:A.handled=jp
 K9:A.depth+3*k+5<recursionLimit
 un:A.units+16*k+200<cLine
def gD.mono{j k:Nat}(r:gD k A)(h:j<=k:=by decide):gD j A:=(#[r.hd,by have:=r.K9;lia,by have:=r.un;lia])
theorem gD.deeper{k:Nat}{A:ee}(r:gD (k+1) A)(a:Env):gD k (A.deeper a):=
 #[r.hd,by have:=r.K9;show A.depth+1+3*k+5<_;lia,by have:=r.un;show A.units+3+16*k+200<_;lia]
def agK{A:ee}{C:Addr}{b:dR}{a:List (Str×Value)}:(A.under (.builtin "type.__call__" #[.ref C::b,a])).depth=A.depth+1:=by
 first|rfl|simp[Yb,Code.weight,Code.isCreation,Code.isGuard,Code.isCaller,Code.frames,Yy,guardIds]
def agL{A:ee}{C:Addr}{b:dR}{a:List (Str×Value)}:(A.under (.builtin "type.__call__" #[.ref C::b,a])).units=A.units+1:=by
 first|rfl|simp[Yb,Code.cUnits,Code.frames,Yy]
theorem gD.make{k:Nat}{A:ee}(r:gD (k+1) A)(C:Addr)(b:dR)(a:List (Str×Value)):gD k (A.under (.builtin "type.__call__" #[.ref C::b,a])):=
 #[r.hd,by have:=r.K9;rw[agK];lia,by have:=r.un;rw[agL];lia]
def gD.depth{k:Nat}{A:ee}(r:gD k A):A.depth<recursionLimit:=by have:=r.K9;lia
def gD.units{k:Nat}{A:ee}(r:gD k A):A.units+64<cLine:=by have:=r.un;lia
def vT:gb:=λ_ H Q=>Q [] H
def kT(d:TE)(f:gb):gb:=λa H Q=>d a H λx b=>f a b λg c=>Q (x::g) c
section
variable{X:bA}{e:Expr}{es:hy}{bO:TE}{t:gb}{pos:Pos}
def aw:fN X [] vT:=(λ_ _ _ _ H Q I h=>O3 #[[],H,I,.nil,h])
def aj(f:bq X e bO)(l:fN X es t)(A:dM (e::es) X.env=(q9,eval e X.env)::dM es X.env:=by rfl):fN X (e::es) (kT bO t):=by intro pos a s c H Q I h;rw[A];show aO _ _ (spliced ((q9,eval e X.env)::hr pos (dM es X.env))) _ _ s;show-EP (bL (f a s c H _ I h) λu K b=>?_);let#[x,d,g,r,n]:=b;show-bL (l pos a K c d _ g n) λV N b=>?_;let#[L,k,m,w,p]:=b;show#[x::L,k,m,.cons r w,p]
inductive Rb(n:Nat)(H:ag)(o:hP)(Q:aX):Prop where
 |mk(_:n<=sizeLine)(_:∀p,H p=jp->Q (.ref p) (upd H p o))
def arJ(t:gb):TE:=λc H Q=>t c H λa b=>Rb a.length b (.tup a) Q
def arK(t:gb):TE:=λc H Q=>t c H λa b=>Rb a.length b (.lst a) Q
def h_{i}(h:fN X es t):bq X (.Tuple es i pos) (arJ t):=by intro a s g H Q I l;show-wpAny_Tuple_spliced (bL (h pos a s g H _ I l) λn c m=>?_);let#[p,d,f,r,z,q]:=m;show#[by rwa[<-r.Z],4];let k:d c.L=jp:=f.bu.fresh (b7 _);show#[.ref c.L,upd d c.heap.objs.size (.tup p),f.laid (t':=c.toks) (λb u e=>dO _ e) (b7 _) ?_,2,q _ k];show#[z,n,r,#[_,gJ _ rfl,7]]
def eY(h:fN X es t):bq X (.List es pos) (arK t):=by intro a s g H Q I l;show-wpAny_List_spliced (bL (h pos a s g H _ I l) λn c m=>?_);let#[p,d,f,r,z,q]:=m;show#[by rwa[<-r.Z],4];let k:d c.L=jp:=f.bu.fresh (b7 _);show#[.ref c.L,upd d c.heap.objs.size (.lst p),f.laid (t':=c.toks) (λb u e=>dO _ e) (b7 _) ?_,2,q _ k];show#[z,n,0,r,gJ _ rfl]
abbrev fx:=List V->ag->aX->bM->Prop
abbrev o4:=List Env->ag->aS->bM->Value->aS->Prop
structure x1(P:cq)(w:bW)(K:aL)(mg:b5)(base:Heap)(A:ee)(outer:List Env)(s:aS)(H:ag):Prop where
 frames:A.frames=j3 outer
 mod:Mod K mg base
 bs:∀b o,base.get? b=j3 o->s.heap.get? b=j3 o/\H b=jp
 tG:base.Y<=s.L
 l5:s.heap.FunFrames base outer
 vb:∀b∈fg outer,H b=jp
 bu:gw P w H s.Q
 bare:uv s.gens
inductive O2(outer:List Env)(P:cq)(w:bW)(H:ag)(s:aS)(Q:aX)(u:Value)(s':aS):Prop where
 |mk(v:V)(H':ag)(_:s'.os=s.os)(_:uv s'.gens)(_:iv (fg outer) [] H H' s.heap s'.Q)(_:gw P w H' s'.Q)(_:RelV v u)(_:Q v H')
end
def afP(c:o4)(a:List Env)(P:cq)(w:bW)(H:ag)(s:aS)(Q:aX)(E:bM)(r:wh)(b:aS):Prop:=
 match r with
 |.ok (.ret u)=>O2 a P w H s Q u b
 |.ok _=>False
 |.error e=>c a H s E e b
structure aH(P:cq)(w:bW)(K:aL)(mg:b5)(base:Heap)(CX:o4)(k:Nat)(f:Addr)(fd:m3)(ps:bE)(sp:fx):Prop where
 len:∀vs H Q E,sp vs H Q E->vs.Z=ps.Z
 run:∀(A:ee)(outer:List Env)(s:aS)(H:ag)(args:Args)(us:dR)(vs:aV)(Q:aX)(E:bM),gD k A->x1 P w K mg base A outer s H->EK s fd args (ps.zip us)->cI vs us->sp vs H Q E->
  pe (ba P w) A (.call (.ref f) args) (afP CX outer P w H s Q E) s
theorem aH.mono{K:aL}{c:b5}{a:Heap}{j k:Nat}{f:Addr}(F:aH P w K c a e j f fd i sp)(h:j<=k):
  aH P w K c a e k f fd i sp:=#[F.len,λA b s H args g l Q E d=>F.run A b s H args g l Q E (d.mono h)]
theorem aH.imp{K:aL}{g:b5}{a:Heap}{k:Nat}{f:Addr}{l d:fx}(F:aH P w K g a e k f fd i l)(h:∀c H Q E,d c H Q E->l c H Q E):aH P w K g a e k f fd i d:=
 #[λc H Q E q=>F.len c H Q E (h _ _ _ _ q),λA b s H args L c Q E n r m p t=>F.run A b s H args L c Q E n r m p (h _ _ _ _ t)]
theorem x1.make{K:aL}{b:b5}{a:Heap}{A:ee}(e:x1 P w K b a A outer s H)(C:Addr)(d:dR)(c:List (Str×Value)):
  x1 P w K b a (A.under (.builtin "type.__call__" #[.ref C::d,c])) outer s H:=#[by first|exact e.frames|(simpa[Yb,Code.envs,Yy,pushEnvs]using e.frames),e.mod,e.bs,e.tG,e.l5,e.vb,e.bu,e.bare]
section
variable{X:bA}{pins:dJ}{aa:St}{H:ag}{s s':aS}
theorem Inv.Ga(I:Inv X pins aa H s):x1 X.prog X.w X.K X.mg X.base X.A X.stack s H:=
 #[I.ok.frames,I.ok.mod,I.bs,dQ I.ok.tG I.nH,I.stack,I.NC,I.bu,I.bare]
def Inv.after(I:Inv X pins aa H s)(h:O2 X.stack X.prog X.w H s Q u s'):ir X pins aa Q u s':=by let#[v,H',os,a,l,f,r,q]:=h;let#[k,g,d,t,c]:=s';obtain rfl:c=s.os:=os;show#[v,H',I.call (h':=k) (g':=g) (d':=d) (t':=t) (ch:=[]) l f a (λb z=>bt z xg),r,q]
end
def Ũ(d:fx)(c:aV)(E:bM)(t:gb):TE:=λb H Q=>t b H λf a=>d (f++c) a Q E
inductive apr(C:Addr)(m:Str)(x:V)(H1:ag)(R:Prop):Prop where
 |mk(a:_)(al:_)(fs:_)(_:x=.ref a)(_:H1 a=j3 (.ins C al fs))(_:fs.lookup m=jp)(_:R)
def QA(C:Addr)(m:Str)(g:fx)(f:aV)(E:bM)(d:TE)(t:gb):TE:=λb H Q=>d b H λx a=>apr C m x a (t b a λk c=>g (x::(k++f)) c Q E)
def ũ(C:Addr)(g:fx)(f:aV)(E:bM)(t:gb):TE:=λc H Q=>t c H λk b=>∀x a,b x=jp->b a=jp->a≠x->
 g (.ref x::(k++f)) (upd (upd b a (.own x)) x (.ins C a [])) (λv d=>v=.cf/\Q (.ref x) d) E
def Binds(K:aL)(c:m3)(b:bE)(ds:dR):Prop:=
 ∀(s:aS)(a:dR),K.In s.Q->(a++ds).Z=b.Z->EK s c #[a,[]] (b.zip (a++ds))
def Binds.all{K:aL}{b:bE}(h:∀a:List Value,a.Z=b.Z->K3 fd #[a,[]]=pure (b.zip a)):Binds K fd b []:=(λs a _ c=>by rw[lS]at c⊢;show-.of_eq (h a c))
def nx(c:o4)(X:bA)(E:bM):Prop:=∀(a:dJ)(d:St)(H:ag)(s:aS)(e:Value)(b:aS),Inv X a d H s->c X.stack H s E e b->X.dw e b
section
variable{X:bA}{CX:o4}{k:Nat}{f C:Addr}{fd:m3}{ps:bE}{sp:fx}{jH:aV}{ds:dR}{E:bM}{x m:Str}{p pos fP:Pos}{e o:Expr}{es:hy}{ck:TE}{t:gb}
def Jd{vs:aV}(F:aH X.prog X.w X.K X.mg X.base CX k f fd ps sp)(d:gD k X.A)(c:Binds X.K fd ps ds)(n:cI jH ds)(g:nx CX X E)(I:Inv X pins i H s)(r:cI vs us)(h:sp (vs++jH) H Q E):aO (ba X.prog X.w) X.A (call (.ref f) us) (ir X pins i Q) X.dw s:=by
 let b:cI (vs++jH) (us++ds):=r.append n;let l:(us++ds).Z=ps.Z:=by rw[<-b.Z];show-F.len _ _ _ _ h
 show-te (r9 (F.run X.A X.stack s H #[us,[]] (us++ds) (vs++jH) Q E d I.Ga (c s us I.eN l) b h) λr w a=>?_);cases r with
 |error e=>show-g pins i H s e w I a
 |ok eQ=>
  cases eQ with
  |ret u=>show-I.after a
  |next=>show-iu a
  |brk=>show-iu a
  |cont=>show-iu a
def alQ(F:aH X.prog X.w X.K X.mg X.base CX k f fd ps sp)(n:gD k X.A)(A:jd X x)(hm:X.mg x=j3 (.ref f))(d:mC X.K (.ref f)=q4)(l:Binds X.K fd ps ds)(K:cI jH ds)(w:nx CX X E)(c:fN X (e::es) t)(V:(x==("__debug__":Str))=q9:=by decide)(L:dM (e::es) X.env=(q9,eval e X.env)::dM es X.env:=by rfl)(d3:(hr pos (dM es X.env)).any (·.1)=q9:=by rfl):
  bq X (.Call (.Name x p) (e::es) [] pos) (Ũ sp jH E t):=by intro a s g H Q I h;show-As (sL I A hm ?_ V);show-yB (h₀:=X.base) I.ok.mod.sJ d (bL (c pos a s g H _ I h) λu j N=>?_) L d3;let#[y,i,b,r,q]:=N;show#[b.eN,4];show-Jd F n l K w b r q
def gp{pl:Sem Bool}(J:bq X o ck)(c:fw X.K C)(hm:Meth X.K C m f)(F:aH X.prog X.w X.K X.mg X.base CX k f fd ps sp)(i:gD k X.A)(V:Binds X.K fd ps ds)(G:cI jH ds)(j:nx CX X E)(L:fN X (e::es) t)(M:dM (e::es) X.env=(q9,eval e X.env)::dM es X.env:=by rfl)(d3:(hr pos (dM es X.env)).any (·.1)=q9:=by rfl)(y:eval (.Call (.Attribute o m fP) (e::es) [] pos) X.env=(do
   let A <-eval o X.env
   vC fP.atName
   let(f,first) <-tW [A] (y9 A m pl)
   yQ pos f first (hr pos (dM (e::es) X.env)) (od pos (oH [] X.env))):=by rfl):
  bq X (.Call (.Attribute o m fP) (e::es) [] pos) (QA C m sp jH E ck t):=by intro b s n H Q I h;show-Fz (pl:=pl) (bL (J b s n H _ I h) λu O d=>?_) y;let#[x,K,g,z,a,R,T,D,N,l,q]:=d;subst D;obtain rfl:u=cM a:=z;show-HF g N c hm l ?_;show-yB (first:=[.ref a]) (h₀:=X.base) I.ok.mod.sJ hm.fK (bL (L pos b O n K _ g q) λus U d=>?_) M d3;let#[vs,P,w,r,B]:=d;show#[w.eN,4];show-Jd (us:=.ref a::us) (vs:=.ref a::vs) F i V G j w (.cons rfl r) B
def sF{pl:Sem Bool}(j:bq X o ck)(c:fw X.K C)(hm:Meth X.K C m f)(F:aH X.prog X.w X.K X.mg X.base CX k f fd ps sp)(A:gD k X.A)(w:Binds X.K fd ps ds)(i:cI jH ds)(K:nx CX X E)(L:eval (.Call (.Attribute o m fP) [] [] pos) X.env=(do
   let g <-eval o X.env
   vC fP.atName
   let(f,first) <-tW [g] (y9 g m pl)
   yQ pos f first (hr pos (dM [] X.env)) (od pos (oH [] X.env))):=by rfl):
  bq X (.Call (.Attribute o m fP) [] [] pos) (QA C m sp jH E ck vT):=by intro b s r H Q I h;show-Fz (pl:=pl) (bL (j b s r H _ I h) λu G y=>?_) L;let#[x,z,d,N,a,B,D,V,n,l,q]:=y;subst V;obtain rfl:u=cM a:=N;show-HF d n c hm l ?_;show-ai7 (first:=[.ref a]) d.eN hm.fK (Jd (us:=[.ref a]) (vs:=[.ref a]) F A w i K d (.cons rfl .nil) q)
structure o8(K:aL)(C f:Addr):Prop where
 makes:ē K C=q4
 init:c7 K (.ref C) "__init__"=j3 (j3 (.ref f))
 fn:qP K (.ref f)=q4
 fK:mC K (.ref C)=q4
def Zp{H:ag}{Q:aX}{d:aV}(M:o8 X.K C f)(F:aH X.prog X.w X.K X.mg X.base CX k f fd ps sp)(A:gD (k+1) X.A)(n:Binds X.K fd ps ds)(y:cI jH ds)(K:nx CX X E)(I:Inv X pins i H s)(r:cI d us)(h:∀x b,H x=jp->H b=jp->b≠x->sp (.ref x::(d++jH)) (upd (upd H b (.own x)) x (.ins C b [])) (λv w=>v=.cf/\Q (.ref x) w) E):
  aO (ba X.prog X.w) X.A (call (.ref C) us) (ir X pins i Q) X.dw s:=by
 let g:=h (s.L+1) s.heap.objs.size (I.bu.fresh (Fo _)) (I.bu.fresh (b7 _)) (e8 (yw _));let c:=Inv.made (C:=C) I;let l:cI (V.ref (s.L+1)::(d++jH)) (cM (s.L+1)::(us++ds)):=.cons rfl (r.append y);let L:(cM (s.L+1)::us++ds).Z=ps.Z:=by let e:=l.Z;rw[F.len _ _ _ _ g]at e;show-e.J
 show-te (akv (f:=f) I.eN M.makes M.init (r3.mp M.fn) (r9 (F.run _ X.stack _ _ #[cM (s.L+1)::us,[]] (cM (s.L+1)::(us++ds)) _ _ E (A.make C us [])
  (c.Ga.make C us []) (n _ (cM (s.L+1)::us) c.eN L) l g) λr B a=>?_))
 cases r with
 |error e=>show-K pins i _ _ e B c a
 |ok eQ=>
  cases eQ with
  |ret u=>
   let#[v,H',j,N,q,z]:=c.after a;subst q;show#[N,#[V.ref (s.L+1),H',j,2,z]]
  |next=>show-iu a
  |brk=>show-iu a
  |cont=>show-iu a
def vr(M:o8 X.K C f)(F:aH X.prog X.w X.K X.mg X.base CX k f fd ps sp)(l:gD (k+1) X.A)(w:jd X x)(hm:X.mg x=j3 (.ref C))(g:Binds X.K fd ps ds)(A:cI jH ds)(n:nx CX X E)(c:fN X (e::es) t)(N:(x==("__debug__":Str))=q9:=by decide)(K:dM (e::es) X.env=(q9,eval e X.env)::dM es X.env:=by rfl)(d3:(hr pos (dM es X.env)).any (·.1)=q9:=by rfl):
  bq X (.Call (.Name x p) (e::es) [] pos) (ũ C sp jH E t):=by intro a s d H Q I h;show-As (sL I w hm ?_ N);show-yB (h₀:=X.base) I.ok.mod.sJ M.fK (bL (c pos a s d H _ I h) λj i L=>?_) K d3;let#[u,V,b,r,q]:=L;show#[b.eN,4];show-Zp M F l g A n b r q
def akx(M:o8 X.K C f)(F:aH X.prog X.w X.K X.mg X.base CX k f fd ps sp)(c:gD (k+1) X.A)(g:jd X x)(hm:X.mg x=j3 (.ref C))(b:Binds X.K fd ps ds)(l:cI jH ds)(d:nx CX X E)(n:(x==("__debug__":Str))=q9:=by decide):bq X (.Call (.Name x p) [] [] pos) (ũ C sp jH E vT):=by intro a s r H Q I h;show-As (sL I g hm ?_ n);show-ai7 I.eN M.fK (Zp (us:=[]) M F c b l d I .nil h)
end
def Qk(X:bA)(d:List x7)(t:gb):Prop:=
 ∀(c:Pos)(a:dJ)(s:aS)(b:St)(H:ag)(Q:List V->ag->Prop),Inv X a b H s->t b H Q->aO (ba X.prog X.w) X.A (evalAll ((od c (oH d X.env)).map (·.2))) (X6 X a b Q) X.dw s
section
variable{X:bA}{CX:o4}{k:Nat}{f C:Addr}{fd:m3}{ps dX:bE}{sp:fx}{E:bM}{x m:Str}{p pos fP av9:Pos}{e o:Expr}{es:hy}{Hf:List x7}{bO ck:TE}{t aP:gb}{nm:Option Str}
def anG:Qk X [] vT:=(λ_ _ _ _ H Q I h=>wpAny_evalAll_nil #[[],H,I,.nil,h])
def alR(g:bq X e bO)(r:Qk X Hf t):Qk X (#[nm,e,av9]::Hf) (kT bO t):=by intro pos a s c H Q I h;show aO _ _ (evalAll ((do let v <-eval e X.env;vC pos;pure v)::(od pos (oH Hf X.env)).map (·.2))) _ _ s;show-wpAny_evalAll_cons (ax (bL (g a s c H _ I h) λu V b=>?_));let#[x,d,l,L,A]:=b;show-ax (IF (bk ?_));show-bL (r pos a V c d _ l A) λq j b=>?_;let#[i,n,w,N,K]:=b;show#[x::i,n,w,.cons L N,K]
end
structure cJ(N P:bE)(sc:Scope):Prop where
 kind:sc.kind=.function:=by rfl
 co:sc.isCoroutine=q9:=by rfl
 gen:sc.isGenerator=q9:=by rfl
 aA:N.Nodup:=by decide +kernel
 pre:N.take P.Z=P:=by rfl
 par:∀x∈P,sc.names.lookup x=j3 .local\/sc.names.lookup x=j3 .cell:=by decide +kernel
 awX:∀y∈sc.names,y.2≠.free:=by decide +kernel
theorem YC{kindOf:Str->Option yu}:∀{a:List (Str×Value)}{m:b5},(∀v,(x,v)∉a)->yO kindOf a m x=m x
 |[],_,_=>rfl
 | (n,v)::r,m,h=>by
  unfold yO;rw[YC λw b=>h w (n0 _ b)];split
  .have:x≠n:=by rintro rfl;show-h v v'
   simp[this]
  rfl
theorem YD{kindOf:Str->Option yu}:∀{a:List (Str×Value)}{m:b5},(∀v,(x,v)∉a)->yN kindOf a m x=m x
 |[],_,_=>rfl
 | (n,v)::r,m,h=>by
  unfold yN;rw[YD λw b=>h w (n0 _ b)];split
  .rfl
  have:x≠n:=by rintro rfl;show-h v v'
  simp[this]
theorem YE{kindOf:Str->Option yu}:∀{P:bE}{a:dR}{i:Nat}{m:b5},P.Nodup->P[i]?=j3 x->a[i]?=j3 v->kindOf x=j3 .local->
  yO kindOf (P.zip a) m x=j3 v
 |[],_,_,_,_,h,_,_=>by simp at h
 |_::_,[],_,_,_,_,h,_=>by simp at h
 |p::P,w::a,0,m,aA,ai,ak,e=>by simp at ai ak;subst ai;subst ak;show yO kindOf ((p,w)::P.zip a) m p=_;unfold yO;rw[YC λv b=>(kG.mp aA).1 (Ε b).1,a' e];simp
 |p::P,w::a,i+1,m,aA,ai,ak,e=>by show yO kindOf ((p,w)::P.zip a) m x=_;unfold yO;show-YE (i:=i) (kG.mp aA).2 (by simpa using ai) (by simpa using ak) e
theorem Yr{kindOf:Str->Option yu}:∀{P:bE}{a:dR}{i:Nat}{m:b5},P.Nodup->P[i]?=j3 x->a[i]?=j3 v->kindOf x≠j3 .local->
  yN kindOf (P.zip a) m x=j3 v
 |[],_,_,_,_,h,_,_=>by simp at h
 |_::_,[],_,_,_,_,h,_=>by simp at h
 |p::P,w::a,0,m,aA,ai,ak,e=>by simp at ai ak;subst ai;subst ak;show yN kindOf ((p,w)::P.zip a) m p=_;unfold yN;rw[YD λv b=>(kG.mp aA).1 (Ε b).1,a4 e];simp
 |p::P,w::a,i+1,m,aA,ai,ak,e=>by show yN kindOf ((p,w)::P.zip a) m x=_;unfold yN;show-Yr (i:=i) (kG.mp aA).2 (by simpa using ai) (by simpa using ak) e
def start(N:bE)(a:aV):St:=a.map j3++h5 (N.Z-a.Z) jp
def jR(g:o4)(P:cq)(w:bW)(K:aL)(mg:b5)(base:Heap)(N:bE)(b:Str)(a:Scope)(f:Addr)(c:Value)(A:ee)(outer:List Env)(s:aS)(H:ag)(E:bM):bA where
 prog:=P
 w:=w
 K:=K
 mg:=mg
 base:=base
 A:=A.deeper (qW b a s.heap.objs.size f c)
 N:=N
 fB:=s
 g9:=H
 env:=qW b a s.heap.objs.size f c
 outer:=outer
 stack:=qW b a s.heap.objs.size f c::outer
 ex:=[]
 calm:=q4
 fn:=λ_=>q4
 da:=[]
 dw:=λe l=>aO (ba P w) (A.deeper (qW b a s.heap.objs.size f c)) (leaving (qW b a s.heap.objs.size f c) e) (λ_ d=>g outer H s E e d) (λk d=>g outer H s E k d) l
def Zq{a:Scope}{n:Nat}(h:a.names.lookup x=j3 .cell):∃c,(abm n a.names []).lookup x=j3 c:=by let q:=ai8 a.names n [] (.inl h);show-yz.mp q
def ajM{K:aL}{G:b5}{l:Heap}{L:bE}{d:Scope}{f:Addr}{A:ee}{s:aS}{V:aV}(S:cJ N L d)(R:A.handled=jp)(m:x1 P w K G l A outer s H)(X:V.Z=L.Z)(r:cI V us)(x:InCallC s s.heap.objs.size (yO (qW qual d s.heap.objs.size f F).kindOf (L.zip us) λ_=>jp) (abm (s.L+1) d.names []) (yN (qW qual d s.heap.objs.size f F).kindOf (L.zip us) λ_=>jp) s1):
  Inv (jR M P w K G l N qual d f F A outer s H E) [] (start N V) H s1:=by
 let d3:L.Z<=N.Z:=by have:=fe rN S.pre;rw[jh]at this;lia
 let#[B,U,2,I]:=x.done;let D:∀b:Addr,b∉(jR M P w K G l N qual d f F A outer s H E).ex:=λb z=>bt (show b∈([]:bS)from z) xg;show#[#[m.mod,S.kind,2,2,b7 _,λy z c B g=>?_,λy t=>?_,λy c _ h=>?_,λ_=>R,Around.frames_deeper m.frames,.inr #[2,2],λb z=>bt z (D b),m.bs,m.tG,λb _ _=>D b,λb z=>bt z (D b),m.l5,m.vb],
  rfl,m.bare,iv.kept I,#[_,x.toInCall.ns,λi y v B g T=>?_],λy c h=>#[_,x.cell y c h],m.bu.fresh (b7 _),λy c h=>?_,λp o=>bt (show p∈([]:dJ)from o) xg,m.bu.kept I,4]
 .exact name_of_addr x.apart (FA B) (FA g)
 .let t:d.names.lookup y=j3 .cell\/d.names.lookup y=j3 .free:=t;rcases t with t|t
  .exact Zq t
  exact bt rfl (S.awX _ (FA t))
 .exact n2 (x.above y c (FA h))
 .let C:i<V.Z:=by
   unfold start at g;by_cases C:i<V.Z
   .exact C
   rw[τ (by simpa using C)]at g;rw[ahS]at g;split at g<;>cases g
  let O:V[i]?=j3 v:=by
   unfold start at g;rw[JI (by simpa using C),cR]at g;cases e:V[i]? with
   |none=>rw[e]at g;cases g
   |some a=>rw[e]at g;cases g;rfl
  let#[u,J,Q]:=r.get O;let o:L[i]?=j3 y:=by rwa[<-S.pre,List.getElem?_take_of_lt qI]
  let j:L.Nodup:=by rw[<-S.pre];show-S.aA.sublist (Fa _ _)
  show#[u,Q,4];rcases S.par y (dm o)with k|k
  .exact .inl #[k,YE j o J k]
  let#[c,e]:=Zq (n:=s.L+1) k;show-.inr #[.inl k,c,e,4];let q:=x.cell y c e;rw[Yr j o J (by show d.names.lookup y≠_;rw[k];decide)]at q;show-q
 .exact m.bu.fresh (n2 (x.above y c (FA h)))
 unfold start;show _=N.Z;rw[c0,aM,P0]
 lia
def QB{K:aL}{j:b5}{c:Heap}{k:Nat}{f:Addr}{name:Str}{d:Arguments}{g:List Stmt}{di kx:Value}{d_:Option Addr}{nE:lX}{z:bE}{M:fx}(lk:K.lookup f=j3 #[kx,d_,.func (n3 name qual d g scope U di doc pm an h fI),nE])(mL:Fy K h qual=q4)(S:cJ N z scope)(len:∀l H Q E,M l H Q E->l.Z=z.Z)(ze:∀(A:ee)(a:List Env)(s:aS)(H:ag)(l:aV)(Q:aX)(E:bM),gD k (A.deeper (qW qual scope s.heap.objs.size f h))->M l H Q E->
   ∃t,gm (jR B P w K j c N qual scope f h A a s H E) g t/\t {cX:=λ_ H'=>Q .cf H',rt:=Q} (start N l) H):
  aH P w K j c B (k+1) f (n3 name qual d g scope U di doc pm an h fI) z M:=by
 show#[len,λA a s H args us l Q E C p X r O=>?_];let Y:=len _ _ _ _ O;let R:K.In s.Q:=p.mod.sJ.keeps λb o e=>(p.bs b o e).1;let F:s.heap.NoLimit:=p.mod.nolimit.keeps λb o e=>(p.bs b o e).1;let oA:∀y∈z.zip us,scope.names.lookup y.1=j3 .local\/(scope.names.lookup y.1=j3 .cell/\((abm (s.L+1) scope.names []).lookup y.1).isSome=q4):=λ⟨n,v⟩cd=>by
  rcases S.par n (Ε cd).1 with q|q
  .exact .inl q
  show-.inr #[q,ai8 _ _ _ (.inl q)]
 refine codeAny_call_function C.depth (R _ _ lk) rfl S.co S.gen rfl (PySem.W.codeRec_of R mL) (X _ _ _ _ ?_);show-wpAny_newFunctionEnv_cells S.kind oA λenv he T x=>?_;subst he;show#[F.keeps x.toInCall.keep,codeAny_func ?_];let#[t,Z,bf]:=ze A a s H l Q E (C.deeper _) O;let I:Inv (jR B P w K j c N qual scope f h A a s H E) [] (start N l) H T:=ajM S C.hd p Y r x;show-fC (Z [] T (start N l) H _ I bf) (λeQ G m=>?_) λe G m=>m;let L:∀{i:St}{H':ag}{v:V}{u:Value},Inv (jR B P w K j c N qual scope f h A a s H E) [] i H' G->RelV v u->Q v H'->O2 a P w H s Q u G:=
  λ{i H' v u}J D q=>#[v,H',J.os,J.bare,J.base,J.bu,D,q]
 cases eQ with
 |ret u=>
  let#[v,i,H',J,D,q]:=m;show-L J D q
 |next=>
  let#[i,H',J,q]:=m;exact L (v:=V.cf) (u:=fW) J rfl q
 |brk=>
  let#[6,_,q]:=m;show-iu q
 |cont=>
  let#[6,_,q]:=m;show-iu q
section
variable{X:bA}{x:Str}{p pos:Pos}{e:Expr}{es:hy}{t:gb}{id T:String}{r:List V->ag->aX->Prop}
def pP(r:List V->ag->aX->Prop)(t:gb):TE:=λb H Q=>t b H λc a=>r c a Q
def dp(g:ks X (.builtin id) r)(hm:X.mg x=jp)(l:iW x=j3 (.builtin id))(d:fN X (e::es) t)(m:jd X x:=by rfl)(A:x≠"__name__":=by decide)(L:(x==("__debug__":Str))=q9:=by decide)(w:dM (e::es) X.env=(q9,eval e X.env)::dM es X.env:=by rfl)(d3:(hr pos (dM es X.env)).any (·.1)=q9:=by rfl):bq X (.Call (.Name x p) (e::es) [] pos) (pP r t):=by intro a s b H Q I h;show-As (Ab I m hm l ?_ A L);show-aiR (bL (d pos a s b H _ I h) λi N K=>?_) w d3;let#[j,c,f,n,k]:=K;show-g a N b c j i Q f n k
def hS(g:ks X (.type T) r)(hm:X.mg x=jp)(l:iW x=j3 (.type T))(d:fN X (e::es) t)(m:jd X x:=by rfl)(A:x≠"__name__":=by decide)(L:(x==("__debug__":Str))=q9:=by decide)(w:dM (e::es) X.env=(q9,eval e X.env)::dM es X.env:=by rfl)(d3:(hr pos (dM es X.env)).any (·.1)=q9:=by rfl):bq X (.Call (.Name x p) (e::es) [] pos) (pP r t):=by intro a s b H Q I h;show-As (Ab I m hm l ?_ A L);show-Qm (bL (d pos a s b H _ I h) λi N K=>?_) w d3;let#[j,c,f,n,k]:=K;show-g a N b c j i Q f n k
end
end aq
namespace eD
open PySem PyProof.Rows
def lexLt:List Int->List Int->Bool
 |[],[]=>q9
 |[],_::_=>q4
 |_::_,[]=>q9
 |x::xs,y::e=>if x=y then lexLt xs e else decide (x<y)
section
variable{prog:cq}{w:bW}{A:ee}{E:cC}{s:aS}
def ati{t:Addr}{c a:dR}{Q:cC}(q:o5 s.heap t c.toArray)(i:o5 s.heap b a.toArray)(r:c≠[])(j:a=[]->Q (.ref t) s)(o:a≠[]->Q (.ref s.L) {s with heap:=s.heap.push {cls:=.type "tuple",data:=.seq (c++a).toArray}})(hsz:c.Z+a.Z<=sizeLine):aO (ba prog w) A (r4 .Add (.ref t) (.ref b)) Q E s:=by
 let#[#[cls,K,data,p],aW,m,n,N]:=id q;let#[#[h,d,data2,k],g,l,L,V]:=id i;simp only at m N l V;subst m N l V;let e:c.toArray++a.toArray=(c++a).toArray:=by simp
 by_cases f:a=[]
 .exact concat_meets #[_,aW,2] #[_,g,2] awV seq_tuple_add ai0 aiW (aiU _ _)
   (tuple_addW1 t b c.toArray a.toArray n L K d p k (by simpa using r) (by simp[f])) #[aW,g,j f]
 refine concat_meets #[_,aW,2] #[_,g,2] awV seq_tuple_add ai0 aiW (aiU _ _)
  (tuple_addW2 t b c.toArray a.toArray n L K d p k (by simpa using r) (by simpa using f) (by rw[f',f'];show-hsz)) #[aW,g,4]
 rw[e];show-o f
def dD(n d:Nat):Option Int->Nat
 |none=>d
 |some v=>if v<0 then(v+(n:Int)).toNat else min v.toNat n
def Ng(n d:Nat):dD n d jp=d:=(rfl)
def D1(n d k:Nat):dD n d (j3 (k:Int))=min k n:=by show(if(k:Int)<0 then((k:Int)+(n:Int)).toNat else min (k:Int).toNat n)=min k n;rw[a4 qI,jf]
def Wc(n d:Nat)(b:d<=n)(o:Option Int):dD n d o<=n:=by
 cases o with
 |none=>show-b
 |some v=>
  show(if v<0 then(v+(n:Int)).toNat else min v.toNat n)<=n;by_cases a:v<0
  .rw[a' a];lia
  rw[a4 a];show-BA _ _
def R6(a n:Nat):((min a n:Nat):Int)=min (a:Int) (n:Int):=by
 rcases aiy a n with h|h
 .rw[Bz h,agy (agB.mpr h)]
 rw[Í h,Int.min_eq_right (agB.mpr h)]
def Á(v:Int)(n d:Nat):(if v<0 then max (v+(n:Int)) 0 else min v (n:Int))=((dD n d (j3 v):Nat):Int):=by
 show _=(((if v<0 then(v+(n:Int)).toNat else min v.toNat n):Nat):Int);by_cases h:v<0
 .rw[a' h,a' h,agD]
 rw[a4 h,a4 h,R6,la (ZJ.mp h)]
def agM(lo a:Option Int)(n:Nat):Yp lo a 1 (n:Int)=(((dD n 0 lo:Nat):Int),((dD n n a:Nat):Int)):=by
 let b:¬((1:Int)<0):=by lia
 unfold Yp;simp only[b,if_false];show-BG ?_ ?_
 .cases lo with
  |none=>rfl
  |some v=>show-Á v n 0
 cases a with
 |none=>rfl
 |some v=>show-Á v n n
def agN(i j:Nat):OZ (i:Int) (j:Int) 1=j-i:=by
 unfold OZ;rw[a' x8];by_cases h:i<j
 .rw[a' (agC.mpr h),Int.ediv_one,Int.sub_add_cancel,<-Int.ofNat_sub (n2 h)];rfl
 rw[a4 (λz=>h (agC.mp z)),JR (JQ.mp h)];rfl
def afk{o:Option Int}{Q:Option Int->aS->Prop}(p:xV v o)(h:Q o s):aO (ba prog w) A (azw v) Q E s:=by
 cases p with
 |none=>show-ax1 h
 |int i t=>show-slicePart_int h
def ay2{lo a:Option Int}{n:Nat}{Q:Int×Int×Nat->aS->Prop}(d:s.heap.IsSliceOf j e i .none)(pl:xV e lo)(f:xV i a)(h:Q (((dD n 0 lo:Nat):Int),1,dD n n a-dD n 0 lo) s):aO (ba prog w) A (afM (.ref j) (pure (n:Int))) Q E s:=by let#[os,c,g,b]:=id d;unfold afM azv;show-ax (ax (kb c b (x:=e) rfl (ax (kb c b (x:=i) rfl (ax (kb c b (x:=.none) rfl (bk ?_)))))));show-ax (ax1 ?_);show aO _ _ (if((1:Int)==0)=q4 then _ else _) _ _ s;rw[a4 x8];show-ax (afk pl (ax (afk f (ax (bk ?_)))));show aO _ _ (match Yp lo a 1 (n:Int)with|(lo,a)=>pure (lo,(1:Int),OZ lo a 1)) _ _ s;rw[agM lo a n];show aO _ _ (pure (((dD n 0 lo:Nat):Int),(1:Int),OZ ((dD n 0 lo:Nat):Int) ((dD n n a:Nat):Int) 1)) _ _ s;rw[agN];show-bk h
def aky(a:lY)(i k:Nat):((dY k).filterMap λ(m:Nat)=>a[((i:Int)+(m:Int)*1).toNat]?).toArray=((a.toList.drop i).take k).toArray:=by
 let e:(λ(m:Nat)=>a[((i:Int)+(m:Int)*1).toNat]?)=λm=>a[i+m]?:=by
  funext m;have:((i:Int)+(m:Int)*1).toNat=i+m:=by lia
  rw[this]
 rw[e];have:=pick_run a i k;rw[List.filterMap_map]at this;let b:((λx=>a[x]?)∘λx=>i+x)=λm=>a[i+m]?:=rfl;rw[b]at this;rw[this]
def auu{t:Addr}{a:lY}{lo b:Option Int}{Q:cC}(d:o5 s.heap t a)(g:s.heap.IsSliceOf e i j .none)(pl:xV i lo)(p:xV j b)(l:¬(dD a.size 0 lo=0/\dD a.size a.size b=a.size))(h:Q (.ref s.L) {s with heap:=s.heap.push {cls:=.type "tuple",data:=.seq ((a.toList.drop (dD a.size 0 lo)).take (dD a.size a.size b-dD a.size 0 lo)).toArray}})(hsz:a.size<=sizeLine):aO (ba prog w) A (wJ (.ref t) (.ref e)) Q E s:=by
 let c:sizeOk (.seq ((a.toList.drop (dD a.size 0 lo)).take (dD a.size a.size b-dD a.size 0 lo)).toArray):=by show((a.toList.drop (dD a.size 0 lo)).take (dD a.size a.size b-dD a.size 0 lo)).toArray.size<=sizeLine;rw[f',jh,rO,I1];show-dQ (BA _ _) (dQ (aiD _ _) hsz)
 let L:dD a.size a.size b<=a.size:=Wc _ _ (b7 _) b;let#[os,r,k,V]:=id g;let f:s.TypeIs (.ref e) "slice":=#[os,r,k]
 unfold wJ
 try with_reducible show-nQ ?_
 first|refine ax (bk ?_)|skip
 show-ax (wpAny_sequenceKey d.typeIs x8 ?_);show-ax (xB (name:=cU "__getitem__") d.typeIs Ĉ
  (nP Ĉ d.typeIs entry_tuple_getitem ?_ (args_tuple_getitem _ _)))
 show aO _ _ (azx (.ref t) >>=_) _ _ s;show-ax (tupleItemsOf_ d ?_);show-ax (wpAny_typeOf f ?_);rw[a' x8];show-ax (ay2 g pl p ?_);let n:¬((((dD a.size 0 lo:Nat):Int)==0&&(1:Int)==1&&(dD a.size a.size b-dD a.size 0 lo)==a.size)=q4):=by intro q;rw[hN,hN]at q;let K:((dD a.size 0 lo:Nat):Int)=0:=eq_of_beq q.1.1;let N:dD a.size a.size b-dD a.size 0 lo=a.size:=eq_of_beq q.2;show-l #[9,9]
 show aO _ _ (if(((dD a.size 0 lo:Nat):Int)==0&&(1:Int)==1&&(dD a.size a.size b-dD a.size 0 lo)==a.size)=q4 then _ else _) _ _ s;rw[a4 n,aky]
 first
  |show-ax (m:=O1 _) (pW (bk ⟨_,rfl,bk h⟩) c)
  |show-ax (m:=O1 _) (pW (ax (bk (bk ⟨_,rfl,bk h⟩))) c)
  |show-ax (ax (m:=O1 _) (pW (bk (bk ⟨_,rfl,bk h⟩)) c))
  |show-ax (ax (m:=O1 _) (pW (bk ⟨_,rfl,bk h⟩) c))
end
end eD
namespace aq
open PySem PySem.Spec PyProof.Rows
abbrev f6:=St->ag->(Option Int->ag->Prop)->Prop
def BF(X:bA)(e:Option Expr)(t:f6):Prop:=
 ∀(a:dJ)(s:aS)(b:St)(H:ag)(Q:Option Int->ag->Prop),Inv X a b H s->t b H Q->
  aO (ba X.prog X.w) X.A (evalPart e X.env) (λu c=>∃o H',Inv X a b H' c/\xV u o/\Q o H') X.dw s
def alS:f6:=λ_ H Q=>Q jp H
def aps(t:TE):f6:=λb H Q=>t b H λx a=>∃i,x=.int i/\Q (j3 i) a
section
variable{X:bA}{e:Expr}{bO:TE}{lo hi:Option Expr}{dv oS:f6}{pos dI:Pos}
def mJ:BF X jp alS:=by intro a s b H Q I h;rw[evalPart_none];show-bk #[jp,H,I,.none,h]
def kn(h:bq X e bO):BF X (j3 e) (aps bO):=by intro a s d H Q I k;rw[evalPart_some];show-bL (h a s d H _ I k) λu m l=>?_;let#[x,b,c,g,f]:=l;let#[i,2,q]:=f;let#[t,2]:=g;show#[j3 i,b,c,.int i t,q]
def Kk(X:bA)(r:V->Option Int->Option Int->ag->aX->Prop):Prop:=
 ∀(a:dJ)(s:aS)(b:St)(H:ag)(x:V)(v d f:Value)(lo hi:Option Int)(c:Addr)(Q:aX),Inv X a b H s->RelV x v->s.heap.IsSliceOf c d f .none->xV d lo->xV f hi->r x lo hi H Q->
  ∃T id,typeLookup (.type T) "__getitem__"=pure (j3 (.builtin id))/\s.TypeIs v T/\aO (ba X.prog X.w) X.A (wJ v (.ref c)) (ir X a b Q) X.dw s
def ayf(r:V->Option Int->Option Int->ag->aX->Prop)(bO:TE)(dv oS:f6):TE:=λa H Q=>bO a H λx b=>dv a b λl d=>oS a d λu c=>r x l u c Q
def mG{r:V->Option Int->Option Int->ag->aX->Prop}(w:Kk X r)(B:bq X e bO)(A:BF X lo dv)(y:BF X hi oS):bq X (.Subscript e (.Slice lo hi jp dI) pos) (ayf r bO dv oS):=by intro a s d H Q I h;show-Qy (bL (B a s d H _ I h) λv G f=>?_);let#[x,n,p,z,N]:=f;show-wpAny_Slice (bL (A a G d n _ p N) λg J f=>?_);let#[l,t,L,pl,j]:=f;show-bL (y a J d t _ L j) λk c f=>?_;let#[u,m,o,F,D]:=f;rw[evalPart_none];show-bk ?_;let E:Inv X a d m {c with heap:=c.heap.push {cls:=.type "slice",data:=.fields (List.toArray [g,k,.none])}}:=o.kept (t':=c.toks) λb M q=>dO _ q;let#[T,id,C,K,i]:=w a {c with heap:=c.heap.push {cls:=.type "slice",data:=.fields (List.toArray [g,k,.none])}} d m x v g k l u c.heap.objs.size Q E z (agl ..) pl F D;show aO (ba X.prog X.w) X.A (WA e (.Slice lo hi jp dI) v (.ref c.L)) (ir X a d Q) X.dw {c with heap:=c.heap.push {cls:=.type "slice",data:=.fields (List.toArray [g,k,.none])}};show-tail_any (ops:=[.ref c.L,v]) K C i (by with_unfolding_all rfl)
def gg(a:aV)(lo hi:Option Int):List V:=(a.drop (eD.dD a.length 0 lo)).take (eD.dD a.length a.length hi-eD.dD a.length 0 lo)
def MX(a:aV)(lo hi:Option Int):(gg a lo hi).Z<=a.Z:=by unfold gg;rw[jh,rO];show-dQ (BA _ _) (aiD _ _)
inductive arL(K:aL)(x:V)(lo:(Option Int))(hi:(Option Int))(H:ag)(Q:aX):Prop where
 |mk(a:_)(xs:_)(_:x=.ref a)(_:cj K H a xs)(_:¬(eD.dD xs.length 0 lo=0/\eD.dD xs.length xs.length hi=xs.Z))(_:∀p,H p=jp->Q (.ref p) (upd H p (.tup (gg xs lo hi))))
def ĥ:Kk X (arL X.K):=by
 intro l s A H x v L N lo hi K Q I n p pl w h;let#[a,d,2,m,t,q]:=h;cases n;let#[f,r,g,k]:=I.tuple m;let c:f.toArray.size=d.Z:=by rw[f'];show-r.length.J
 show#["tuple",_,Ĉ.lookup,g.typeIs,4];show-eD.auu g p pl w (by rwa[c]) ?_ (by rwa[c]);rw[c];show#[.ref s.L,_,I.laid (t':=s.toks) (o:=.tup (gg d lo hi)) (λb V q=>dO _ q) (b7 _) ?_,2,q _ (I.bu.fresh (b7 _))];show#[dQ (MX d lo hi) k,_,(r.drop (eD.dD d.length 0 lo)).take (eD.dD d.length d.length hi-eD.dD d.length 0 lo),ZO _ _]
inductive apt(K:aL)(x:aq.V)(y:aq.V)(H:ag)(Q:aX):Prop where
 |mk(a:_)(b:_)(xs:_)(ys:_)(_:x=.ref a)(_:y=.ref b)(_:cj K H a xs)(_:cj K H b ys)(_:xs≠[])(_:xs.Z+ys.Z<=sizeLine)(_:(ys=[]->Q (.ref a) H))(_:(ys≠[]->∀p,H p=jp->Q (.ref p) (upd H p (.tup (xs++ys)))))
def cI.Vp(r:cI xs us):us=[]↔xs=[]:=by
 cases r with
 |nil=>simp
 |cons _ _=>simp
def alT:g5 X (r4 .Add) (apt X.K):=by intro g s V H x y v u Q I p t h;let#[a,b,L,N,2,2,k,l,m,f,n,r]:=h;cases p;cases t;let#[K,d,A,_]:=I.tuple k;let#[j,c,dI,_]:=I.tuple l;show-eD.ati A dI (λz=>m (d.Vp.mp z)) (λz=>#[.ref a,H,I,2,n (c.Vp.mp z)]) (λz=>?_) (by rwa[<-d.Z,<-c.Z]);show#[.ref s.L,_,I.laid (t':=s.toks) (o:=.tup (L++N)) (λb i q=>dO _ q) (b7 _) ?_,2,r (λw=>z (c.Vp.mpr w)) _ (I.bu.fresh (b7 _))];show#[by rwa[c0],_,d.append c,ZO _ _]
def t5(n:Nat)(i:Int):Option Nat:=if 0<=i then(if i<n then j3 i.X else jp)else if -(n:Int)<=i then j3 (i+n).toNat else jp
def hp{b:Type}(a:List b)(i:Int):Option b:=(t5 a.length i).bind λj=>a[j]?
end
def alU{n:Nat}{i:Int}{j:Nat}(h:t5 n i=j3 j):seqIndex? i n=j3 j/\j<n/\-(n:Int)<=i/\i<n:=by
 unfold t5 at h;by_cases b:0<=i
 .rw[a' b]at h;by_cases a:i<n
  .rw[a' a]at h;let e:i.X=j:=gk h;show#[by rw[seqIndex_of b a,e],9,9,a]
  rw[a4 a]at h;cases h
 rw[a4 b]at h;by_cases a:-(n:Int)<=i
 .rw[a' a]at h;let e:(i+n).toNat=j:=gk h;show#[by rw[seqIndex_neg qI a,e],9,a,9]
 rw[a4 a]at h;cases h
def O9{b:Type}{a:List b}{i:Int}{v:b}(h:hp a i=j3 v):∃j,seqIndex? i a.Z=j3 j/\a[j]?=j3 v/\j<a.Z/\-(a.Z:Int)<=i/\i<a.Z:=by
 unfold hp at h;cases e:t5 a.length i with
 |none=>rw[e]at h;cases h
 |some j=>
  rw[e]at h;let#[d,f,c,g]:=alU e;show#[j,d,h,f,c,g]
def jG{b:Type}{a:List b}{j:Nat}{v:b}(h:a[j]?=j3 v):hp a (j:Int)=j3 v:=by
 let c:j<a.Z:=(fU.mp h).1;let e:t5 a.length (j:Int)=j3 j:=by unfold t5;rw[a' qI,a' qI];simp
 unfold hp;rwa[e]
def Zr{b:Type}(a:List b)(v:b):hp (a++[v]) (-1)=j3 v:=by
 let c:(a++[v]).Z=a.Z+1:=by simp
 let e:t5 (a++[v]).length (-1)=j3 a.Z:=by
  unfold t5;rw[c,a4 x8,a' qI];congr 1
  lia
 unfold hp;rw[e];show(a++[v])[a.Z]?=j3 v;simp
def alV(b:Expr):Prop:=∀o i,WB b q9 o i=operate [o,i] (wJ o i)
def Bc(X:bA)(r:n5):Prop:=
 ∀(c a:Expr)(b:dJ)(s:aS)(d:St)(H:ag)(x y:V)(v u:Value)(Q:aX),Inv X b d H s->RelV x v->RelV y u->r x y H Q->
  WB a q9 v u=operate [v,u] (wJ v u)->aO (ba X.prog X.w) X.A (WA c a v u) (ir X b d Q) X.dw s
def Bw(X:bA)(id:String)(r:V->List V->ag->aX->Prop):Prop:=
 ∀(a:dJ)(s:aS)(b:St)(H:ag)(x:V)(d:aV)(v:Value)(c:dR)(Q:aX),Inv X a b H s->RelV x v->cI d c->r x d H Q->
  aO (ba X.prog X.w) X.A (call (.builtin id) (v::c)) (ir X a b Q) X.dw s
section
variable{X:bA}{a b:Expr}{ck tb:TE}{pos:Pos}
def cn{r:n5}(l:Bc X r)(d:bq X a ck)(g:bq X b tb)(t:alV b:=by intro _ _;rfl):bq X (.Subscript a b pos) (Ie r ck tb):=by intro c s f H Q I h;show-Qy (Rg d g I h λv u w x y k m n p q=>l a b c w f k x y v u Q m n p q (t _ _))
inductive aaA(K:aL)(x:aq.V)(y:aq.V)(H:ag)(Q:aX):Prop where
 |mk(p:_)(xs:_)(i:_)(v:_)(_:x=.ref p)(_:y=.int i)(_:aI K H p xs)(_:hp xs i=j3 v)(_:Q v H)
inductive aaB(K:aL)(x:aq.V)(y:aq.V)(H:ag)(Q:aX):Prop where
 |mk(p:_)(xs:_)(i:_)(v:_)(_:x=.ref p)(_:y=.int i)(_:cj K H p xs)(_:hp xs i=j3 v)(_:Q v H)
inductive arM(x:aq.V)(y:aq.V)(H:ag)(Q:aX):Prop where
 |mk(z:_)(i:_)(c:_)(_:x=.str z)(_:y=.int i)(_:z.Z<=sizeLine)(_:hp z.cps.toList i=j3 c)(_:Q (.str ⟨#[c]⟩) H)
def fG:Bc X (aaA X.K):=by
 intro m l c s n H x y v u Q I B C h L;let#[p,P,i,z,2,2,o,E,q]:=h;cases B;let#[t,2]:=C;let#[k,r,pl,O]:=I.list o;let#[j,f,N,J,e,D]:=O9 E;let#[w,K,F]:=r.get N;let V:=r.Z;let M:=Eh;let d:ir X c n Q w s:=#[z,H,I,F,q]
 by_cases A:0<=i
 .let g:i.X=j:=by rw[seqIndex_of A D]at f;show-gk f
  show-item_listR pl.isList A qI (by rw[g];simpa using K) d L
 let g:(i+(k.toArray.size:Int)).toNat=j:=by rw[seqIndex_neg qI e]at f;rw[f',<-V];show-gk f
 exact ax7 (x:=w) pl.isList.typeIs ael.lookup
  (wpAny_getItem_list_neg (Q:=λr G=>r=w/\ir X c n Q r G) pl.isList qI (by rw[f']<;>lia) qI (by rw[g];simpa using K) #[2,d]) L
def ey:Bc X (aaB X.K):=by
 intro g f c s k H x y v u Q I K L h e;let#[p,M,i,z,2,2,A,V,q]:=h;cases K;let#[t,2]:=L;let#[o,r,pl,J]:=I.tuple A;let#[j,l,m,D,E,F]:=O9 V;let#[w,N,B]:=r.get m;let n:=r.Z;let G:=Eh;let d:ir X c k Q w s:=#[z,H,I,B,q]
 exact ax7 (x:=w) pl.typeIs slot_tuple_getitem.lookup
  (getItem_tuple (j:=j) (Q:=λr C=>r=w/\ir X c k Q r C) pl qI qI (by rwa[f',<-n]) (by simpa using N) #[2,d]) e
def ħ:Bc X arM:=by
 intro f d k s e H x y v u Q I w A h N;let#[z,i,c,2,2,B,L,q]:=h;let#[t,2]:=w;let#[C,2]:=A;let#[j,g,n,V,r,K]:=O9 L;let p:z.cps.toList.Z=z.Z:=by simp[Ĭ]
 rw[p]at g r K;let o:=Eh;show-tail_any (Ii s z t) slot_str_getitem.lookup (getItem_str (c:=c) (by
  let m:decide (i < -(2 ^ 63:Int))=q9:=c9 qI;let l:decide (i≥2 ^ 63)=q9:=c9 qI;rw[m,l,Bool.or_false]) (by rw[g];simpa using n) #[.str ⟨#[c]⟩,H,I.tok _,#[1],q]) N
def R9(i:Int)(n d:Nat):max 0 (min (if i<0 then i+(n:Int)else i) (n:Int))=((eD.dD n d (j3 i):Nat):Int):=by
 show _=(((if i<0 then(i+(n:Int)).toNat else min i.toNat n):Nat):Int);by_cases h:i<0
 .rw[a' h,a' h,agy (ZH (Int.add_le_add_right (ZG h) _) (Int.le_of_eq (vY _))),agD,Int.max_comm]
 let c:0<=i:=ZJ.mp h;rw[a4 h,a4 h,eD.R6,la c,agx (agw.mpr #[c,PB _])]
def af1(lo c:Option Int)(n:Nat):(ug lo c jp n).1=((eD.dD n 0 lo:Nat):Int)/\(ug lo c jp n).2.1=((eD.dD n n c:Nat):Int)/\(ug lo c jp n).2.2=1:=by
 show#[4,4,2]
 .cases lo with
  |none=>rfl
  |some i=>show-R9 i n 0
 cases c with
 |none=>rfl
 |some i=>show-R9 i n n
def afv(c:dR)(lo d:Option Int):Wn c.toArray lo d jp=((c.drop (eD.dD c.length 0 lo)).take (eD.dD c.length c.length d-eD.dD c.length 0 lo)).toArray:=by let#[g,k,f]:=af1 lo d c.toArray.size;unfold Wn;rw[g,k,f];simp only[ax2,pick_run,f']<;>rfl
inductive aaC(K:aL)(x:V)(lo:(Option Int))(hi:(Option Int))(H:ag)(Q:aX):Prop where
 |mk(a:_)(xs:_)(_:x=.ref a)(_:aI K H a xs)(_:∀p,H p=jp->Q (.ref p) (upd H p (.lst (gg xs lo hi))))
def qh:Kk X (aaC X.K):=by intro k s A H x v L N lo f K Q I m n pl w h;let#[a,c,2,l,q]:=h;cases m;let#[t,r,g,p]:=I.list l;let d:=r.Z;show#["list",_,ael.lookup,g.isList.typeIs,4];show-ayM g.isList n pl w .none xg ?_ (by rw[f']<;>lia);rw[afv,<-d];show#[.ref s.L,_,I.laid (t':=s.toks) (o:=.lst (gg c lo f)) (λb V q=>dO _ q) (b7 _) ?_,2,q _ (I.bu.fresh (b7 _))];show#[dQ (MX c lo f) p,_,0,(r.drop (eD.dD c.length 0 lo)).take (eD.dD c.length c.length f-eD.dD c.length 0 lo),gJ _ rfl]
def s7:V->Bool
 |.cf=>q4
 |.bo _=>q4
 |.int _=>q4
 |.str _=>q4
 |_=>q9
def wB:V->V->Bool
 |.cf,.cf=>q4
 |.bo a,.bo b=>a==b
 |.bo a,.int b=>(if a then 1 else 0)==b
 |.int a,.bo b=>a==(if b then 1 else 0)
 |.int a,.int b=>a==b
 |.str a,.str b=>a==b
 |_,_=>q9
def anH(f:RelV y u)(c:RelV x v)(k:s7 y=q4)(g:s7 x=q4):akq A s u v (wB y x):=by
 cases y with
 |cf=>
  cases f;cases x with
  |cf=>cases c;show-SeqAt.EqAt.same _
  |bo b=>cases c;show-SeqAt.EqAt.none_bool b
  |int b=>let#[t,2]:=c;show-SeqAt.EqAt.none_int b t
  |str b=>let#[t,2]:=c;show-SeqAt.EqAt.none_str b t
  |_=>show-bt (show q9=q4 from g) gZ
 |bo a=>
  cases f;cases x with
  |cf=>cases c;show-SeqAt.EqAt.bool_none a
  |bo b=>cases c;show-SeqAt.EqAt.bool_bool a b
  |int b=>let#[t,2]:=c;show-SeqAt.EqAt.bool_int a b t
  |str b=>let#[t,2]:=c;show-SeqAt.EqAt.bool_str a b t
  |_=>show-bt (show q9=q4 from g) gZ
 |int a=>
  let#[d,2]:=f;cases x with
  |cf=>cases c;show-SeqAt.EqAt.int_none a d
  |bo b=>cases c;show-SeqAt.EqAt.int_bool a d b
  |int b=>let#[t,2]:=c;show-SeqAt.EqAt.int_int a d b t
  |str b=>let#[t,2]:=c;show-akr a d b t
  |_=>show-bt (show q9=q4 from g) gZ
 |str a=>
  let#[d,2]:=f;cases x with
  |cf=>cases c;show-SeqAt.EqAt.str_none a d
  |bo b=>cases c;show-SeqAt.EqAt.str_bool a d b
  |int b=>let#[t,2]:=c;show-aks a d b t
  |str b=>let#[t,2]:=c;show-SeqAt.EqAt.str_str a d b t
  |_=>show-bt (show q9=q4 from g) gZ
 |_=>show-bt (show q9=q4 from k) gZ
def ov(x:V)(u:Value):Bool:=match u with
 |.none=>wB .cf x
 |.bool b=>wB (.bo b) x
 |.int i _=>wB (.int i) x
 |.str z _=>wB (.str z) x
 |_=>q9
def Ĩ(r:RelV y u)(f:s7 y=q4):ov x u=wB y x:=by
 cases y with
 |cf=>cases r;rfl
 |bo b=>cases r;rfl
 |int i=>let#[t,2]:=r;rfl
 |str z=>let#[t,2]:=r;rfl
 |_=>show-bt (show q9=q4 from f) gZ
def Oo{c:aV}{d:dR}(h:cI c d)(f:c.all s7=q4):d.any (ov x)=c.any λy=>wB y x:=by
 induction h with
 |nil=>rfl
 |cons r _ e=>
  rw[ξ,hN]at f;rw[JE,JE,Ĩ r f.1,e f.2]
theorem Ia(k:RelV x v)(l:s7 x=q4):∀{g:aV}{d:dR},cI g d->g.all s7=q4->∀u∈d,akq A s u v (ov x u)
 |_,_,.nil,_=>λu c=>by cases c
 |y::g,u::d,.cons r t,f=>λm c=>by
  rw[ξ,hN]at f;rcases et.mp c with rfl|c
  .rw[Ĩ r f.1];show-anH r k f.1 l
  show-Ia k l t f.2 m c
def q8(x:V)(c:aV):Bool:=c.any λy=>wB y x
inductive ad7(K:aL)(neg:Bool)(x:aq.V)(y:aq.V)(H:ag)(Q:aX):Prop where
 |mk(p:_)(xs:_)(_:y=.ref p)(_:(aI K H p xs\/cj K H p xs))(_:s7 x=q4)(_:xs.all s7=q4)(_:Q (.bo (if neg then !q8 x xs else q8 x xs)) H)
def N0:g5 X (jl .In) (ad7 X.K q9):=by
 intro m s A H x y v u Q I k n h;let#[p,K,2,d,l,f,q]:=h;cases n;rcases d with d|d
 .let#[c,r,pl,t]:=I.list d;show-SeqAt.in_listAt (ov x) pl.isList (λw g=>Ia k l r f w (by simpa using g)) #[.bo _,H,I,2,4];rwa[show c.toArray.any (ov x)=c.any (ov x) by simp,Oo r f]
 let#[c,r,pl,t]:=I.tuple d;show-SeqAt.in_tupleAt (ov x) pl (λw g=>Ia k l r f w (by simpa using g)) #[.bo _,H,I,2,4];rwa[show c.toArray.any (ov x)=c.any (ov x) by simp,Oo r f]
def aeJ:g5 X (jl .NotIn) (ad7 X.K q4):=by
 intro m s A H x y v u Q I k n h;let#[p,K,2,d,l,f,q]:=h;cases n;rcases d with d|d
 .let#[c,r,pl,t]:=I.list d;show-SeqAt.notIn_listAt (ov x) pl.isList (λw g=>Ia k l r f w (by simpa using g)) #[.bo _,H,I,2,4];rwa[show c.toArray.any (ov x)=c.any (ov x) by simp,Oo r f]
 let#[c,r,pl,t]:=I.tuple d;show-SeqAt.notIn_tupleAt (ov x) pl (λw g=>Ia k l r f w (by simpa using g)) #[.bo _,H,I,2,4];rwa[show c.toArray.any (ov x)=c.any (ov x) by simp,Oo r f]
inductive aaD(K:aL)(xs:aV)(H:ag)(Q:aX):Prop where
 |mk(p:_)(ys:_)(_:xs=[.ref p])(_:(aI K H p ys\/cj K H p ys))(_:Q (.int ys.Z) H)
def hI:ks X (.builtin "len") (aaD X.K):=by
 intro k s t H K A Q I r h;let#[p,l,2,d,q]:=h;let#[u,2,m]:=vals1 r;cases m;let w:=Eh;rcases d with d|d
 .let#[g,f,pl,n]:=I.list d;let c:=f.Z;show-Calls.call_len_list pl.isList (by simp only[f']<;>lia) #[.int l.Z,H,I.tok _,#[s.toks+1,by rw[f',c]],q]
 let#[g,f,pl,n]:=I.tuple d;let c:=f.Z;show-len_tuple pl (by simp only[f']<;>lia) #[.int l.Z,H,I.tok _,#[s.toks+1,by rw[f',c]],q]
def V1:ks X (.builtin "len") (λd H Q=>∃z,d=[.str z]/\z.Z<=sizeLine/\Q (.int z.Z) H):=by intro c s f H d l Q I r h;let#[z,2,k,q]:=h;let#[u,2,t,2]:=vals1 r;let g:=Eh;show-len_str qI #[.int z.Z,H,I.tok _,#[1],q]
def CJ:ks X (.type "list") (λj H Q=>∃p k,j=[.ref p]/\(aI X.K H p k\/cj X.K H p k)/\∀l,H l=jp->Q (.ref l) (upd H l (.lst k))):=by
 intro L s x H j z Q I r h;let#[p,k,2,m,q]:=h;let#[u,2,y]:=vals1 r;cases y;let w:∀(c:dR),cI k c->k.Z<=sizeLine->∀(d:Heap)(g:Nat),(∀b i,s.heap.get? b=j3 i->d.get? b=j3 i)->
   d.get? s.L=j3 {cls:=.type "list",dict:=jp,data:=.seq c.toArray g,slots:=#[]}->ir X L x Q (.ref s.L) {s with heap:=d}:=λc f K d g t e=>
  #[.ref s.L,_,I.laid (t':=s.toks) t (b7 _) (show e9 X.prog X.w _ d _ (.lst k)from#[K,c,g,f,e]),2,q _ (I.bu.fresh (b7 _))]
 rcases m with m|m
 .let#[c,f,pl,K]:=I.list m;let A:=f.Z;let#[o,aW,N,n,V]:=pl.isList;show-call_list_seq p (.inl rfl) aW N V (λd g t e=>w c f K d g t e) (by simp only[f']<;>lia)
 let#[c,f,pl,K]:=I.tuple m;let A:=f.Z;let#[o,aW,N,n,V]:=pl;show-call_list_seq p (.inr rfl) aW N V (λd g t e=>w c f K d g t e) (by simp only[f']<;>lia)
def VX:ks X (.type "tuple") (λK H Q=>∃p f,K=[.ref p]/\((aI X.K H p f/\∀l,H l=jp->Q (.ref l) (upd H l (.tup f)))\/(cj X.K H p f/\Q (.ref p) H))):=by
 intro c s t H K i Q I r h;let#[p,f,2,h]:=h;let#[u,2,N]:=vals1 r;cases N;rcases h with⟨k,q⟩|⟨k,q⟩
 .let#[d,m,pl,A]:=I.list k;let w:=m.Z;show-call_tuple_list pl.isList (λg V=>?_) (by simp only[f']<;>lia);let n:Inv X c t H {s with heap:=g}:=I.kept (t':=s.toks) V;let L:Inv X c t (upd H g.objs.size (.tup f)) {s with heap:=g.push {cls:=.type "tuple",data:=.seq d.toArray}}:=
   n.laid (t':=s.toks) (λb o e=>dO _ e) (b7 _) (show e9 X.prog X.w _ _ _ (.tup f)from#[A,d,m,ZO _ _])
  show#[.ref g.Y,_,L,2,q _ (n.bu.fresh (b7 _))]
 let#[d,m,pl,A]:=I.tuple k;show-call_tuple_same pl #[.ref p,H,I,2,q]
def aeE(K:aL)(T:String)(x:V)(H:ag):Prop:=match x with
 |.str _=>T="str"
 |.int _=>T="int"
 |.ref p=>(T="list"/\∃d,aI K H p d)\/(T="tuple"/\∃o,K.lookup p=j3 o/\o.cls=.type "tuple"/\o.dict=jp)\/
   (T="dict"/\((∃c,H p=j3 (.cZ c))\/∃c,H p=j3 (.c3 c)))\/(T="set"/\∃S n,H p=j3 (.set S n))
 |_=>False
def anI{s:aS}(I:Inv X pins j H s)(r:RelV x v)(ty:aeE X.K T x H):
  s.TypeIs v T/\∀a,v=.ref a->∃m,s.heap.get? a=j3 m/\m.dict=jp:=by
 cases x with
 |str z=>
  let#[t,2]:=r;cases(show T="str" from ty);show#[Ii s z t,λ_ e=>nomatch e]
 |int i=>
  let#[t,2]:=r;cases(show T="int" from ty);show#[aeF s i t,λ_ e=>nomatch e]
 |ref p=>
  cases r;rcases ty with⟨rfl,K,w⟩|⟨rfl,o,d,h,k⟩|⟨rfl,d⟩|⟨rfl,S,n,d⟩
  .let#[A,_,pl,_]:=I.list w;show#[pl.isList.typeIs,λa e=>?_];cases e;let#[o,n,e,c,k,_]:=pl;show#[o,e,k]
  .show#[#[o,I.eN p o d,h],λa e=>?_];cases e;show#[o,I.eN _ o d,k]
  .let z:∃o,s.heap.get? p=j3 o/\o.ExactDict:=by
    rcases d with⟨l,d⟩|⟨l,d⟩
    .let#[6,6,o,6,e,f,_]:=I.bu p _ d;show#[o,e,f]
    let#[6,6,o,6,e,f,_]:=I.bu p _ d;show#[o,e,f]
   let#[o,e,f]:=z;show#[#[o,e,f.1],λa g=>?_];cases g;show#[o,e,f.2.1]
  let#[o,6,_,e,f,_]:=I.bu p _ d;show#[#[o,e,f.1],λa g=>?_];cases g;show#[o,e,f.2.1]
 |_=>show-iu ty
def ax9(K:aL)(T:String)(r:V->List V->ag->aX->Prop)(g:TE)(t:gb):TE:=λd H Q=>g d H λx c=>aeE K T x c/\t d c λk f=>r x k f Q
variable{o e:Expr}{es:hy}{to:TE}{t:gb}{name:Str}{fP gq:Pos}{T id:String}{r:V->List V->ag->aX->Prop}
def i3(B:PlainAttrs T)(d:Slot T name id)(J:typeOf (.builtin id)=pure (.type "method_descriptor"))(hm:Bw X id r)(aW:bq X o to)(L:fN X (e::es) t)(K:yK o name X.env (eval o X.env)=eval o X.env:=by rfl)(k:((hr gq (dM (e::es) X.env)).all (λx=>!x.1)&&(od gq (oH [] X.env)).all (λx=>x.1.isSome)
   && decide ((e::es).Z+([]:List x7).Z+(if([]:List x7).isEmpty then 0 else 1)<30))=q4:=by rfl)(A:(fP.endLine==gq.line)=q4:=by rfl)(C:dM (e::es) X.env=(q9,eval e X.env)::dM es X.env:=by rfl)(g:(hr gq (dM es X.env)).any (·.1)=q9:=by rfl):
  bq X (.Call (.Attribute o name fP) (e::es) [] gq) (ax9 X.K T r to t):=by intro c s f H Q I h;refine wpAny_Call_method_late K k A rfl (bL (aW c s f H _ I h) λv D l=>?_);let#[x,w,m,n,ty,u]:=l;let#[i,j]:=anI m n ty;show#[T,id,B,d,J,i,j,4];let p:=L gq c D f w _ m u;rw[C]at p⊢;show-I' (by show(q9||(hr gq (dM es X.env)).any (·.1))=q9;rw[g]<;>rfl) (I_ ?_);show-bL p λF E l=>?_;let#[G,N,q,z,y]:=l;show-hm c E f N x G v F Q q n z y
end
def Ω(X:bA)(id:String)(r:V->List V->ag->aX->Prop):Prop:=
 ∀(a:dJ)(s:aS)(b:St)(H:ag)(x:V)(d:aV)(v:Value)(c:dR)(Q:aX),Inv X a b H s->RelV x v->cI d c->r x d H Q->
  aO (ba X.prog X.w) X.A (call (.builtin id) (v::c)) (ir X a b Q) X.dw s
def cI.one(h:cI [x] us):∃u,us=[u]/\RelV x u:=by
 cases h with
 |cons r t=>
  cases t;show#[1,r]
theorem cI.rep(h:cI xs us):∀k:Nat,cI (h5 k xs).flatten (h5 k us).flatten
 |0=>.nil
 |k+1=>by rw[ye,ye,JG,JG];show-cI.append h (cI.rep h k)
theorem foldl_rep(b:dR):∀(k:Nat)(a:dR),
  ς (λd f=>d++f) a.toArray (h5 k b.toArray)=(a++(h5 k b).flatten).toArray
 |0,a=>by simp
 |k+1,a=>by
  let e:a.toArray++b.toArray=(a++b).toArray:=by simp
  let c:(a++b)++(h5 k b).flatten=a++(h5 (k+1) b).flatten:=by rw[ye,JG,jB]
  rw[<-c,<-foldl_rep b k (a++b),<-e,ye,List.foldl_cons]
section
variable{X:bA}{pins:dJ}{aa:St}{H:ag}{s:aS}{l b:Addr}{xs ys zs:aV}
def Inv.adq{a its':dR}{n:Nat}{f:Array Value->Array Value}{r:Nat}(I:Inv X pins aa H s)(p:H l=j3 (.lst xs))(e:s.heap.get? l=j3 {cls:=.type "list",data:=.seq a.toArray n})(d:f a.toArray=its'.toArray)(g:cI ys its')(m:ys.Z<=sizeLine):
  Inv X pins aa (upd H l (.lst ys)) {s with heap:=s.heap.update l (BC f),toks:=r}:=by let q:=PySem.IsL.update e f;rw[d]at q;show-I.write (x:=l) (e:=l) (by rw[p];exact trivial) (.inl rfl) (λt u c k=>(tq s.heap (BC f) (e5 c)).trans k) #[_,q] ?_;show#[m,its',_,g,q]
theorem Inv.Mp{its:dR}{t':Nat}(I:Inv X pins aa H s)(a:cI ys its)(c:ys.Z<=sizeLine):
  Inv X pins aa (upd H s.heap.objs.size (.lst ys)) {s with heap:=s.heap.push {cls:=.type "list",data:=.seq its.toArray},toks:=t'}:=
 I.laid (λ_ _ q=>dO _ q) (b7 _) #[c,its,0,a,gJ _ rfl]
def Inv.fresh(I:Inv X pins aa H s):H s.L=jp:=(I.bu.fresh (b7 _))
def Inv.Dc(I:Inv X pins aa H s)(c:H l=j3 (.lst xs)):xs.Z<=sizeLine/\∃(a:dR)(n:Nat),cI xs a/\xs.Z=a.Z/\s.heap.get? l=j3 {cls:=.type "list",data:=.seq a.toArray n}:=by let#[z,a,n,r,e]:=I.bu l _ c;show#[z,a,n,r,r.Z,e]
def Zs{n:Nat}(h:n<=sizeLine):OX n=q9:=by unfold OX;show-c9 qI
end
section
variable{X:bA}
inductive alW(x:V)(vs:aV)(H:ag)(Q:aX):Prop where
 |mk(l:_)(xs:_)(y:_)(_:x=.ref l)(_:vs=[y])(_:H l=j3 (.lst xs))(_:xs.Z<sizeLine)(_:Q .cf (upd H l (.lst (xs++[y]))))
def oo:Ω X "list.append" alW:=by
 intro c s g H x t v p Q I d f h;let#[l,w,y,2,2,b,m,q]:=h;cases d;let#[u,2,en]:=f.one;let#[z,a,n,r,k,e]:=I.Dc b;show-yR F.slot_list_append #[_,e,2] F.entry_list_append (F.args_list_append_2 _ _) (PySem.list_append l a.toArray n u (by rw[f'];lia)) #[e,4];show#[.cf,_,I.adq (its':=a++[u]) b e xg (r.append (.cons en .nil)) ?_,2,q];rw[c0,ψ]
 lia
inductive alJ(x:V)(vs:aV)(H:ag)(Q:aX):Prop where
 |mk(l:_)(b:_)(xs:_)(zs:_)(_:x=.ref l)(_:vs=[.ref b])(_:H l=j3 (.lst xs))(_:H b=j3 (.lst zs))(_:xs.Z+zs.Z<=sizeLine)(_:Q .cf (upd H l (.lst (xs++zs))))
def aAo:Ω X "list.extend" alJ:=by
 intro f s L H x o v j Q I p t h;let#[l,b,y,B,2,2,d,k,V,q]:=h;cases p;let#[u,2,en]:=t.one;cases en;let#[z,a,n,r,N,e]:=I.Dc d;let#[K,c,A,w,i,m]:=I.Dc k;let hsz:a.toArray.size+c.toArray.size<=sizeLine:=by rw[f',f'];lia
 let g:¬(!a.toArray.isEmpty&&OX (a.toArray.size+c.toArray.size))=q4:=by rw[Zs hsz,afA];show-gZ
 refine yR F.slot_list_extend #[_,e,2] F.entry_list_extend (F.args_list_extend_2 _ _)
  (AutoSeq1.list_extend_list_list_0 l a.toArray n b c.toArray A g (by rw[f'];lia) qI) #[e,m,4]
 show#[.cf,_,I.adq (its':=a++c) d e xg (r.append w) ?_,2,q];rw[c0]
 lia
inductive aaE(x:aq.V)(y:aq.V)(H:ag)(Q:aX):Prop where
 |mk(l:_)(b:_)(xs:_)(zs:_)(_:x=.ref l)(_:y=.ref b)(_:H l=j3 (.lst xs))(_:H b=j3 (.lst zs))(_:xs.Z+zs.Z<=sizeLine)(_:∀p,H p=jp->Q (.ref p) (upd H p (.lst (xs++zs))))
def jI:g5 X (r4 .Add) aaE:=by
 intro c s K H x y v u Q I m p h;let#[l,b,j,o,2,2,w,f,V,q]:=h;cases m;cases p;let#[z,a,n,r,L,e]:=I.Dc w;let#[A,d,N,t,i,g]:=I.Dc f;show-PySem.P.add_list e g ?_ (by rw[f',f'];lia);let k:a.toArray++d.toArray=(a++d).toArray:=by simp
 rw[k];show#[.ref _,_,I.Mp (t':=s.toks) (r.append t) (by rw[c0];lia),2,q _ I.fresh]
inductive arN(x:aq.V)(y:aq.V)(H:ag)(Q:aX):Prop where
 |mk(l:_)(k:_)(xs:_)(_:x=.ref l)(_:y=.int k)(_:H l=j3 (.lst xs))(_:-(2 ^ 63)<=k)(_:k<2 ^ 63)(_:xs.Z*k.X<=sizeLine)(_:∀p,H p=jp->Q (.ref p) (upd H p (.lst (h5 k.toNat xs).flatten)))
def awj{b:Type}(a:List b)(k:Nat):(h5 k a).flatten.Z=k*a.Z:=by
 induction k with
 |zero=>simp
 |succ k e=>rw[ye,JG,c0,e,Fq,Nat.add_comm]
def anJ:g5 X (r4 .Mult) arN:=by
 intro w s E H x y v u Q I j o h;let#[l,k,J,2,2,C,N,V,p,q]:=h;cases j;let#[t,2]:=o;let#[z,b,n,r,i,e]:=I.Dc C;let c:b.toArray.size*k.X<=sizeLine:=by rwa[f',<-i]
 let d:¬b.toArray.size*k.toNat > (2 ^ 63-1)/8:=by
  have:(sizeLine:Nat)<=(2 ^ 63-1)/8:=by decide
  lia
 let K:¬(!azm k)=q4:=by rw[fitsIndex_both N V];show-gZ
 let L:¬OX (b.toArray.size*k.X)=q4:=by rw[Zs c];show-gZ
 let A:ς (λf g=>f++g) #[] (h5 (if b.toArray.isEmpty=q4 then 0 else k.X) b.toArray)=(h5 k.toNat b).flatten.toArray:=by
  let B:∀m:Nat,ς (λf g=>f++g) #[] (h5 m b.toArray)=(h5 m b).flatten.toArray:=λm=>by have:=foldl_rep b m [];rwa[P5]at this
  rw[B];cases b with
  |nil=>simp
  |cons a G=>rw[a4 xg]
 refine wpAny_binaryOp_repeat_ref (T:="list") (U:="int") x8 #[_,e,2] (λD=>aeF D k t) noFill_list_mul F.fills_int_mul F.slot_int_rmul repeat_list F.slot_int_index.lookup
  (yR F.slot_int_rmul (aeF s k t) F.entry_int_rmul (F.args_int_rmul_2 _ _) (int___rmul___int_list k t l b.toArray n)
   #[e,2,#[_,e,2],yR F.slot_list_mul #[_,e,2] F.entry_list_mul (F.args_list_mul_2 _ _) (AutoListH.list___mul___list_int_3 l b.toArray n k t K d L) #[e,4]])
 rw[A];show#[.ref _,_,I.Mp (t':=s.toks) (r.rep k.X) (by rwa[awj,aiB]),2,q _ I.fresh]
end
end aq
namespace Ye
open PySem PySem.W PySem.Calls PyProof.Rows
def ay8:∀(c:gz)(d:dR),WellAll P h d (c.map WData.int)->JB d c:=by
 intro c
 induction c with
 |nil=>
  intro d w;rw[Bl]at w;cases w;show-.nil
 |cons n c e=>
  intro d w;rw[e7]at w;cases w with
  |cons a b=>
   cases a;show-.cons _ _ (e _ b)
def ajN{l:OpenLaw}{n:Nat}(N:l.most=j3 n){h:Heap}{args:List WData}(k:l.row.toRowW.claim.pre args=q4)(t:WellAll P h vals args):
  ∃a p b,vals=[cM a]/\args=[WData.list (b.map WData.int)]/\h.get? a=j3 {cls:=.type "list",data:=.seq p.toArray}/\JB p b/\b.Z<=n:=by
 let V:WShape.hasAll [] args [.list .int]=q4:=(pre_splitW k).1;let m:l.pre.holds [] {args:=args}=q4:=(pre_splitW k).2;let#[d,r,2,A,K]:=hasAllW_cons V;obtain rfl:=hasAllW_nil K;let#[o,2,w]:=hasW_list A;let#[b,2]:=items_int w;let c:b.Z<=n:=by
  unfold OpenLaw.pre at m;let f:(WTm.not (.lt (.lit (.int (n:Int))) (.len (.arg 0)))).holds [] {args:=[.list (b.map .int)]}=q4:=by let f:=(holds_andW m).1;rwa[N]at f
  let g:=condW_of f (w_not (w_lt w_lit (w_len_list (w_arg rfl))));rw[aM]at g;show-aix λq=>?_;let L:(n:Int)<((b.Z:Nat):Int):=by lia
  first
   | (rw[cw L]at g;show-bt g x8)
   | (simp at g;lia)
 cases t with
 |cons i j=>
  cases j;cases i with
  |list aW e=>show#[6,b,2,2,aW,ay8 b _ e,c]
theorem ajO(l:OpenLaw)(args:List WData):l.row.toRowW.claim.post args (.bool q4) args=q4:=
 postW_of (r:=l.row.toRowW) (X:=(q4==q4))
  (show WShape.has [] (.bool q4) .bool=q4 by first|rfl|decide|simp[WShape.has,WShape.arms,WShape.armsAll])
  (show(WTm.eq .res (.lit (.bool q4))).value [] {args:=args,res:=j3 (.bool q4),after:=args}=j3 (.bool (q4==q4))from w_eq_bool (w_res rfl) w_lit) rfl
def as8{l:OpenLaw}{n:Nat}{e:b5->Heap->Prop}{i:bW->Heap->Prop}{d:DefRec}(M:l.most=j3 n)(j:d.params.defaults=[])(call:∀(w:bW)(L b:aS)(t N:b5)(iy:Addr)(o:Obj)(V p c:Value)(a:Addr)(k:dR)(A:gz),
   Ground q loose [] e w L t N b.Q->i w b.Q->
   b.heap.get? iy=j3 o->o.data=.func (docDef d.name d.params d.body d.scope V p c)->b.heap.CodeRec p d.name->t d.name=j3 (.ref iy)->
   b.heap.get? a=j3 {cls:=.type "list",data:=.seq k.toArray}->JB k A->A.Z<=n->b.gens=#[]->
   pe (ba l.prog w) B9 (.call (.ref iy) #[[.ref a],[]]) (λr K=>r=.ok (.ret (.bool q4))/\OldK b.heap K.Q/\K.os=b.os/\uv K.gens) b):
  WalkO q loose e i l.row.toRowW d [] (λf k=>Ě f k):=by intro w L b t N G Y iy o V p c x di aW J O bR s I args h Q u C P z D;obtain rfl:x=.none:=Dflts.none bR j;obtain rfl:di=.none:=Dflts.noKw bR;let#[a,k,A,2,2,y,g,m]:=ajN M u z;show-enter_call (r9 (call w L b t N iy o V p c a k A G Y aW (fd_plain J) O s y g m I) λr K H=>?_);let#[2,E,B,F]:=H;show#[.inl #[.bool q4,.bool q4,[],2,λ_=>rfl,.bool q4,ajO l _,λ_=>#[List.Pairwise.nil,λ_ hm=>(nomatch hm)]],E,B,F]
end Ye
namespace aq
open PySem PySem.Spec PyProof.Rows
def ajP{a:gz}(h:JB i a):cI (a.map V.int) i:=by
 induction h with
 |nil=>show-.nil
 |cons n t _ e=>show-.cons #[t,2] e
def Qf(H:ag):Prop:=∀b,H b=jp\/∃o a,H b=j3 (.fp o (.lst a))
def ako{K:aL}{B T:b5}{k:Nat}{c:aS}{t:dR}{C:gz}(qK:K.In c.Q)(zk:c.heap.Ns sS B)(f:c.heap.Ns abi T)(I:∀x:Str,x≠"__name__"->T x=iW x)(O:c.heap.NoLimit)(bz:c.gens=#[])(E:c.heap.get? a=j3 {cls:=.type "list",data:=.seq t.toArray})(hi:JB t C)(Y:C.Z<=sizeLine)(ao:gD k B9)(F:∀g:Heap,K.In g->g.Ns sS B->aH P w K B g CX k iy fd [x] sp)(J:∀(s:aS)(u:Value),EK s fd #[[u],[]] [(x,u)])(q5:∀H:ag,Qf H->aI K H a (C.map V.int)->sp [.ref a] H (λv _=>v=.bo q4) λ_ _ _=>False)(Tf:∀H e l,CX [] H c (λ_ _ _=>False) e l->False):
  pe (ba P w) B9 (.call (.ref iy) #[[.ref a],[]]) (λr l=>r=.ok (.ret (.bool q4))/\OldK c.heap l.Q/\l.os=c.os/\uv l.gens) c:=by
 let cA:=ajP hi;let Q:=hi.Z;let p:∀H:ag,Qf H->aI K H a (C.map V.int)->gw P w H c.Q->(∀b,H b≠jp->b=a)->(H a≠jp->K.lookup a=jp)->
   pe (ba P w) B9 (.call (.ref iy) #[[.ref a],[]]) (λr l=>r=.ok (.ret (.bool q4))/\OldK c.heap l.Q/\l.os=c.os/\uv l.gens) c:=by
  intro H U fS Z pn gd;let L:∀{b:Addr}{o:Obj},c.heap.get? b=j3 o->H b=jp->(ux c.heap H).get? b=j3 o:=λe n=>aj7 e n;let HA:∀{b:Addr}{o:Obj}{y:Array pY}{j:Nat},c.heap.get? b=j3 o->o.data=.dict y j->H b=jp:=λ{b o y j}e d=>by
   cases q:H b with
   |none=>rfl
   |some u=>
    let R:b=a:=pn b (by rw[q];simp);subst R;rw[E]at e;cases e;let d':Data.seq t.toArray _=Data.dict y j:=d;cases d'
  let D:∀{b:Addr}{m:b5},c.heap.Ns b m->(ux c.heap H).Ns b m:=λ{b m}⟨o,y,j,e,d,r⟩=>#[o,y,j,L e (HA e d),d,r]
  let A:K.In (ux c.heap H):=λb o e=>L (qK b o e) (by
   cases q:H b with
   |none=>rfl
   |some u=>
    let R:b=a:=pn b (by rw[q];simp);subst R;rw[gd (by rw[q];simp)]at e;cases e)
  let Gv:Mod K B (ux c.heap H):=#[A,D zk,#[T,D f,I],let⟨Mt,ai,ak⟩:=O;#[Mt,D ai,ak]]
  let cD:x1 P w K B (ux c.heap H) B9 [] c H:=#[2,Gv,λb o e=>al8 e,Qb (ajF _ _),trivial,λb f=>bt (show b∈([]:bS)from f) xg,Z,.of_eq bz]
  show-r9 ((F _ A (D zk)).run B9 [] c H #[[.ref a],[]] [.ref a] [.ref a] _ _ ao cD (J c (.ref a)) (.cons rfl .nil) (q5 H U fS)) λr l h=>?_;cases r with
  |error e=>exact(Tf H e l h).elim
  |ok eQ=>
   cases eQ with
   |next=>show-iu h
   |brk=>show-iu h
   |cont=>show-iu h
   |ret u=>
    let#[v,H',os,N,un,M,cu,q]:=h;let h1:v=.bo q4:=q;subst h1;obtain rfl:u=FJ q4:=cu;show#[2,OldK.of_keep λb o e=>?_,os,N];cases q:H b with
    |none=>show-un.keep b o e q (by intro z;show-bt (show b∈([]:bS)from z) xg) xg
    |some u=>
     rcases U b with z|⟨ob,xs,z⟩
     .rw[q]at z;cases z
     let aJ:=un.i0 b ob _ z;let#[X,_]:=Z b _ z;let#[aC,_]:=M b _ aJ;rw[e]at X;cases X;show-aC
 cases G:K.lookup a with
 |some o=>
  let e:=qK a o G;rw[E]at e;cases e;show-p (λ_=>jp) (λ_=>.inl rfl) (.inr #[_,t.toArray,_,G,2,2,2,by rwa[f',Q],by simpa using cA]) (λb u z=>by let i:(jp:Option hP)=j3 u:=z;cases i) (λb z=>bt rfl z) λz=>bt rfl z
 |none=>
  refine p (λb=>if b=a then j3 (.fp {cls:=.type "list",data:=.seq t.toArray} (.lst (C.map V.int)))else jp) (λb=>?_) (.inl (.inr #[{cls:=.type "list",data:=.seq t.toArray},a' rfl])) (λb u z=>?_) (λb z=>?_) λ_=>G
  .by_cases f:b=a
   .exact .inr #[6,a' f]
   exact .inl (a4 f)
  .by_cases f:b=a
   .let i:=(a' f).symm.trans z;cases i;subst f;show#[E,by rwa[aM],t,_,cA,E]
   let i:=(a4 f).symm.trans z;cases i
  by_cases f:b=a
  .exact f
  show-bt (a4 f) z
abbrev az0{K:aL}{h:Heap}(_:K.In h):aL:=K
def ayF{l:č}{n k:Nat}{i:b5->Heap->Prop}{N:bW->Heap->Prop}{d:DefRec}{K:Params->aL}{CX:bW->o4}{sp:bW->fx}{x:Str}(T:l.most=j3 n)(B:n<=sizeLine)(j:d.params.defaults=[])(M:gD k B9)(I:∀(w:bW)(h:Heap),N w h->(K w.params).In h)(F:∀(w:bW)(m:b5)(iy:Addr)(h:Heap),(K w.params).In h->h.Ns sS m->m d.name=j3 (.ref iy)->
   ∃r:m3,(∀(s:aS)(u:Value),EK s r #[[u],[]] [(x,u)])/\
    ∀b:Heap,(K w.params).In b->b.Ns sS m->aH l.prog w (K w.params) m b (CX w) k iy r [x] (sp w))(U:∀(w:bW)(H:ag)(a:Addr)(p:gz),p.Z<=n->Qf H->aI (K w.params) H a (p.map V.int)->sp w [.ref a] H (λv _=>v=.bo q4) λ_ _ _=>False)(E:∀(w:bW)(H:ag)(s:aS)(e:Value)(t:aS),CX w [] H s (λ_ _ _=>False) e t->False):
  ai4 q loose i N l.row.toRowW d [] (λf L=>Ě f L):=by show-Ye.as8 T j λw Z Q m j7 iy o pm X P a L p G Y aW hd mL y D g c O=>?_;let A:=I w _ Y;let#[r,J,z]:=F w m iy _ A G.T.g y;show-ako A G.T.g G.T.b G.T.builtins G.T.nolimit O D g (dQ c B) M z J (λH C R=>U w H a p c C R) λH e t=>E w H Q e t
def ij(s:Stmt)(j:Nat):Stmt:=match s with
 |.ClassDef _ _ _ body _ _ _ _ _ _ _=>body.getD j (.Pass #[0,0,0,0])
 |_=>.Pass #[0,0,0,0]
def pA(s:Stmt):Arguments:=match s with
 |.FunctionDef _ a _ _ _ _ _ _ _ _=>a
 |_=>{posonlyargs:=[],args:=[],vararg:=jp,kwonlyargs:=[],kw_defaults:=[],kwarg:=jp,defaults:=[]}
def mK(s:Stmt):List Stmt:=match s with
 |.FunctionDef _ _ b _ _ _ _ _ _ _=>b
 |_=>[]
def b_(s:Stmt):Scope:=match s with
 |.FunctionDef _ _ _ _ _ _ sc _ _ _=>sc
 |_=>{kind:=.function,names:=[],isGenerator:=q9,isCoroutine:=q9}
abbrev a9:o4:=λ_ _ _ _ _ _=>False
abbrev hO:bM:=λ_ _ _=>False
def b9:nx a9 X hO:=(λ_ _ _ _ _ _ _ h=>h.elim)
structure cp(K:aL)(x qual:Str)(st:Stmt)(f:Addr)(fd:m3):Prop where
 ex:∃(kx:Value)(d_:Option Addr)(di doc pm:Value)(an:Option Addr)(cdv fI:Value)(nE:lX),
  fd=n3 x qual (pA st) (mK st) (b_ st) .none di doc pm an cdv fI/\K.lookup f=j3 #[kx,d_,.func fd,nE]/\Fy K cdv qual=q4
 fK:mC K (.ref f)=q4
section
variable{P:cq}{w:bW}{K:aL}{mg:b5}{base:Heap}
def cp.ok{st:Stmt}{f:Addr}{d:bE}{k:Nat}{g:fx}(F:cp K x qual st f fd)(S:cJ N d (b_ st))(r:∀(b:Value)(A:ee)(a:List Env)(s:aS)(H:ag)(c:aV)(Q:aX)(E:bM),gD k (A.deeper (qW qual (b_ st) s.heap.objs.size f b))->g c H Q E->
   ∃t,gm (jR a9 P w K mg base N qual (b_ st) f b A a s H E).ud (mK st) t/\t {cX:=λ_ H'=>Q .cf H',rt:=Q} (start N c) H)(len:∀c H Q E,g c H Q E->c.Z=d.Z:=by intro _ _ _ _ h;first|(cases h;subst_vars;rfl)|((repeat let#[_,h]:=h);subst_vars;rfl)|(cases h.1;subst_vars;rfl)):-aH a9 (k+1) f fd d g:=by let#[i,V,di,m,o,L,b,e,j,2,lk,n]:=F.ex;show-QB lk n S len λA a s H c Q E l p=>?_;let#[t,h,q]:=r b A a s H c Q E l p;show#[t,h.ud,q]
def cp.binds{st:Stmt}{f:Addr}{ps:bE}(F:cp K x qual st f fd)(h:∀(di b g:Value)(c:Option Addr)(a d:Value)(k:dR),k.Z=ps.Z->K3 (n3 x qual (pA st) (mK st) (b_ st) .none di b g c a d) #[k,[]]=pure (ps.zip k)):Binds K fd ps []:=by let#[m,l,di,b,g,c,a,d,p,2,lk,n]:=F.ex;show-.all (h di b g c a d)
def y6{st:Stmt}{f:Addr}{b:Value}{a:Option Addr}{d:lX}{di:Value}(l:K.lookup f=j3 #[b,a,.func (n3 x qual (pA st) (mK st) (b_ st) .none di doc pm an e fI),d])(c:Fy K e qual=q4)(k:mC K (.ref f)=q4):cp K x qual st f (n3 x qual (pA st) (mK st) (b_ st) .none di doc pm an e fI):=(#[#[b,a,di,doc,pm,an,e,fI,d,2,l,c],k])
def lF{A:ee}{k:Nat}(a:gD k A):A.units+1<cLine:=(p6 (ais (by decide:1<=64) _) a.units)
def el{n:Nat}(h:n<=1000):n<sizeLine:=(p6 h x8)
end
section
variable{X:bA}
def ae(i:Nat)(b:X.N[i]?=j3 x:=by rfl)(a:QO X.env.scope x:=by first|exact BD rfl|exact Qi (BD rfl)|show-Qi (Qi rfl))(c:(x==("__debug__":Str))=q9:=by decide)(d:(x==("__classdict__":Str))=q9:=by decide):bq X (.Name x pos) (Ks i):=(an4 b a c d)
def iN{A B:Prop}(h:B):if q9=q4 then A else B:=by rwa[a4 gZ]
def jr{A B:Prop}(h:A):if q4=q4 then A else B:=by rwa[a' rfl]
def arO{c A B:Prop}[Decidable c](a:c->A)(b:¬c->B):if c then A else B:=by
 by_cases h:c
 .rw[a' h];show-a h
 rw[a4 h];show-b h
def AQ{c A B:Prop}[Decidable c](a:c)(h:B):if(!decide c)=q4 then A else B:=by rw[cw a];show-iN h
def aD(H H':ag):Prop:=∀b o,H b=j3 o->H' b=j3 o
def aD.refl(H:ag):aD H H:=(λ_ _ h=>h)
def aD.trans(a:aD H H1)(b:aD H1 e):aD H e:=(λc o h=>b c o (a c o h))
def aD.free{H H':ag}(e:aD H H')(h:H' l=aiP):H l=aiP:=by
 cases q:H l with
 |none=>rfl
 |some o=>
  rw[e l o q]at h;cases h
def aD.seq{K:aL}(e:aD H H')(h:aI K H a xs):aI K H' a xs:=by
 rcases h with(h|⟨o,h⟩)|h
 .exact .inl (.inl (e _ _ h))
 .exact .inl (.inr #[o,e _ _ h])
 show-.inr h
end
section
variable{CX:o4}{P:cq}{w:bW}{K:aL}{mg:b5}{base:Heap}{N:bE}{qual:Str}{scope:Scope}{f:Addr}{e0:Value}{A:ee}{outer:List Env}{s:aS}{H:ag}{E:bM}
def dr:(jR CX P w K mg base N qual scope f e0 A outer s H E).K=K:=(rfl)
def dq:(jR CX P w K mg base N qual scope f e0 A outer s H E).ud.K=K:=(rfl)
end
def cut{b:fo}{D:Ends}(h:∀R:fo,R=b->jQ a R D e H):jQ a b D e H:=(h b rfl)
def eL(c:fo){b:fo}{D:Ends}(e:c=jQ a b)(h:∀R:fo,R=b->jQ a R D i H):c D i H:=by subst e;exact h b rfl
def aq3(a:fo){t:fo}{D:Ends}(e:a=t)(h:t D i H):a D i H:=by subst e;show-h
end aq
namespace b4
open PySem PySem.Spec PyProof.Rows aq
abbrev St:=aq.St
abbrev V:=aq.V
abbrev wc:Value->aS->Prop:=λ_ _=>False
theorem alK{a:Type}{M:m5}{t:Sem a}{Q:a->aS->Prop}{E:cC}(h:aO M A t Q wc s):aO M A t Q E s:=
 fC h (λ_ _ q=>q) λ_ _ z=>iu z
def aAn{R:wh->aS->Prop}{iter:Expr}{a:Env}(I:Nat->aS->Prop)(b:∀n s,I n s->aO (ba prog w) A (ky it) (λr f=>match r with
   |none=>R (.ok .next) f
   |some v=>aO (ba prog w) A (Mn e it v) (λ_ t=>aO (ba prog w) A (B6 e a v) (λ_ K=>
     aO (ba prog w) A (forIn ifs q4 λc r=>if r=q4 then do let ok <-CH c a (eval c a);pure (ES ok)else pure (ES r)) (λok d=>
      if ok=q4 then aO (ba prog w) A (eval elt a) (λx l=>aO (ba prog w) A (call (.builtin "list.append") [acc,x]) (λ_ p=>∃m,m<n/\I m p) wc l) wc d
      else∃m,m<n/\I m d) wc K) wc t) wc f) wc s)(n:Nat)(h:I n s):pe (ba prog w) A (.compLoop (.ListComp elt [#[e,iter,ifs,0]] scope pos) 0 it acc a) R s:=by
 refine codeAny_loop rfl I (λn s L=>?_) n h;show aO _ A ((compTurn (.ListComp elt [#[e,iter,ifs,0]] scope pos) 0 it acc a).onRaise (λx=>do w' x a;ayk x)) _ _ s;show-wpAny_noted (alK ?_);rw[compTurn_list];show-ax (IF (ax (fC (b n s L) (λr f g=>?_) λ_ _ z=>z)));cases r with
 |none=>show-bk g
 |some v=>
  show-ax (fC g (λ_ t V=>ax (fC V (λ_ K N=>ax (fC N (λok d k=>?_) λ_ _ z=>z)) λ_ _ z=>z)) λ_ _ z=>z);cases ok with
  |false=>show-bk #[2,k]
  |true=>show-ax (ax (fC k (λx l i=>ax (fC i (λ_ p j=>bk (bk #[2,j])) λ_ _ z=>z)) λ_ _ z=>z))
def hX(b:yG)(a:St):St:=b.map λo=>o.bind λj=>(a[j]?).bind id
def mM(X:bA)(b:bE)(a:Scope)(f:List (Str×Addr))(C:Addr)(g:aS)(c:ag)(d:bS)(da:dJ):bA:=
 {X with N:=b,fB:=g,g9:=c,env:=R_ a f C X.env,outer:=X.stack,stack:=X.stack,ex:=d,fn:=λ_=>q9,da:=da,dw:=λ_ _=>False}
def EU(k:Option yu):Prop:=k=j3 .cell\/k=j3 .free
inductive oT(X:bA)(scope:Scope)(cl:List (Str×Addr)):List Str->List (Option Nat)->Prop
 |nil:oT X scope cl [] []
 |own{x N cs}:oT X scope cl N cs->oT X scope cl (x::N) (jp::cs)
 |mF{x j N cs}(_:X.N[j]?=j3 x)(_:EU (X.env.kindOf x))(_:EU ((zZ scope X.env).names.lookup x))(_:cl.lookup x=X.env.cells.lookup x):
   oT X scope cl N cs->oT X scope cl (x::N) (j3 j::cs)
def oT.len{a:List (Str×Addr)}{N cs}(h:oT X scope a N cs):cs.Z=N.Z:=by
 induction h with
 |nil=>rfl
 |own _ e=>simp[e]
 |mF _ _ _ _ _ e=>simp[e]
def oT.get{X:bA}{d:List (Str×Addr)}{N cs}(h:oT X scope d N cs){c:St}:∀{i:Nat}{x:Str}{v:V},N[i]?=j3 x->(hX cs c)[i]?=j3 (j3 v)->
  ∃j:Nat,X.N[j]?=j3 x/\c[j]?=j3 (j3 v)/\EU (X.env.kindOf x)/\EU ((zZ scope X.env).names.lookup x)/\d.lookup x=X.env.cells.lookup x:=by
 induction h with
 |nil=>intro i x v b a;simp at b
 |own _ e=>
  intro i x v b a;cases i with
  |zero=>simp[hX]at a
  |succ i=>show-e (i:=i) (by simpa using b) (by simpa[hX]using a)
 |@mF y j N cs a1 a2 s u _ e=>
  intro i x v b a;cases i with
  |zero=>
   simp at b;subst b;show#[j,a1,4,a2,s,u];simp[hX]at a;cases q:c[j]? with
   |none=>rw[q]at a;simp at a
   |some o=>
    rw[q]at a;simp at a;rw[a]
  |succ i=>show-e (i:=i) (by simpa using b) (by simpa[hX]using a)
def x2(b:List (Str×Addr))(a:List (Str×yu)):Bool:=a.all λy=>(y.2 !=.cell&&y.2 !=.free)||(b.lookup y.1).isSome
def akp{d:List (Str×Addr)}{a:List (Str×yu)}(h:x2 d a=q4)(k:EU (a.lookup x)):∃c,d.lookup x=j3 c:=by
 let b:∀q:yu,a.lookup x=j3 q->(q=.cell\/q=.free)->∃c,d.lookup x=j3 c:=λq e f=>by
  let m:=tv.mp h (x,q) (FA e);rcases f with rfl|rfl
  .exact yz.mp (by simpa using m)
  show-yz.mp (by simpa using m)
 rcases k with k|k
 .exact b _ k (.inl rfl)
 show-b _ k (.inr rfl)
def vU(X:bA)(d:hy)(t:iL):Prop:=
 ∀(a:dJ)(s:aS)(b:St)(H:ag)(Q:Bool->ag->Prop),Inv X a b H s->t b H Q->
  aO (ba X.prog X.w) X.A (forIn d q4 λc r=>if r=q4 then do let ok <-CH c X.env (eval c X.env);pure (ES ok)else pure (ES r)) (Kl X a b Q) X.dw s
def pR:iL:=λ_ H Q=>Q q4 H
def jm:vU X [] pR:=(λ_ _ _ H _ I h=>wpAny_tests_nil #[H,I,h])
def Oq{t:iL}(h:m7 X c t):vU X [c] t:=(λa s b H Q I q=>wpAny_tests_one (h a s b H Q I q))
def kD(L:eV)(A:yG)(g:kK)(K:iL)(w:TE):TE:=λk H Q=>L k H λJ f=>∀D,f D=jp->
 ∃W:Nat->Nat->List V->St->ag->Prop,(∃m,W 0 m [] (hX A k) (upd f D (.lst [])))/\∀i m a p H',W i m a p H'->H' D=j3 (.lst a)/\a.Z<sizeLine/\
  ((J.stop i H'/\Q (.ref D) H')\/(J.go i H'/\∀x l,J.AB i H' x l->g x p l λd t=>K d t λb r=>
   if b=q4 then w d r λy n=>n D=j3 (.lst a)/\∃c,c<m/\W (i+1) c (a++[y]) d (upd n D (.lst (a++[y])))
   else∃c,c<m/\W (i+1) c a d r))
section
variable{X:bA}{elt d6 iter:Expr}{ifs:hy}{scope:Scope}{pos:Pos}{N':bE}{cs:yG}{cl:List (Str×Addr)}{wi:eV}{g:kK}{tt:iL}{bO:TE}
theorem alL{H:ag}(ok:gw P w H h)(d:H C=jp)(f:jT C h i):gw P w H i:=λb k e=>by
 refine(ok b k e).pO (λc u a q=>(f.2 c ?_).trans q) (λ_ q=>q) λ_ _ q=>q;rintro rfl;rcases a with rfl|a
 .rw[d]at e;cases e
 rw[d]at a;cases a
def XU{s:aS}{k:Heap}{ch:bS}{x y:V}{p w:Value}{t:Nat}(I:Inv X pins e H s)(n:∀d∈ch,qE X pins H d)(f:∀d o,d∉ch->s.heap.get? d=j3 o->k.get? d=j3 o)(F:k.get? s.L=j3 {cls:=.type "tuple",data:=.seq (List.toArray [p,w])})(L:cI [x,y] [p,w]):Inv X pins e (upd H s.heap.objs.size (.tup [x,y])) {s with heap:=k,gens:=s.gens,drawn:=s.drawn,toks:=t}:=by
 let b:H s.L=jp:=I.fresh;let K:∀d q,H d=j3 q->d∉ch:=λd q l z=>by have:=(n d z).1;rw[this]at l;cases l
 refine I.step (g':=s.gens) (d':=s.drawn) (t':=t) (h':=k) (ch:=ch) (λd l=>?_) (λd o _ _ a q _=>f d o a q) (λd o _ _ a q _=>#[o.slots,f d o a q]) (λd o a q D=>?_)
  (λd o a q=>#[o,f d o a q]) (λd E q=>?_) (λd o v q=>?_) (λd M q=>#[#[],4]) (λm hm=>?_) (λd v q=>?_) I.bare
 .let#[G,j,J,N,u,B]:=n d l;show#[N,j,u,B]
 .rwa[aR (e8 (dE q))]
 .rwa[aR (dj q b)]
 .rwa[aR (dj q b)]
 .rw[aR (dj q b),q];simp
 .let#[o,i,h,C,r]:=hm;show#[o,i,h,f _ o (λz=>(n _ z).2.1 rfl) C,r]
 by_cases A:d=s.L
 .subst A;rw[aQ]at q;cases q;show#[sz_,[p,w],L,_,F,7]
 rw[aR A]at q;refine(I.bu d v q).pO (λc y a z=>f c y ?_ z) (λc z=>by rwa[aR (dj z b)]) λc E z=>by rwa[aR (dj z b)]
 rcases a with rfl|a
 .exact K _ _ q
 show-K _ _ a
def alM{s:aS}{h':Heap}{ch:bS}{t:Nat}(I:Inv X pins e H s)(f:∀d∈ch,qE X pins H d)(b:∀d o,d∉ch->s.heap.get? d=j3 o->h'.get? d=j3 o):Inv X pins e H {s with heap:=h',gens:=s.gens,drawn:=s.drawn,toks:=t}:=by
 refine I.step (g':=s.gens) (d':=s.drawn) (t':=t) (h':=h') (ch:=ch) (λd L=>?_) (λd o _ _ a q _=>b d o a q) (λd o _ _ a q _=>#[o.slots,b d o a q]) (λd o a q V=>V)
  (λd o a q=>#[o,b d o a q]) (λd h q=>q) (λd o v q=>q) (λd u q=>#[#[],4]) (λm hm=>?_) (λd v q=>?_) I.bare
 .let#[i,p,j,k,A,K]:=f d L;show#[k,p,A,K]
 .rw[q];simp
 .let#[o,n,l,N,r]:=hm;show#[o,n,l,b _ o (λz=>(f _ z).2.1 rfl) N,r]
 refine(I.bu d v q).pO (λc y a z=>b c y (λw=>?_) z) (λc z=>z) λc h z=>z;have:=(f c w).1;rcases a with rfl|a
 .rw[this]at q;cases q
 rw[this]at a;cases a
def agt{R:wh->aS->Prop}{iter:Expr}{a:Env}{XE:cC}(o:∀e s,XE e s->aO (ba prog w) A (w' e a) (λ_ b=>R (.error e) b) (λx b=>R (.error x) b) s)(I:Nat->aS->Prop)(d:∀n s,I n s->aO (ba prog w) A (ky it) (λr b=>match r with
   |none=>R (.ok .next) b
   |some v=>aO (ba prog w) A (Mn d6 it v) (λ_ K=>aO (ba prog w) A (B6 d6 a v) (λ_ L=>
     aO (ba prog w) A (forIn ifs q4 λc r=>if r=q4 then do let ok <-CH c a (eval c a);pure (ES ok)else pure (ES r)) (λok f=>
      if ok=q4 then aO (ba prog w) A (eval elt a) (λx p=>aO (ba prog w) A (call (.builtin "list.append") [acc,x]) (λ_ t=>∃m,m<n/\I m t) XE p) XE f
      else∃m,m<n/\I m f) XE L) XE K) XE b) XE s)(n:Nat)(h:I n s):pe (ba prog w) A (.compLoop (.ListComp elt [#[d6,iter,ifs,0]] scope pos) 0 it acc a) R s:=by
 refine codeAny_loop rfl I (λn s N=>?_) n h;show aO _ A ((compTurn (.ListComp elt [#[d6,iter,ifs,0]] scope pos) 0 it acc a).onRaise (λx=>do w' x a;ayk x)) _ _ s;show-wpAny_noted (fC ?_ (λ_ _ q=>q) o);rw[compTurn_list];show-ax (IF (ax (fC (d n s N) (λr b k=>?_) λ_ _ z=>z)));cases r with
 |none=>show-bk k
 |some v=>
  show-ax (fC k (λ_ K i=>ax (fC i (λ_ L V=>ax (fC V (λok f l=>?_) λ_ _ z=>z)) λ_ _ z=>z)) λ_ _ z=>z);cases ok with
  |false=>show-bk #[2,l]
  |true=>show-ax (ax (fC l (λx p j=>ax (fC j (λ_ t u=>bk (bk #[2,u])) λ_ _ z=>z)) λ_ _ z=>z))
def ģ{Z:Addr->aS->ag->List Addr->List (Addr×Obj)->Value->aS->Prop}{use:Option (Value->Sem Unit)}{QQ:cC}{a:dJ}{Q:aX}(av:X.calm=q4)(hi:m6 X d6 iter wi)(sm:F1 scope X.env=pure cl)(pv:∀y∈scope.names,y.2≠.cell)(oA:scope.kind=.function)(sx:∀y∈scope.names,y.2=.local->scope.names.lookup y.1=j3 .local)(jL:∀x c,cl.lookup x=j3 c->X.env.cells.lookup x=j3 c)(bu:x2 cl (zZ scope X.env).names=q4)(q2:oT X scope cl N' cs)(af:∀(C:Addr)(V:aS)(F:ag)(t:bS)(da:dJ),qO {mM X N' scope cl C V F t da with dw:=Z C V F t da} d6 g/\vU {mM X N' scope cl C V F t da with dw:=Z C V F t da} ifs tt/\bq {mM X N' scope cl C V F t da with dw:=Z C V F t da} elt bO)(hs:∀x,Cn iter X.env x=pure x:=by intro _;rfl)(I:Inv X a M H s)(h:kD wi cs g tt bO M H Q)(leave:∀(D:Addr)(V:aS)(F:ag)(t:bS)(e:Value)(hC:aS),Inv X a M F V->(∀b∈t,∃H',qE X a H' b)->Z V.heap.objs.size V F t (X.da++a) e hC->aO (ba X.prog X.w) X.A (w' e (R_ scope cl V.heap.objs.size X.env)) (λ_ s1=>Ca (ba X.prog X.w) X.A X.dw use QQ (.ref D) V.heap.objs.size (.error e) s1) (λx s1=>Ca (ba X.prog X.w) X.A X.dw use QQ (.ref D) V.heap.objs.size (.error x) s1) hC)(post:∀(D C:Addr)(G:aS)(H':ag)(m:b5),Inv X a M H' G->G.heap.Ns C m->qE X a H' C->Q (.ref D) H'->Ca (ba X.prog X.w) X.A X.dw use QQ (.ref D) C (.ok .next) G):
  aO (ba X.prog X.w) X.A (Sa (.ListComp elt [#[d6,iter,ifs,0]] scope pos) scope X.env abO (Vm []) q9 (eval iter X.env) use) QQ X.dw s:=by
 refine wpAny_comprehension_free (use:=use) rfl hs sm oA sx (bL (hi a s M H _ I h) λv s1 ai=>bL ai λUH A ak=>?_);let#[it,t,hD,J,O,2,bI,T,xp,R,c']:=ak;show-pW (wpAny_newFunctionEnv pv (by intro y cd;simp at cd) (λai T3 Uc=>?_) oA);dsimp only at T3 Uc⊢;let w:Inv X a M (upd O A.heap.objs.size (.lst [])) {A with heap:=A.heap.push {cls:=.type "list",data:=.seq ([]:dR).toArray},toks:=A.toks}:=bI.Mp (its:=[]) (ys:=[]) .nil (eu _);let auI:O A.L=jp:=bI.fresh;let#[W,#[m0,Aq],turn]:=c' _ auI;generalize ab8:A.heap.push {cls:=.type "list",dict:=jp,data:=.seq ([]:dR).toArray}=N at T3 Uc w⊢;let acY:N.Y=A.L+1:=by rw[<-ab8,uM]
 generalize bR:A.L=D at *;let K:∀b o,N.get? b=j3 o->ai.get? b=j3 o:=λb o e=>Uc.extBut b o (e8 (dE e)) (dO _ e);let old:∀b o,A.heap.get? b=j3 o->N.get? b=j3 o:=λb o e=>by rw[<-ab8];show-dO _ e
 let Lk:∀b∈t,b<D:=λb f=>by let#[o,e,_]:=T.obj 0 _ xp b f;rw[<-bR];show-dE e
 let abN:∀b∈t,b∉fg X.stack:=λb f z=>by
  let#[_,f1,cV,_]:=R b f;rcases et.mp (bI.D9 b z)with e|e
  .exact f1 e
  show-cV e
 generalize B:({mM X N' scope cl N.objs.size {A with heap:=N,toks:=A.toks} (upd O D (.lst [])) t (X.da++a)with dw:=Z N.objs.size {A with heap:=N,toks:=A.toks} (upd O D (.lst [])) t (X.da++a)}:bA)=L;let#[bz,acI,he]:=af N.objs.size {A with heap:=N,toks:=A.toks} (upd O D (.lst [])) t (X.da++a);rw[B]at bz acI he;let yW:L.prog=X.prog:=by rw[<-B];rfl
 let yX:L.w=X.w:=by rw[<-B];rfl
 let abu:L.K=X.K:=by rw[<-B];rfl
 let F6:L.calm=X.calm:=by rw[<-B];rfl
 let k':Inv L [] (hX cs M) (upd O D (.lst [])) {A with heap:=ai,toks:=A.toks+0}:=by
  rw[<-B];show#[#[w.ok.mod,oA,w.ok.glob,w.ok.blt,b7 _,λx y c aE aC=>w.ok.inj x y c (jL _ _ aE) (jL _ _ aC),λx ar=>akp bu ar,λx c z _=>bt (show q9=q4 from z) gZ,w.ok.hd,w.ok.frames,.inl rfl,
   λb f=>#[λe=>?_,λx c e=>(R b f).2.2.2.2.1 x c (jL _ _ e)],w.bs,dQ w.ok.tG w.nH,λb o e f=>?_,abN,w.stack,w.NC],2,w.bare,iv.kept K,#[_,T3,λi x v aE aC b2=>?_],λx c e=>?_,w.bu.fresh (b7 _),λx c e=>w.pj x c (jL _ _ e),
   λp az=>?_,w.bu.kept K,4]
  .let l:=Lk b f;rw[show b=N.Y from e,acY]at l;show-qN _ (Ì l)
  .let l:=Lk b f;rcases(R b f).2.2.2.1 with z|z
   .exact bI.ok.zJ b o e z
   show-bt (iR (dE (bI.ok.bs b o e).1) z) (qN _)
  .let#[j,a1,a2,iT,lj,Q9]:=q2.get aE aC;let#[m,hn,au]:=w.loc;let#[u,en,l]:=au j x v a1 a2 (by rcases iT with z|z;show-.inr (.inl z);show-.inr (.inr z));show#[u,en,.inr #[lj,4]];rcases l with⟨k,_⟩|⟨k,c,e,z⟩
   .rcases iT with q|q<;>(rw[k]at q;cases q)
   let#[o,aW,hd]:=z;show#[c,Q9.trans e,o,K c o aW,hd]
  .let#[v,o,aW,hd]:=w.cell x c (jL _ _ e);show#[v,o,K c o aW,hd]
  .let T9:p∈X.da++a:=by simpa[mM]using az
   let#[e,n,ne,gQ,d]:=w.pin p T9;show#[K _ _ e,n,e8 (dE e),λz=>?_,d];rcases et.mp (w.D9 p.1 z)with q|q
   .exact ne q
   show-gQ q
  show(hX cs M).Z=N'.Z;rw[hX,aM];show-q2.len
 let aex:hD 0 ai:=T.keep 0 _ _ xp λb f o e=>K b o (old b o e);let z7:∀{H':ag},(∀b∈t,H' b=jp)->∀b∈t,qE L [] H' b:=λ{H'}hn b f=>by rw[<-B];show#[hn b f,λe=>?_,abN b f,.inl f,λx c e=>(R b f).2.2.2.2.1 x c (jL _ _ e),λp az=>(R b f).2.2.2.2.2 p (by simpa[mM]using az)];let l:=Lk b f;rw[show b=N.Y from e,acY]at l;show-qN _ (Ì l)
 let auh:∀b∈t,(upd O D (.lst [])) b=jp:=λb f=>by rw[aR (e8 (Lk b f))];exact(R b f).1
 let El:L.A=X.A:=by rw[<-B];rfl
 let Og:L.env=R_ scope cl N.objs.size X.env:=by rw[<-B];rfl
 let lv:=λe hC(z:L.dw e hC)=>leave D {A with heap:=N,toks:=A.toks} (upd O D (.lst [])) t e hC w (λb f=>#[_,R b f]) (by rwa[<-B]at z);let Y:pe (ba X.prog X.w) X.A (.compLoop (.ListComp elt [#[d6,iter,ifs,0]] scope pos) 0 (.ref it) (.ref D) (R_ scope cl N.objs.size X.env))
   (Ca (ba X.prog X.w) X.A X.dw use QQ (.ref D) N.Y) {A with heap:=ai,toks:=A.toks+0}:=by
  show-agt (XE:=L.dw) lv (λn s'=>∃i ys E H',Inv L [] E H' s'/\hD i s'.Q/\(∀b∈t,H' b=jp)/\W i n ys E H') ?_ m0 #[0,[],6,k',aex,auh,Aq];rintro n s' ⟨i,ys,E,H',p1,iH,abP,gY⟩;let#[fA,avW,oC]:=turn i n ys E H' gY;rcases oC with⟨stop,q⟩|⟨go,step⟩
  .let hd:=T.done L yW yX abu (F6.trans av) i [] s' E H' L.dw p1 (z7 abP) iH stop;rw[El]at hd;show-bL hd λr G ao=>?_;let#[2,U]:=ao;let#[m,hn,_]:=id U.loc;let sg:L.env.locals=N.Y:=by rw[Og];rfl
   let LH:H' N.Y=jp:=by rw[<-sg];show-U.free
   let wx:=U.base;rw[<-B]at wx;let vh:G.os=A.os:=by let z:=U.os;rwa[<-B]at z
   let acK:=U.bu;rw[yW,yX]at acK;let agE:Inv X a M H' G:=w.FZ (s':=G) (ch:=t) vh #[wx.keep,wx.slot,wx.free,wx.there,wx.hE,wx.i0,wx.jx] acK U.bare λb f=>by let#[_,g1,_,g3,q0,j1]:=R b f;show#[g3,g1,q0,j1]
   show-post D N.objs.size G H' m agE (by rwa[sg]at hn) (w.tN (b7 _) LH) q
  let hit:=T.item L yW yX abu (F6.trans av) i [] s' E H' L.dw p1 (z7 abP) iH go;rw[El]at hit;show-bL hit λr G ao=>?_;let#[u,2,b8]:=ao;show-bL b8 λ_ c5 dC=>?_;let#[x,bH,U,HU,XO,z6,SU]:=dC;let PA:=U.pinned (z7 SU) (T.obj _ _ z6);let aB:=bz _ c5 E bH x u _ PA HU (step x bH XO);rw[El,Og,yW,yX]at aB;show-bL aB λ_ fM nr=>?_;let#[IY,je,rK,VU]:=nr;let b':=acI _ fM IY je _ rK VU;rw[El,Og,yW,yX]at b';show-bL b' λok i_ kr=>?_;let#[jz,lR,nF]:=kr;let P:∀{jy:St}{e3:ag}{ja:aS}{Oy:aV}{d9:Nat},Inv L ([]++IW t c5.Q) jy e3 ja->d9<n->W (i+1) d9 Oy jy e3->
    ∃m,m<n/\∃i ys E H',Inv L [] E H' ja/\hD i ja.Q/\(∀b∈t,H' b=jp)/\W i m ys E H':=λ{jy e3 ja Oy d9}hv hm Xf=>by show#[d9,hm,i+1,Oy,jy,e3,hv.NZ,T.keep _ _ _ z6 λb f o e=>(hv.pin (b,o) (rQ _ (rQ _ (M5 f e)))).1,λb f=>?_,Xf];let#[o,e,d]:=T.obj _ _ z6 b f;exact(hv.pin (b,o) (rQ _ (rQ _ (M5 f e)))).2.1
  cases ok with
  |false=>
   rw[a4 gZ]at nF⊢;let#[d9,hm,Xe]:=nF;show-P lR hm Xe
  |true=>
   rw[a' rfl]at nF⊢;let acC:=he _ i_ IY jz _ lR nF;rw[El,Og,yW,yX]at acC;show-bL acC λay9 ja Tc=>?_;let#[y,e3,hv,zS,auH,d9,hm,Xf]:=Tc;let ach:=oo (X:=L) _ ja IY e3 (.ref D) [y] (.ref D) [ay9] (λ_ rI=>rI=upd e3 D (.lst (ys++[y]))) hv rfl (.cons zS .nil) #[D,ys,y,2,2,auH,avW,2];rw[El,yW,yX]at ach;show-bL ach λ_ mi qf=>?_;let#[_,rI,mw,1]:=qf;show-P mw hm Xf
 show-codeAny_compStart_list Y (T.self _ 0 _ _ _ aex Y)
theorem Ĥ{use:Option (Value->Sem Unit)}{QQ:cC}{Q:aX}(n:X.calm=q4)(r:m6 X d6 iter wi)(N:F1 scope X.env=pure cl)(K:∀y∈scope.names,y.2≠.cell)(A:scope.kind=.function)(V:∀y∈scope.names,y.2=.local->scope.names.lookup y.1=j3 .local)(w:∀x c,cl.lookup x=j3 c->X.env.cells.lookup x=j3 c)(p:x2 cl (zZ scope X.env).names=q4)(L:oT X scope cl N' cs)(l:∀(C:Addr)(k:aS)(a:ag)(d:bS)(f:dJ),qO (mM X N' scope cl C k a d f) d6 g/\vU (mM X N' scope cl C k a d f) ifs tt/\bq (mM X N' scope cl C k a d f) elt bO)(t:∀x,Cn iter X.env x=pure x:=by intro _;rfl)(I:Inv X pins e H s)(h:kD wi cs g tt bO e H Q)(post:∀(D C:Addr)(b:aS)(H':ag)(m:b5),Inv X pins e H' b->b.heap.Ns C m->qE X pins H' C->Q (.ref D) H'->Ca (ba X.prog X.w) X.A X.dw use QQ (.ref D) C (.ok .next) b):
  aO (ba X.prog X.w) X.A (Sa (.ListComp elt [#[d6,iter,ifs,0]] scope pos) scope X.env i (Vm []) q9 (eval iter X.env) use) QQ X.dw s:=
 ģ (Z:=λ_ _ _ _ _=>wc) n r N K A V w p L l t I h (λ_ _ _ _ _ _ _ _ z=>z.elim) post
def mc(r:X.calm=q4)(i:m6 X d6 iter wi)(M:F1 scope X.env=pure cl)(F:∀y∈scope.names,y.2≠.cell)(E:scope.kind=.function)(O:∀y∈scope.names,y.2=.local->scope.names.lookup y.1=j3 .local)(z:∀x c,cl.lookup x=j3 c->X.env.cells.lookup x=j3 c)(w:x2 cl (zZ scope X.env).names=q4)(G:oT X scope cl N' cs)(d:∀(C:Addr)(l:aS)(a:ag)(f:bS)(k:dJ),qO (mM X N' scope cl C l a f k) d6 g/\vU (mM X N' scope cl C l a f k) ifs tt/\bq (mM X N' scope cl C l a f k) elt bO)(u:∀x,Cn iter X.env x=pure x:=by intro _;rfl):bq X (.ListComp elt [#[d6,iter,ifs,0]] scope pos) (kD wi cs g tt bO):=by
 intro n s P H Q I h;rw[eval_ListComp];show-Ĥ r i M F E O z w G d u I h λD C t H' m B j p q=>#[m,j,λT J=>#[.ref D,H',4,2,q]]
 let#[K,L,R,A,N,V]:=p;show-B.turned (t':=t.toks) (λb o d e=>(J.2 b d).trans e) K L A N V
def w3{i:Nat}{y:Str}{f:Pos}(M:X.N.Nodup)(A:X.N[i]?=j3 y)(d:X.env.scope.names.lookup y=j3 .local)(w:xq (.ListComp elt [#[d6,iter,ifs,0]] scope pos) (j3 (.Name y py)) f.line X.env=pure q4)(B:X.calm=q4)(R:m6 X d6 iter wi)(sm:F1 scope X.env=pure cl)(pv:∀y∈scope.names,y.2≠.cell)(oA:scope.kind=.function)(sx:∀y∈scope.names,y.2=.local->scope.names.lookup y.1=j3 .local)(Z:∀x c,cl.lookup x=j3 c->X.env.cells.lookup x=j3 c)(F:x2 cl (zZ scope X.env).names=q4)(q2:oT X scope cl N' cs)(p:∀(C:Addr)(N:aS)(l:ag)(K:bS)(L:dJ),qO (mM X N' scope cl C N l K L) d6 g/\vU (mM X N' scope cl C N l K L) ifs tt/\bq (mM X N' scope cl C N l K L) elt bO)(U:∀x,Cn iter X.env x=pure x:=by intro _;rfl):f3 X (.Assign [.Name y py] (.ListComp elt [#[d6,iter,ifs,0]] scope pos) f) (x5 (kD wi cs g tt bO) (hW i)):=by
 intro k s aa H r I h;rw[exec_Assign_Name_used _ _ _ _ w];show-ax (IF (ax ?_));show aO _ X.A (do let _ <-Sa (.ListComp elt [#[d6,iter,ifs,0]] scope pos) scope X.env _ (Vm []) q9 (eval iter X.env) (j3 (B6 (.Name y py) X.env))) _ _ s;show-ax (fC (Ĥ (use:=j3 (B6 (.Name y py) X.env)) (QQ:=λ_ u=>uY X k r .next u) B R sm pv oA sx Z F q2 p U I h ?_) (λ_ u E=>bk (bk E)) λ_ _ e=>e);intro D C b3 H' m k' T z q;let#[O,V,f2,J,j,Q]:=z;show-ayL (Yz k' M A (.inl d) (v:=.ref D) rfl (λP rK Y=>?_) (.inr d));let#[a,G,n]:=Y;let t:C≠a:=by
  rcases n with rfl|n
  .exact V
  exactλe=>j _ _ n e.J
 show#[m,T.sameBut G t,λh' sA=>#[_,H',4,q]];show-rK.turned (t':=P.toks) (λb o p e=>(sA.2 b p).trans e) O V J j Q
def p'(J:fF)(c:ag)(a:aV):Prop:=∀H',aD c H'->J.stop a.length H'/\(∀i,i<a.Z->J.go i H')/\∀i x b,i<a.Z->J.AB i H' x b->b=H'/\a[i]?=j3 x
theorem pB{K:aL}(h:aI K H1 a xs):p' (kE K a) H1 xs:=λH' b=>
 #[#[xs,b.seq h,b7 _],λi c=>#[xs,xs[i],b.seq h,by simp[c]],λi x d _ y=>#[y.1,y.2 xs (b.seq h)]]
theorem Zu(lo:Int)(n:Nat):p' (xX lo n) H1 ((dY n).map λi:Nat=>V.int (lo+i)):=λH' _=>
 #[by show n<=_;simp,λi a=>(by simpa using a:i<n),λi x f a y=>by
  let#[c,b]:=y;let d:i<n:=by simpa using a
  show#[c,4];rw[b];simp[d]]
end
def aAq{J:fF}{b:aV}{g:kK}{l:fo}{D:Ends}(c:Nat->St->ag->Prop)(N:p' J H b)(n:c 0 h H)(hm:∀i a H',c i a H'->aD H H')(K:∀i x a H',b[i]?=j3 x->c i a H'->g x a H' λk d=>l {D with cX:=c (i+1),fI:=c (i+1),jk:=D.cX} k d)(A:∀a H',c b.length a H'->D.cX a H'):
  xC J g l D h H:=by
 show#[λi m a H'=>m=b.Z-i/\i<=b.Z/\c i a H',#[b.Z,by simp,eu _,n],4];rintro i m a H' ⟨rfl,j,p⟩;let#[r,L,V]:=N H' (hm i a H' p);by_cases f:i<b.Z
 .refine .inr #[L i f,c (i+1),λk d w=>#[b.Z-(i+1),9,2,f,w],λx d y=>?_];let#[2,t]:=V i x d f y;show-K i x a _ t p
 let e:i=b.Z:=by lia
 subst e;show-.inl #[r,A a H' p]
def QD{J:fF}{c:aV}{a:St}{u:iL}{B:TE}{Q:aX}{l:ag}(I:hX cs F=jp::a)(O:p' J l c)(G:c.Z<sizeLine)(p:V->Bool)(f:V->V)(A:∀(i:Nat)(x:V)(d:ag)(R:Bool->ag->Prop),c[i]?=j3 x->aD l d->(∀k,aD d k->R (p x) k)->u (j3 x::a) d R)(j:∀(i:Nat)(x:V)(d:ag)(R:aX),c[i]?=j3 x->p x=q4->aD l d->(∀k,aD d k->R (f x) k)->B (j3 x::a) d R)(s:∀(D:Addr)(H':ag),l D=jp->H' D=j3 (.lst ((c.filter p).map f))->aD l H'->Q (.ref D) H'):
  ∀D,l D=jp->∃W:Nat->Nat->List V->St->ag->Prop,(∃m,W 0 m [] (hX cs F) (upd l D (.lst [])))/\∀i m g t H',W i m g t H'->H' D=j3 (.lst g)/\g.Z<sizeLine/\
   ((J.stop i H'/\Q (.ref D) H')\/(J.go i H'/\∀x d,J.AB i H' x d->hW 0 x t d λh E=>u h E λb L=>
    if b=q4 then B h L λy k=>k D=j3 (.lst g)/\∃w,w<m/\W (i+1) w (g++[y]) h (upd k D (.lst (g++[y])))
    else∃w,w<m/\W (i+1) w g h L)):=by
 intro D bR;show#[λi m g t H'=>m=c.Z-i/\i<=c.Z/\g=((c.take i).filter p).map f/\(∃o,t=o::a)/\aD l H'/\H' D=j3 (.lst g),#[c.Z,by simp,eu _,by simp,#[jp,I],λb o e=>?_,aQ],4]
 .rwa[aR (dj e bR)]
 rintro i m g t H' ⟨rfl,T,rfl,⟨o,rfl⟩,n,N⟩;let#[H,M,P]:=O H' n;show#[N,p6 ?_ G,4]
 .rw[aM];show-dQ (yc _ _) ?_;rw[jh];exact BA _ _
 by_cases K:i<c.Z
 .refine .inr #[M i K,λx d y=>?_];let#[2,q]:=P i x d K y;show u (j3 x::a) d _;show-A i x d _ q n λL r=>?_;let z:c.take (i+1)=c.take i++[x]:=by rw[p5,q];rfl
  cases az:p x with
  |true=>
   show-jr ?_;show-j i x L _ q az (n.trans r) λk C=>#[C _ _ (r _ _ N),c.Z-(i+1),9,2,K,4,#[1],λb U e=>?_,aQ]
   .rw[z,v7,eb];simp[az]
   rw[aR (dj e bR)];show-C _ _ (r _ _ (n _ _ e))
  |false=>
   show-iN #[c.Z-(i+1),9,2,K,4,#[1],n.trans r,r _ _ N];rw[z,v7,eb];simp[az]
 let e:i=c.Z:=by lia
 subst e;show-.inl #[H,s D H' bR (by rw[N,n1]) n]
theorem anK{J:fF}{p:aV}{c:St}{w:TE}{Q:aX}{g:ag}(z:hX cs j=jp::c)(B:p' J g p)(s:p.Z<sizeLine)(f:V->V)(r:∀(i:Nat)(x:V)(a:ag)(R:aX),p[i]?=j3 x->aD g a->(∀k,aD a k->R (f x) k)->w (j3 x::c) a R)(t:∀(D:Addr)(H':ag),g D=jp->H' D=j3 (.lst (p.map f))->aD g H'->Q (.ref D) H'):
  ∀D,g D=jp->∃W:Nat->Nat->List V->St->ag->Prop,(∃m,W 0 m [] (hX cs j) (upd g D (.lst [])))/\∀i m d A H',W i m d A H'->H' D=j3 (.lst d)/\d.Z<sizeLine/\
   ((J.stop i H'/\Q (.ref D) H')\/(J.go i H'/\∀x a,J.AB i H' x a->hW 0 x A a λn L=>pR n L λb K=>
    if b=q4 then w n K λy k=>k D=j3 (.lst d)/\∃l,l<m/\W (i+1) l (d++[y]) n (upd k D (.lst (d++[y])))
    else∃l,l<m/\W (i+1) l d n K)):=
 QD z B s (λ_=>q4) f (λi x a R _ _ h=>h a (aD.refl _)) (λi x a R u _ e h=>r i x a R u e h) λD H' o q N=>t D H' o (by rw[q,PX.mpr λ_ _=>rfl]) N
def signs(x:Str):List V:=x.cps.toList.map λc=>V.str ⟨#[c]⟩
def EX(x:Str):fF:=#[λi _=>i<x.cps.size,λi H v H'=>H'=H/\∃c,x.cps[i]?=j3 c/\v=.str ⟨#[c]⟩,λi _=>i=x.cps.size]
theorem ĵ(x:Str):p' (EX x) H1 (signs x):=λH' _=>by
 let b:(signs x).Z=x.cps.size:=by simp[signs]
 show#[b,λi a=>by rwa[b]at a,λi v l a y=>?_];let#[f,c,d,g]:=y;show#[f,4];subst g;let k:x.cps.G[i]?=j3 c:=by simpa using d
 simp[signs,k]
def akH{K:aL}(m:Addr)(x:Str)(t:Tok){ty:String}(M:ty="str_ascii_iterator"\/ty="str_iterator"):Turn P w K R (EX x) [m] m (λi h=>h.IsStrIter m ty x t i)where
 mem:=by simp
 obj:=λi h st b a=>by
  let e:b=m:=by simpa using a
  subst e;let#[o,e,c,d]:=st;show#[o,e,λv z=>by rw[d]at z;cases z]
 keep:=λi h g st k=>by let#[o,e,r]:=st;show#[o,k m xg o e,r]
 item:=by
  intro X F J G y i f s u H E I n st B;subst F J G;let#[A,L,O,p,N,V]:=n m xg;let Q:i<x.cps.size:=B;let l:x.cps[i]?=j3 x.cps[i]:=by simp[Q]
  rcases M with rfl|rfl
  .refine wpAny_pyNext_ascii_item st l λg j C=>?_;let q:Inv X f u H {s with heap:=g,toks:=s.toks+1}:=I.turned (λb o a e=>(C.2 b a).trans e) A L p N V;let#[o,e,c,d]:=id j;show#[1,AX (s:={s with heap:=g,toks:=s.toks+1}) e c d x8 #[.str ⟨#[x.cps[i]]⟩,H,q,#[1],#[2,_,l,2],j,λb a=>(n b a).1]]
  show-wpAny_pyNext_wide_item st l λg j C=>?_;let q:Inv X f u H {s with heap:=g,toks:=s.toks+1}:=I.turned (λb o a e=>(C.2 b a).trans e) A L p N V;let#[o,e,c,d]:=id j;show#[1,AX (s:={s with heap:=g,toks:=s.toks+1}) e c d x8 #[.str ⟨#[x.cps[i]]⟩,H,q,#[1],#[2,_,l,2],j,λb a=>(n b a).1]]
 done:=by
  intro X F J G y i f s u H E I n st B;subst F J G;let#[A,L,O,p,N,V]:=n m xg;let l:x.cps[i]?=jp:=by let e:i=x.cps.size:=B;simp[e]
  rcases M with rfl|rfl
  .exact wpAny_pyNext_ascii_end (I.ok.hd y) st l λg D=>#[2,I.turned (t':=s.toks) (λb o a e=>D b o a e) A L p N V]
  exact wpAny_pyNext_wide_end (I.ok.hd y) st l λg D=>#[2,I.turned (t':=s.toks) (λb o a e=>D b o a e) A L p N V]
 self:=λ_ _ _ _ _ st h=>by
  rcases M with rfl|rfl
  .exact wpAny_pyIter_striter_ascii st h
  show-wpAny_pyIter_striter_wide st h
section
variable{X:bA}{d6:Expr}
def aq4(c:TE):eV:=λb H R=>c b H λx a=>∃z,x=.str z/\R (EX z) a
def Ķ(n:bq X l i):m6 X d6 l (aq4 i):=by
 intro a s g H R I h;show-bL (n a s g H _ I h) λv c w=>?_;let#[x,k,f,r,p]:=w;let#[z,e,q]:=p;subst e;let#[t,2]:=r;let d:∀(ty:String)(_:ty="str_ascii_iterator"\/ty="str_iterator"),Qj X a g d6 R (.ref c.L) {c with heap:=c.heap.push {cls:=.type ty,data:=.fields (List.toArray [.str z t,.int 0 0])}}:=λty A=>by
  show#[c.L,[c.L],6,k,2,f.kept (t':=c.toks) λb o e=>dO _ e,akH _ z t A,#[_,gJ _ rfl,2,2],λb m=>?_,q];let e:b=c.L:=by simpa using m
  subst e;show-f.tN (b7 _) (f.bu.fresh (b7 _))
 cases aB:z.cps.all (·<128)with
 |true=>show-wpAny_pyIter_ascii aB (d _ (.inl rfl))
 |false=>show-wpAny_pyIter_wide aB (d _ (.inr rfl))
end
section
variable{X:bA}{e:Expr}{bO:TE}{lo hi:Option Expr}{dv oS:f6}{pos dI:Pos}
def N1:g5 X (jl .LtE) (λx y H Q=>∃i j,x=.str i/\y=.str j/\Q (.bo (!decide (j.cps.G<i.cps.G))) H):=by intro a s d H x y v u Q I b c h;let#[i,j,2,2,q]:=h;let#[t,2]:=b;let#[f,2]:=c;show-PySem.P.le_str (xm I q rfl)
def Je(c a:Nat):(!decide ((⟨#[c]⟩:Str).cps.G<(⟨#[a]⟩:Str).cps.G))=decide (a<=c):=by
 let h:((⟨#[c]⟩:Str).cps.G<(⟨#[a]⟩:Str).cps.G)↔c<a:=by show([c]:bB) < [a]↔c<a;simp[List.cons_lt_cons_iff]
 by_cases q:c<a
 .rw[cw (h.mpr q),c9 qI];rfl
 rw[c9 λz=>q (h.mp z),cw qI];rfl
def th(x:Str)(lo hi:Option Int):Str:=⟨((x.cps.toList.drop (eD.dD x.cps.size 0 lo)).take (eD.dD x.cps.size x.cps.size hi-eD.dD x.cps.size 0 lo)).toArray⟩
def Ū(i:Int)(n d:Nat):max 0 (min (if i<0 then i+(n:Int)else i) (n:Int))=((eD.dD n d (j3 i):Nat):Int):=(aq.R9 i n d)
def apu(lo hi:Option Int)(n:Nat):afO lo hi 1 n=(dY (eD.dD n n hi-eD.dD n 0 lo)).map (eD.dD n 0 lo+·):=by
 rw[<-ax2];unfold afO;let a:(1:Int)>0:=by decide
 simp only[a,if_true];congr 1
 .cases lo with
  |none=>rfl
  |some i=>show-Ū i n 0
 cases hi with
 |none=>rfl
 |some i=>show-Ū i n n
def Ys(x:Str)(lo hi:Option Int):QF x lo hi=th x lo hi:=by
 unfold QF th;let g:x.Z=x.cps.size:=rfl;rw[g,apu,pick_run];by_cases h:((1:Int)==1&&((dY (eD.dD x.cps.size x.cps.size hi-eD.dD x.cps.size 0 lo)).map (eD.dD x.cps.size 0 lo+·)).Z==x.cps.size)=q4
 .rw[a' h];simp at h;let a:=eD.Wc x.cps.size x.cps.size (b7 _) hi;let b:=eD.Wc x.cps.size 0 (eu _) lo;let d:x.cps.size=0\/eD.dD x.cps.size 0 lo=0:=by lia
  rcases d with d|d
  .have:x.cps=#[]:=Array.eq_empty_of_size_eq_zero d;let#[c]:=x;simp only at this;subst this;simp
  let f:eD.dD x.cps.size x.cps.size hi=x.cps.size:=by lia
  rw[d,f];let#[c]:=x;let#[l]:=c;simp
 rw[a4 h]
inductive aq5(x:aq.V)(lo:(Option Int))(hi:(Option Int))(H:ag)(Q:aX):Prop where
 |mk(z:_)(_:x=.str z)(_:z.Z<=sizeLine)(_:Q (.str (th z lo hi)) H)
def ķ:Kk X aq5:=by
 intro b s N H x v w A lo hi V Q I f n pl K h;let#[z,2,p,q]:=h;let#[t,2]:=f;obtain⟨l,m,r⟩:∃l:Option (Int×Tok),w=partValue l/\l.map (·.1)=lo:=by
  cases pl with
  |none=>show#[jp,2,2]
  |int i t=>show#[j3 (i,t),2,2]
 obtain⟨u,c,d⟩:∃u:Option (Int×Tok),A=partValue u/\u.map (·.1)=hi:=by
  cases K with
  |none=>show#[jp,2,2]
  |int i t=>show#[j3 (i,t),2,2]
 subst m c;show#["str",_,PySem.F.slot_str_getitem.lookup,Ii s z t,4];refine wpAny_getItem_str_slice (l:=l) (u:=u) (st:=jp) n rfl (post_val_or_str ?_);let e:∀(y:Str),y=QF z lo hi->y=th z lo hi:=λy g=>g.trans (Ys z lo hi);let a:(if(((jp:Option (Int×Tok)).map (·.1)).getD 1==1&&(aej z l u jp).Z==z.Z)=q4 then z else(⟨((aej z l u jp).filterMap (z.cps[·]?)).toArray⟩:Str))=th z lo hi:=by show-e _ ?_;unfold QF aej;rw[r,d];rfl
 rw[a];show#[4,λL k=>#[.str (th z lo hi),H,I.tok k,#[L,2],q]];rw[<-Ys];show-dQ (Txt.slice_le z _ _) p
def DR(K:X.calm=q4):ks X (.builtin "all") (λA H Q=>∃(p:Addr)(d:List Bool),A=[.ref p]/\aI X.K H p (d.map V.bo)/\Q (.bo (d.all id)) H):=by
 intro w s G H A T Q I r h;let#[p,d,2,L,q]:=h;let#[u,2,en]:=vals1 r;cases en;let#[c,t,pl,M]:=I.list L;let f:d.Z=c.Z:=by have:=t.Z;rwa [aM]at this
 let#[o,n,C,_]:=id pl;let B:p≠s.L:=e8 (dE C);let x:X.A.in1.handled=jp:=I.ok.hd K;show-call_all_walk (Ej pl.isList ?_);show#[s.L,[s.L,p],[s.L],c.toArray.size,6,λi=>d.getD i q9,2,Ko x _ p B c.toArray,#[#[_,gJ _ rfl,2,2],pl.isList.push _],4,λJ F k=>?_]
 .intro i v O R E y j;let l:c[i]?=j3 v:=by simpa using y
  let hi:i<c.Z:=(fU.mp l).1;let g:(d.map V.bo)[i]?=j3 (V.bo (d.getD i q9)):=by rw[cR,cQ (by lia:i<d.Z)];simp[dB,f▸hi]
  let#[P,m,N]:=t.get g;rw[l]at m;cases m;cases N;show-tf j
 let e:(dY c.toArray.size).all (λi=>d.getD i q9)=d.all id:=by
  rw[f',<-f,Yk];simp only[tv,kF];constructor
  .intro a b g;let#[i,hi,2]:=P4.mp g;have:=a i hi;simpa[dB,hi]using this
  intro a i hi;have:=a d[i] (nZ hi);simpa[dB,hi]using this
 rw[e];show#[.bo (d.all id),H,I.kept λb D z=>k b D (by simpa using e8 (dE z)) (dO _ z),2,q]
inductive aq6(K:aL)(xs:aV)(H:ag)(Q:aX):Prop where
 |mk(x c:V)(Sd:String)(t:Value)(b:Bool)(_:xs=[x,c])(_:c=.ty Sd/\pQ K H x t/\kI K t (.type Sd)=j3 b)(_:Q (.bo b) H)
def sG:ks X (.builtin "isinstance") (aq6 X.K):=by intro a s k H n m Q I r h;let#[x,c,g,t,b,2,#[2,ty,e],q]:=h;let#[u,l,2,en,f]:=vals2 r;cases f;show-ajL I en ty e λd=>#[.bo b,H,I.tok d,2,q]
mutual
inductive m2(K:aL)(H:ag):V->PyData->Prop
 |cf:m2 K H .cf .none
 |bo(b:Bool):m2 K H (.bo b) (.bool b)
 |int(i:Int):m2 K H (.int i) (.int i)
 |str(x:Str):m2 K H (.str x) (.str x)
 |lst{a:Addr}{xs:aV}{ds:gy}:aI K H a xs->A2 K H xs ds->m2 K H (.ref a) (.list ds)
 |tup{a:Addr}{xs:aV}{ds:gy}:cj K H a xs->A2 K H xs ds->m2 K H (.ref a) (.tuple ds)
inductive A2(K:aL)(H:ag):List V->List PyData->Prop
 |nil:A2 K H [] []
 |cons{v:V}{d:PyData}{vs:aV}{ds:gy}:m2 K H v d->A2 K H vs ds->A2 K H (v::vs) (d::ds)
end
end
section
variable{X:bA}{pins:dJ}{aa:St}{H:ag}{s:aS}
theorem DS(I:Inv X pins aa H s){d:PyData}(h:m2 X.K H v d)(r:RelV v u):∃f,Reads s.heap u d f:=
 m2.rec (motive_1:=λv d _=>∀u,RelV v u->∃f,Reads s.heap u d f) (motive_2:=λw ds _=>∀m,cI w m->∃f,ReadsAll s.heap m ds f)
  (λ_ r=>by cases r;show#[_,.none]) (λb _ r=>by cases r;show#[_,.bool b]) (λi _ r=>by let#[t,2]:=r;show#[_,.int i t]) (λx _ r=>by let#[t,2]:=r;show#[_,.str x t])
  (λh _ g u r=>by
   cases r;let#[l,k,#[o,n,e,c,_,d],_]:=I.list h;let#[f,q]:=g _ k;show#[_,.list e c d (by simpa using q)])
  (λh _ g u r=>by
   cases r;let#[l,k,#[o,e,c,n,d],_]:=I.tuple h;let#[f,q]:=g _ k;show#[_,.tuple e c d (by simpa using q)])
  (λ_ r=>by cases r;show#[_,.nil])
  (λ_ _ a b _ r=>by
   cases r with
   |cons r t=>
    let#[f,q]:=a _ r;let#[A,p]:=b _ t;show#[_,.cons q p]) h u r
end
def aD.tup{K:aL}(e:aD H H')(h:cj K H a xs):cj K H' a xs:=by
 rcases h with(h|⟨o,h⟩)|h
 .exact .inl (.inl (e _ _ h))
 .exact .inl (.inr #[o,e _ _ h])
 show-.inr h
section
variable{X:bA}
inductive Rc(K:aL)(neg:Bool)(x:aq.V)(y:aq.V)(H:ag)(Q:aX):Prop where
 |mk(d:_)(e:_)(_:m2 K H x d)(_:m2 K H y e)(_:uZ d=q4)(_:uZ e=q4)(_:Q (.bo (if neg then !ki d e else ki d e)) H)
def anL(f:X.A.units+64<cLine):g5 X (jl .Eq) (Rc X.K q9):=by intro a s r H x y v u Q I b c h;let#[d,e,l,m,g,k,q]:=h;let#[t,n]:=DS I l b;let#[w,p]:=DS I m c;show-eq_dataH n p g k f #[.bo _,H,I,2,q]
def Jf(f:X.A.units+64<cLine):g5 X (jl .NotEq) (Rc X.K q4):=by intro a s r H x y v u Q I b c h;let#[d,e,l,m,g,k,q]:=h;let#[t,n]:=DS I l b;let#[w,p]:=DS I m c;show-ne_dataH n p g k f #[.bo _,H,I,2,q]
mutual
theorem Zv:∀d:PyData,d.canLay0=q4->ki d d=q4
 |.none,_=>rfl
 |.bool b,_=>by simp[ki]
 |.int i,_=>by simp[ki]
 |.str x,_=>by simp[ki]
 |.list xs,h=>by simp only[ki];show-WL xs h
 |.tuple xs,h=>by simp only[ki];show-WL xs h
 |.dict _,h=>by cases h
theorem WL:∀ds:List PyData,uR ds=q4->PyData.eqvAll ds ds=q4
 |[],_=>rfl
 |d::r,h=>by simp only[uR,hN]at h;simp only[PyData.eqvAll,Zv d h.1,WL r h.2,Yj]
end
def ti(val:Nat->Str):Nat->Str->Bool
 |0=>λ_=>q9
 |i+1=>λk=>ti val i k||decide (k=val i)
def qG(val:Nat->Str):Nat->Nat
 |0=>0
 |i+1=>if ti val i (val i)then qG val i else qG val i+1
theorem Â(val:Nat->Str):∀i,qG val i<=i
 |0=>b7 _
 |i+1=>by have:=Â val i;unfold qG;split<;>lia
theorem Y_(val:Nat->Str)(k:Str):∀i,ti val i k=q4↔∃j,j<i/\val j=k
 |0=>by simp[ti]
 |i+1=>by
  simp only[ti,Bool.or_eq_true,Y_ val k i,decide_eq_true_eq];constructor
  .rintro(⟨j,a,e⟩|e)
   .show#[j,9,e]
   show#[i,9,e.J]
  rintro⟨j,a,e⟩;by_cases h:j=i
  .subst h;show-.inr e.J
  show-.inl #[j,9,e]
theorem Zb(val:Nat->Str):∀n,(∀i j,i<j->j<n->val i≠val j)->qG val n=n
 |0,_=>rfl
 |n+1,h=>by
  let c:=Zb val n λi j a b=>h i j a qI;let hm:¬ti val n (val n)=q4:=λz=>by let#[j,d,e]:=(Y_ val (val n) n).mp z;show-h j n d qI e
  unfold qG;rw[a4 hm,c]
def adh(x:Str)(t:Tok):QN x (.str x t)=q4:=by simp[QN]
end
def ajQ{A:ee}{R:wh->aS->Prop}{C q:bS}{n:Nat}{x:Nat->Value->Prop}{G:Nat->Heap->Prop}(W:Walks prog w A.in1 I C q n x G)(S:Addr)(f:S∉C)(val:Nat->Str)(M:∀i v,x i v->∃t,v=.str (val i) t)(y:n+1<scanBound):∀(k i:Nat)(s:aS),n-i=k->i<=n->G i s.Q->s.heap.SetOf (strKind prog w) S (ti val i) (qG val i)->
   (∀c l,(∀b o,b≠S->b∉q->s.heap.get? b=j3 o->c.get? b=j3 o)->c.SetOf (strKind prog w) S (ti val n) (qG val n)->R (.ok (.ret .none)) {s with heap:=c,toks:=l})->
   pe (ba prog w) A (.builtin "set.update.loop" #[[.ref S,.ref I],[]]) R s:=by
 let g:S∉q:=λz=>f (W.sub _ z);let a:∀{h c:Heap}{u:Str->Bool}{m:Nat},(∀o,h.get? S=j3 o->c.get? S=j3 o)->h.SetOf (strKind prog w) S u m->c.SetOf (strKind prog w) S u m:=λd⟨o,Y,X,t,aW,r⟩=>#[o,Y,X,t,d o aW,r]
 intro k
 induction k with
 |zero=>
  intro i s T hi st j V;obtain rfl:i=n:=by lia
  show-B' aiQ ?_;rw[IZ ć _];show aO _ A.in1 (ky (.ref I) >>=_) _ _ s;show-ax (W.done s _ _ st λc l d=>?_);show aO _ A.in1 (ret fW) _ _ _;show-bk (V c l (λb o _ y e=>d b o y e) (a (λo e=>d S o g e) j))
 |succ k P=>
  intro i s T hi st j V;let B:i<n:=by lia
  show-B' aiQ ?_;rw[IZ ć _];show aO _ A.in1 (ky (.ref I) >>=_) _ _ s;show-ax (W.item i s _ _ B st λv ai l Z L d=>?_);let#[t,2]:=M i v Z;let H:=a (λo e=>d S o g e) j;show aO _ A.in1 (tW [wk (val i) t] (setAdd S (.str (val i) t)) >>=_) _ _ _;show-ax (nQ ?_);unfold setAdd;show-nQ (ax ((strKind prog w).pyHash (k:=val i) (adh (val i) t) ?_));let K:qG val i+1<scanBound:=by have:=Â val i;lia
  refine wpAny_setAddHashed_of (knd:=strKind prog w) (adh (val i) t) rfl H K λak D J=>?_;show-bk #[M0 ć _,P (i+1) _ qI B (W.frame _ _ _ L λb U o e=>(D.2 b λz=>f (z▸U)).trans e) J λQ N p O=>?_];show-V Q N (λb o F E e=>p b o F E ((D.2 b F).trans (d b o E e))) O
set_option maxHeartbeats 8000000 in
def af2{A:ee}{E:cC}{s:aS}{a:lY}{val:Nat->Str}{Q:cC}(X:A.handled=jp)(u:s.heap.IsList l a)(J:∀(i:Nat)(v:Value),a[i]?=j3 v->∃t,v=.str (val i) t)(P:a.size+1<scanBound)(h:∀(f:Heap)(g:Nat),f.SetOf (strKind prog w) s.heap.objs.size (ti val a.size) (qG val a.size)->(∀b o,s.heap.get? b=j3 o->f.get? b=j3 o)->Q (.ref s.L) {s with heap:=f,toks:=g}):
  aO (ba prog w) A (call (.type "set") [.ref l]) Q E s:=by
 let#[c,dv,O]:=F.called_set.mro;let fi:=F.called_set.made;let hK:=F.called_set.sub;let w2:=F.called_set.notType;let Z:=F.called_set.canCreate;let Ms:=F.typeCall_set_1 (.ref l);show-te (atm ?_);show aO _ _ (callAny (.type "set") _) _ _ _;show-bk #[O4 _ xL,B' F.entry_type_call ?_];rw[Around.under_plain (weight_type_call_type "set" [.ref l] []) rfl]
 repeat (any_goals (first|assumption|wp_step))
 generalize k:s.L=S at *;show-r9 (code_set_new_1 (.ref l) (E:=E) (Q₁:=λy C=>∃d:Bool,y=.ref S/\C={s with heap:=s.heap.push {cls:=.type "set",dict:=jp,data:=.set #[] 0 (.fresh 0 0 d)}}) λd=>#[d,by rw[k],2]) λr C p=>?_;cases r with
 |error e=>show-p
 |ok eQ=>
  cases eQ with
  |ret y=>
   let#[d,2,2]:=p;let I:(s.heap.push {cls:=.type "set",dict:=jp,data:=.set #[] 0 (.fresh 0 0 d)}).get? S=j3 {cls:=.type "set",dict:=jp,data:=.set #[] 0 (.fresh 0 0 d)}:=by rw[<-k];exact gJ _ rfl
   let Y:Ī {s with heap:=s.heap.push {cls:=.type "set",dict:=jp,data:=.set #[] 0 (.fresh 0 0 d)}} (.ref S) "set":=#[_,I,2]
   let fk:=F.called_set.init.lookup;let e2:=F.called_set.init.bind (.ref S)
   repeat (any_goals (first|assumption|wp_step))
   show-r9 (B_ (R:=wants (λr D=>r=.none/\∃f g,D={s with heap:=f,toks:=g}/\f.SetOf (strKind prog w) S (ti val a.size) (qG val a.size)/\(∀b o,s.heap.get? b=j3 o->f.get? b=j3 o)) E)
    F.called_set.init.plain F.entry_set_init (check_set_init_1 Y ?_)) λU D V=>?_
   .let#[#[kx,d_,T,nE],B,q,nl,H]:=id u;simp only at q H;subst q H;let M:=dO (h:=s.Q) {cls:=.type "set",dict:=jp,data:=.set #[] 0 (.fresh 0 0 d)} B;let dk:=F.sub_list_set;let dI:=F.sub_list_frozenset;let eR:(wm "list"==wm "dict")=q9:=by decide
    let x:=u.push (o:={cls:=.type "set",dict:=jp,data:=.set #[] 0 (.fresh 0 0 d)});unfold Builtin.«set.__init__» noKeywords azl;generalize K:HM=m6
    wp_walk
    subst K;show-Ej x (ax (wpAny_runValue ?_));let m:l<S:=by rw[<-k];show-dE B
    let hsz:(s.heap.push {cls:=.type "set",dict:=jp,data:=.set #[] 0 (.fresh 0 0 d)}).objs.size=S+1:=by rw[uM,k]
    show-ajQ (Ko (A:=A.in1.in1.in1) (by simp[X]) _ l (by rw[hsz];show-e8 (wa m)) a) S ?_ val J P (a.size-0) 0 _ qI (eu _) #[#[_,gJ _ rfl,2,2],x.push _] ?_ ?_
    .rw[hsz];simp only[et,dU,or_false,not_or];show#[e8 (yw _),wb m]
    .let L:=dO (h:=s.heap.push {cls:=.type "set",dict:=jp,data:=.set #[] 0 (.fresh 0 0 d)}) {cls:=.type "list_iterator",data:=.fields (List.toArray [.ref l,.int 0 0])} I;exact(az5 (knd:=strKind prog w) d).setOf L (by unfold scanBound;lia)
    intro f g N n;show aO _ _ _ _ _ _;show-bk ?_;show aO _ _ (ret fW) _ _ _;show-bk #[2,f,g,2,n,λb o e=>?_];let G:b<S:=by rw[<-k];show-dE e
    show-N b o (e8 G) (λz=>e8 (wa G) (by rw[hsz]at z;simpa using z)) (dO _ (dO _ e))
   cases U with
   |error e=>show-V
   |ok j=>
    cases j with
    |ret r=>
     let#[2,f,g,2,n,N]:=V
     repeat (any_goals (first|assumption|wp_step))
     show-h _ _ n N
    |_=>show-V.elim
  |_=>show-p.elim
def Kp(P:cq)(w:bW)(a:Addr)(n:Nat):hP:=.ext λh=>∃S,h.SetOf (strKind P w) a S n
section
variable{X:bA}
def akI(N:X.calm=q4):ks X (.type "set") (λA H Q=>∃(p:Addr)(a:bE),A=[.ref p]/\aI X.K H p (a.map V.str)/\a.Z<1000/\∀q,H q=jp->Q (.ref q) (upd H q (Kp X.prog X.w q (qG (λi=>a.getD i n7) a.Z)))):=by
 intro w s G H A Z Q I r h;let#[p,a,2,j,O,q]:=h;let#[u,2,en]:=vals1 r;cases en;let#[c,l,pl,U]:=I.list j;let b:a.Z=c.Z:=by have:=l.Z;rwa [aM]at this
 let hsz:c.toArray.size=a.Z:=by rw[b];rfl
 show-af2 (val:=λi=>a.getD i n7) (I.ok.hd N) pl.isList (λi v e=>?_) (by rw[hsz];unfold scanBound;lia) λT F f x=>?_
 .let k:c[i]?=j3 v:=by simpa using e
  let n:i<a.Z:=by rw[b];exact(fU.mp k).1
  let L:(a.map V.str)[i]?=j3 (V.str (a.getD i n7)):=by rw[cR,cQ n];simp[dB,n]
  let#[Y,g,m]:=l.get L;rw[k]at g;cases g;show-m
 rw[hsz]at f;show#[.ref s.L,_,I.laid x (b7 _) ?_,2,q _ (I.bu.fresh (b7 _))];let#[o,R,P,t,aW,m]:=id f;show#[#[_,f],#[o,aW],λJ M⟨K,y,E,C,D,B,z⟩d=>#[K,y,E,C,D,d _ B,z]]
def afw:ks X (.builtin "len") (λd H Q=>∃q n,d=[.ref q]/\H q=j3 (Kp X.prog X.w q n)/\Q (.int n) H):=by
 intro c s w H d K Q I r h;let#[a,n,2,l,q]:=h;let#[u,2,en]:=vals1 r;cases en;let#[#[S,o,b,A,t,aW,hex,m,6,g,k,p],6]:=(show e9 X.prog X.w H s.heap a (Kp X.prog X.w a n)from I.bu a _ l)
 subst p;let f:(b.size:Int)<2 ^ 63:=by unfold scanBound at g;lia
 show-call_len_set aW hex m k f #[.int b.size,H,I.tok _,#[1],q]
def anM{h:Heap}(x:e9 P w H h a o):∃b,h.get? a=j3 b:=by
 cases o with
 |lst xs=>let#[6,6,e]:=x;show#[_,e]
 |tup xs=>let#[6,_,b,e,_]:=x;show#[b,e]
 |cZ i=>let#[6,6,b,6,e,_]:=x;show#[b,e]
 |c3 i=>let#[6,6,b,6,e,_]:=x;show#[b,e]
 |set S n=>let#[b,6,_,e,_]:=x;show#[b,e]
 |ins C al fs=>let#[6,_,e,_]:=x;show#[_,e]
 |own y=>let#[b,e]:=x;show#[b,e]
 |AA fs=>let#[_,#[b,6,e,_],_]:=x;show#[b,e]
 |M' lo hi=>let#[6,_,e]:=x;show#[_,e]
 |fp b u=>let#[e,_]:=x;show#[_,e]
 |s_ j=>show#[_,(show h.get? a=j3 _ from x)]
 |met f y=>show#[_,(show h.get? a=j3 _ from x)]
 |ext c=>let#[_,#[b,e],_]:=x;show#[b,e]
def akJ{H:ag}{h:Heap}(ok:gw P w H h)(e:h.get? a=jp):H a=jp:=by
 cases q:H a with
 |none=>rfl
 |some o=>
  let#[b,z]:=anM (ok a o q);rw[e]at z;cases z
structure kR(P:cq)(w:bW)(fr:List Env)(H:ag)(s:aS)(aG:Addr)(cls a0:Value)(H':ag)(B:Heap)(s':aS):Prop where
 eQ:uL B fr aG cls a0 s'.Q
 os:s'.os=s.os
 bare:uv s'.gens
 ok:gw P w H' B
 un:iv (fg fr) [] H H' s.heap s'.Q
 jM:∀b o,s.heap.get? b=j3 o->b∉fg fr->∃cF,B.get? b=j3 cF/\(H b=jp->cF=o)
def fE(P:cq)(w:bW):o4:=λd H s E e f=>∃(b:Addr)(a c:Value)(H':ag)(B:Heap),e=.ref b/\kR P w d H s b a c H' B f/\E a jp H'
end
section
variable{P:cq}{w:bW}{fr:List Env}{H H':ag}{s s':aS}{aG:Addr}{cls a0:Value}{B:Heap}
def kR.move(T:kR P w fr H s aG cls a0 H' B s'){d:Heap}(k:uL B fr aG cls a0 d)(r:s'.heap.UpToSlots d):kR P w fr H s aG cls a0 H' B {s' with heap:=d}:=by
 show#[k,T.os,T.bare,T.ok,#[λb o e n a f=>?_,λb o e n a f=>?_,T.un.free,λb o e f=>?_,T.un.hE,T.un.i0,T.un.jx],T.jM]
 .let#[g,z,q]:=T.jM b o e a;rw[q n]at z;show-k.1 b o z
 .let#[A,z]:=T.un.slot b o e n a f;let#[_,t,c,m]:=T.eQ.2.2.1.mem a;rw[z]at c;cases c;let#[p,l]:=r b _ z m;show#[p,l]
 by_cases a:b∈fg fr
 .let#[_,t,c,m]:=T.eQ.2.2.1.mem a;let#[p,l]:=r b _ c m;show#[_,l]
 let#[g,z,_]:=T.jM b o e a;show#[g,k.1 b g z]
def kR.bu(T:kR P w fr H s aG cls a0 H' B s'):gw P w H' s'.Q:=(T.ok.kept λb u e=>T.eQ.1 b u e)
def kR.new(T:kR P w fr H s aG cls a0 H' B s'):H' aG=jp:=(akJ T.ok T.eQ.2.1)
def kR.awY(T:kR P w fr H s aG cls a0 H' B s')(e:s.heap.get? b=j3 o):b≠aG:=by
 rintro rfl;by_cases a:b∈fg fr
 .let#[_,n,c,d]:=T.eQ.2.2.1.mem a;let#[m,k,g,_,f,_]:=T.eQ.first;rw[g]at c;cases c;show-d k f
 let#[l,z,_]:=T.jM b o e a;rw[T.eQ.2.1]at z;cases z
end
section
variable{P:cq}{w:bW}{K:aL}{mg:b5}{base:Heap}{N:bE}{qual:Str}{scope:Scope}{f:Addr}{cdv:Value}{A:ee}{outer:List Env}{s:aS}{H:ag}{E:bM}
abbrev eF(P:cq)(w:bW)(K:aL)(mg:b5)(base:Heap)(N:bE)(qual:Str)(scope:Scope)(f:Addr)(cdv:Value)(A:ee)(outer:List Env)(s:aS)(H:ag)(E:bM):bA:=
 jR (fE P w) P w K mg base N qual scope f cdv A outer s H E
theorem zU(I:Inv (!eF) pins h H1 s1){b:Addr}(e:s.heap.get? b=j3 o)(a:b∉fg outer):
  b∉fg (!eF).stack:=λz=>by
 rcases et.mp (I.D9 b z)with q|q
 .let l:=dE e;let c:s.L<=b:=by have:=I.ok.above;rwa[<-q]at this
  show-qN _ (iR l c)
 show-a q
def agi{k:aS}{D:Heap}(I:Inv (!eF) pins R H1 k)(r:Zk k.heap D B cls Y)(G:E cls jp H1):(!eF).dw (.ref B) {k with heap:=D}:=by
 let O:=I.ok.frames;let M:∀d∈(!eF).stack,∀b,d.frame=j3 b->b∈fg (!eF).stack:=λd J b a=>JJ.mpr #[d,J,a];let y:∀b o,H1 b=j3 o->b∉fg (!eF).stack:=λb o e z=>by rw[I.NC b z]at e;cases e
 refine wpAny_leaves_madeW (base:=n4 k.heap (fg (!eF).stack)) O rfl (λb o q=>Qq _ q) (aja I.stack M) r λT t i X Q x=>?_;let p:∀b o,k.heap.get? b=j3 o->b∉fg (!eF).stack->(n4 k.heap (fg (!eF).stack)).get? b=j3 o:=λb o e n=>Ki _ e n;show#[B,cls,.ref t,H1,1,#[i,I.os,I.bare,λb j e=>(I.bu b j e).pO (λc u L q=>p c u q ?_) (λ_ q=>q) λ_ _ q=>q,#[λb o e n a l=>?_,λb o e n a l=>?_,I.base.free,λb o e l=>?_,I.base.hE,I.base.i0,I.base.jx],λb o e a=>?_],G]
 .rcases L with rfl|L
  .exact y c _ e
  show-y c _ L
 .exact i.1 b o (p b o (I.base.keep b o e n a l) (zU I e a))
 .let#[U,z]:=I.base.slot b o e n a l;let#[_,j,m,h]:=I.l5.mem a;rw[z]at m;cases m;let#[F,V]:=x b _ (r.keeps _ _ z) h;show#[F,V]
 .let#[g,z]:=I.base.there b o e l;by_cases a:b∈fg outer
  .let#[_,j,m,h]:=I.l5.mem a;let#[F,V]:=x b _ (r.keeps _ _ m) h;show#[_,V]
  show#[g,i.1 b g (p b g z (zU I e a))]
 let#[g,z]:=I.base.there b o e (by simp[eF,jR]);show#[g,p b g z (zU I e a),λn=>?_];let C:=I.base.keep b o e n a (by simp[eF,jR]);rw[z]at C;show-gk C
def sN:nx (fE P w) (!eF) E:=by
 rintro i aa G Y e X I ⟨F,m,y,H',B,rfl,T,J⟩;refine ayP I.ok.frames rfl T.eQ λak l Q=>?_;let j:iv (fg (!eF).stack) [] G H' Y.heap X.Q:=T.un;let t:∀b o,s.heap.get? b=j3 o->b∉fg outer->∃c,B.get? b=j3 c/\(H b=jp->c=o):=λb o e a=>by let#[r,z]:=I.base.there b o e (by simp[eF,jR]);let#[c,p,q]:=T.jM b r z (zU I e a);show#[c,p,λn=>?_];let g:=I.base.keep b o e n a (by simp[eF,jR]);rw[z]at g;cases g;show-q (I.base.free b _ e n (by simp[eF,jR]))
 show#[F,m,y,H',B,2,#[l,T.os.trans I.os,T.bare,T.ok,#[λb o e n a d=>?_,λb o e n a d=>?_,λb o e n d=>?_,λb o e d=>?_,λb x q=>T.un.hE b x (I.base.hE b x q),λb o u q=>T.un.i0 b o u (I.base.i0 b o u q),λb R q=>?_],t],J]
 .let#[c,z,q]:=t b o e a;rw[q n]at z;show-l.1 b o z
 .let#[bK,z]:=I.base.slot b o e n a d;let L:b∈fg (!eF).stack:=by show b∈fg (_::outer);unfold fg;rw[E4];show-n0 _ a
  let#[Z,g]:=j.slot b _ z (I.base.free b o e n d) L xg;let#[_,h,k,V]:=T.eQ.2.2.1.mem L;rw[g]at k;cases k;let#[U,p]:=Q b _ g V;show#[U,p]
 .let#[r,z]:=I.base.there b o e d;exact j.free b r z (I.base.free b o e n d) xg
 .by_cases a:b∈fg outer
  .let#[_,h,k,V]:=l.2.2.1.mem a;show#[h,k]
  let#[c,z,_]:=t b o e a;show#[c,l.1 b c z]
 let#[M,D]:=I.base.jx b R q;let#[O,C]:=T.un.jx b _ D;show#[M++O,by rw[C,ED]]
structure Exc(K:aL)(mg:b5)(x:Str)(C:Addr)(bm:dR)(hg:String):Prop where
 bound:mg x=j3 (.ref C)
 obj:BH K C bm hg=q4
def Exc.own(e:Exc K mg x C bm j)(X:K.In h):OwnCls x C bm j mg h:=by
 show#[e.bound,4];let q:=e.obj;unfold BH at q;split at q
 .rename_i L V r aW;split at q
  .rename_i M k o u y z n B hm g;simp only[hN,r3,I3]at q;obtain⟨⟨⟨⟨⟨rfl,rfl⟩,d⟩,p⟩,a⟩,c⟩:=q;let#[F,t,D,G,I,i,J,sub,l,b,del]:=V;dsimp only at hm d a c;subst hm d;let#[m]:=r;simp only at g;subst g;show#[k,G,F,I,t,i,J,sub,l,b,L,o,u,y,z,B,_,X _ _ aW,.of_isNs (PySem.W.isNs_of_in X a),PySem.W.nsMap_none_of_in X a c,PySem.W.tail_of_in X p]
  cases q
 cases q
def anN(C:Addr)(E:bM)(c:gb):fo:=λ_ b H=>c b H λd a=>d.Z<=sizeLine/\E (.ref C) jp a
def DT{g:Pos}{d:Expr}{a:hy}{k:gb}(F:vQ B e Y bm)(O:Exc K mg x C bm e)(L:jd (!eF) x)(r:fN (!eF) (d::a) k)(y:(x==("__debug__":Str))=q9:=by decide)(l:dM (d::a) (!eF).env=(q9,eval d (!eF).env)::dM a (!eF).env:=by rfl)(d3:(hr g (dM a (!eF).env)).any (·.1)=q9:=by rfl):
  f3 (!eF) (.Raise (j3 (.Call (.Name x np) (d::a) [] g)) jp pos) (anN C E k):=by
 intro b G t p D I h;let#[i,J,nm,q,bs,hdct,sn,sub,ab,col,dd,k0,k1,k2,k3,k5,mN,u,j,n,T]:=(O.own I.mod.sJ).obj;let M:BH K C bm e=q4:=O.obj;refine wpAny_Raise_call_subT (C:=C) (nm:=nm) (q:=q) (N:=J) (bs:=bs) (bm:=i) (hdct:=hdct) (sn:=sn) (sub:=sub) (ab:=ab) (col:=col) (dd:=dd) (k0:=k0) (k1:=k1) (k2:=k2) (k3:=k3) (k5:=k5)
  F (mN:=mN) (T.hasType F.hasBase) (I.ok.hd rfl) ?_ n (sL I L O.bound #[2,4] y)
 .rw[l];show(q9||(hr g (dM a (!eF).env)).any (·.1))=q9;rw[d3];rfl
 let m:=r g b G t p _ I h;rw[l]at m⊢;show-I_ (bL m λZ X⟨vs,R,c,V,z,o⟩=>#[2,by rwa[<-V.Z],c.jk _ _ u,j.keeps c.jk,T.keeps c.jk,λU Q hm=>agi c hm o])
def ra{st:Stmt}{b:bE}{k:Nat}{c:fx}(F:cp K x qual st f fd)(S:cJ N b (b_ st))(n:∀(cdv:Value)(A:ee)(outer:List Env)(s:aS)(H:ag)(a:aV)(Q:aX)(E:bM),gD k (A.deeper (qW qual (b_ st) s.heap.objs.size f cdv))->c a H Q E->
   ∃t,gm (-eF N qual (b_ st) f cdv A outer s H E) (mK st) t/\t {cX:=λ_ H'=>Q .cf H',rt:=Q} (start N a) H)(len:∀a H Q E,c a H Q E->a.Z=b.Z:=by intro _ _ _ _ h;first|(cases h;subst_vars;rfl)|((repeat let#[_,h]:=h);subst_vars;rfl)|(cases h.1;subst_vars;rfl)):-aH (fE P w) (k+1) f fd b c:=by let#[V,r,di,g,i,p,cdv,L,e,2,lk,l]:=F.ex;show-QB lk l S len λA outer s H a Q E d m=>n cdv A outer s H a Q E d m
end
def Kr(X:bA)(b:dJ)(k:St)(E:bM)(e:Value)(l:aS):Prop:=
 ∃(d:ag)(f:aS)(c:Addr)(a g:Value)(H':ag)(B:Heap),e=.ref c/\Inv X b k d f/\kR X.prog X.w X.stack d f c a g H' B l/\E a jp H'
abbrev tF:=bM->TE
abbrev p9:=Ends->(St->bM)->St->ag->Prop
def ù(X:bA)(e:Expr)(t:tF):Prop:=
 ∀(a:dJ)(s:aS)(b:St)(H:ag)(Q:aX)(E:bM),Inv X a b H s->t E b H Q->aO (ba X.prog X.w) X.A (eval e X.env) (ir X a b Q) (Kr X a b E) s
def þ(X:bA)(st:Stmt)(t:p9):Prop:=
 ∀(a:dJ)(s:aS)(b:St)(H:ag)(D:Ends)(E:St->bM),Inv X a b H s->t D E b H->aO (ba X.prog X.w) X.A (exec st X.env) (uY X a D) (λe d=>∃c,Kr X a c (E c) e d) s
def aaF(X:bA)(d:List Stmt)(t:p9):Prop:=
 ∀(a:dJ)(s:aS)(b:St)(H:ag)(D:Ends)(E:St->bM),Inv X a b H s->t D E b H->aO (ba X.prog X.w) X.A (execs d X.env) (uY X a D) (λe f=>∃c,Kr X a c (E c) e f) s
section
variable{X:bA}{e o:Expr}{es:hy}{pos fP p:Pos}{k:Nat}{f C:Addr}{fd:m3}{ps:bE}{sp:fx}{ck:TE}{t:gb}{m x:Str}
def alN(F:aH X.prog X.w X.K X.mg X.base (fE X.prog X.w) k f fd ps sp)(n:gD k X.A)(l:Binds X.K fd ps [])(I:Inv X pins i H s)(r:cI vs us)(h:sp vs H Q E):aO (ba X.prog X.w) X.A (call (.ref f) us) (ir X pins i Q) (Kr X pins i E) s:=by
 let w:(us++[]).Z=ps.Z:=by rw[lS,<-r.Z];show-F.len _ _ _ _ h
 let c:=l s us I.eN w;rw[lS]at c;show-te (r9 (F.run X.A X.stack s H #[us,[]] us vs Q E n I.Ga c r h) λr K a=>?_);cases r with
 |error e=>
  let#[g,b,d,H',B,2,T,A]:=a;show#[H,s,g,b,d,H',B,2,I,T,A]
 |ok eQ=>
  cases eQ with
  |ret u=>show-I.after a
  |next=>show-iu a
  |brk=>show-iu a
  |cont=>show-iu a
theorem HB{a:Type}{X:bA}{pins:dJ}{M:m5}{c:Sem a}{Q:a->aS->Prop}{E:cC}(h:aO M A c Q (λ_ _=>False) s):aO M A c Q E s:=
 fC h (λ_ _ q=>q) λ_ _ z=>iu z
def ĸ(C:Addr)(m:Str)(sp:fx)(ck:TE)(t:gb):tF:=λE=>QA C m sp [] E ck t
def amv{pl:Sem Bool}(J:bq X.ud o ck)(c:fw X.K C)(hm:Meth X.K C m f)(F:aH X.prog X.w X.K X.mg X.base (fE X.prog X.w) k f fd ps sp)(y:gD k X.A)(i:Binds X.K fd ps [])(L:fN X.ud (e::es) t)(M:dM (e::es) X.env=(q9,eval e X.env)::dM es X.env:=by rfl)(d3:(hr pos (dM es X.env)).any (·.1)=q9:=by rfl)(z:eval (.Call (.Attribute o m fP) (e::es) [] pos) X.env=(do
   let A <-eval o X.env
   vC fP.atName
   let(f,first) <-tW [A] (y9 A m pl)
   yQ pos f first (hr pos (dM (e::es) X.env)) (od pos (oH [] X.env))):=by rfl):
  ù X (.Call (.Attribute o m fP) (e::es) [] pos) (ĸ C m sp ck t):=by intro pins s n H Q E I h;show-Fz (pl:=pl) (HB (X:=X) (pins:=pins) (bL (J pins s n H _ (I.mr _) h) λu O d=>?_)) z;let#[x,K,b,B,a,P,R,G,N,l,q]:=d;subst G;obtain rfl:u=cM a:=B;let b:=b.nM;show-HF b N c hm l ?_;show-yB (first:=[.ref a]) (h₀:=X.base) I.ok.mod.sJ hm.fK (HB (X:=X) (pins:=pins) (bL (L pos pins O n K _ (b.mr _) q) λus T d=>?_)) M d3;let#[vs,j,w,r,D]:=d;show#[w.nM.eN,4];show-alN (us:=.ref a::us) (vs:=.ref a::vs) F y i w.nM (.cons rfl r) ?_;let g:sp (V.ref a::(vs++[])) j Q E:=D;rwa[lS]at g
def anO(c:tF):p9:=λD E a H=>c (E a) a H λ_ b=>D.cX a b
def akK{st:Stmt}{t:p9}(c:þ X st t):aaF X [st] t:=by
 intro a s b H D E I h;show-Od (bL (c a s b H D E I h) λf d q=>?_);cases f with
 |next=>show-vI q
 |ret v=>show-q
 |brk=>show-q
 |cont=>show-q
end
def x6(a C:Addr):hP:=.ext λh=>∃o,h.get? a=j3 o/\o.cls=.ref C
def l'(K:aL)(C R:Addr):Bool:=match K.lookup C with
 |some ⟨.type "type",_,.cls e,i⟩=>(match e.mro,i.G with
  |.ref h::bm,[_,_,_,_,j3 (.builtin _),_]=>h==C&&!e.hasDel&&bm.contains (.type "BaseException")&&(cM C::bm).contains (.ref R)
  |_,_=>q9)
 |_=>q9
def afl{K:aL}{h:Heap}{C:Addr}(X:K.In h)(q:l' K C R=q4):∃w A N g b c L sub d a k l m p r t y,
  h.get? C=j3 (Cf w A C N g b c L sub d a k l m p r t y)/\b.contains (.type "BaseException")=q4/\(cM C::b).contains (.ref R)=q4:=by
 unfold l' at q;split at q
 .rename_i k u s aW;split at q
  .rename_i D b l m p r n t hm e;simp only[hN,I3]at q;obtain⟨⟨⟨f,V⟩,j⟩,o⟩:=q;let f:=r3.mp f;subst f;let#[w,g,z,B,A,x,L,sub,d,a,del]:=u;dsimp only at hm V;subst hm V;let#[i]:=s;simp only at e;subst e;show#[w,A,B,g,b,x,L,sub,d,a,k,l,m,p,r,t,n,X _ _ aW,j,o]
  cases q
 cases q
def O'{M:m5}{E:cC}{K:aL}{s:aS}{k:Obj}{Q:Bool->aS->Prop}(X:K.In s.Q)(y:l' K C R=q4)(q:l' K R R=q4)(J:s.heap.get? j=j3 k)(m:k.cls=.ref C)(F:Q q4 s):aO M A (excMatches (.ref j) (.ref R)) Q E s:=by
 let#[nm,sY,N,bs,Z,c,sn,sub,T,G,dd,k0,k1,k2,k3,k5,hg,I,U,a]:=afl X y;let#[O,D,P,u,l,i,z,B,o,x,qc,r,w,L,V,e,p,b,H,h]:=afl X q;let n:(cM R::l).contains (.type "BaseException")=q4:=by rw[ahE,H,afD]
 let f:=tc_notTuple;let#[Y,g,d,t,os]:=s;unfold excMatches
 repeat (first|(with_reducible show-k8 J ?_;rw[m])|with_reducible refine k8 b ?_|(with_reducible show-Xj b ?_;rw[n])|(with_reducible show-Xj I ?_;rw[a])|wp_step)
 show-F
abbrev sO(X:bA)(a:Addr):bA:={X with A:=X.A.mark (j3 (.ref a)),calm:=q9,dw:=λ_ _=>False}
section
variable{X:bA}{pins:dJ}{aa:St}{H:ag}{s:aS}
theorem Inv.oR(I:Inv X pins aa H s)(a:Addr):Inv (sO X a) pins aa H s:=
 #[#[I.ok.mod,I.ok.kind,I.ok.glob,I.ok.blt,I.ok.above,I.ok.inj,I.ok.has,I.ok.yP,λz=>bt (show q9=q4 from z) gZ,I.ok.frames,I.ok.uh,I.ok.Lf,I.ok.bs,I.ok.tG,I.ok.zJ,I.ok.Cg,I.ok.l5,I.ok.vb],I.os,I.bare,I.base,I.loc,I.cell,I.free,I.pj,I.pin,I.bu,I.len]
theorem Inv.Ik(a:X.calm=q4->X.A.handled=jp)(I:Inv (sO X e) pins aa H s):Inv X pins aa H s:=
 #[#[I.ok.mod,I.ok.kind,I.ok.glob,I.ok.blt,I.ok.above,I.ok.inj,I.ok.has,I.ok.yP,a,I.ok.frames,I.ok.uh,I.ok.Lf,I.ok.bs,I.ok.tG,I.ok.zJ,I.ok.Cg,I.ok.l5,I.ok.vb],I.os,I.bare,I.base,I.loc,I.cell,I.free,I.pj,I.pin,I.bu,I.len]
def Inv.forget{w:Heap}{Q:Nat}{i:Nat}{x:Str}(I:Inv X pins aa H s)(G:X.N.Nodup)(K:X.N[i]?=j3 x)(a:jT X.env.locals s.heap w)(T:∀m,s.heap.Ns X.env.locals m->∃v,w.Ns X.env.locals (λy=>if y=x then v else m y)):Inv X pins (aa.set i jp) H {s with heap:=w,toks:=Q}:=by
 let#[m,P,h]:=id I.loc;let#[v,O]:=T m P;let N:=I.r8;let l:∀b o,X.fB.heap.get? b=j3 o->b≠X.env.locals:=λb o e=>e8 (iR (dE e) I.ok.above);let V:i<aa.Z:=by rw[I.len];exact(fU.mp K).1
 show#[I.ok,I.os,I.bare,#[λb o e n r f=>(a.2 b (l b o e)).trans (I.base.keep b o e n r f),λb o e n r f=>?_,I.base.free,λb o e f=>?_,I.base.hE,I.base.i0,I.base.jx],#[_,O,λj y u A g C=>?_],λy c e=>?_,I.free,I.pj,λp B=>?_,alL I.bu I.free a,by simpa using I.len]
 .let#[D,z]:=I.base.slot b o e n r f;show#[D,(a.2 b (l b o e)).trans z]
 .let#[E,z]:=I.base.there b o e f;show#[E,(a.2 b (l b o e)).trans z]
 .by_cases t:j=i
  .subst t;rw[φ V]at g;cases g
  rw[υ (e5 t)]at g;let#[R,F,q]:=h j y u A g C;show#[R,F,4];rcases q with⟨k,e⟩|⟨k,c,e,z⟩
  .refine .inl #[k,4];have:y≠x:=λe=>t (X2 G A (e▸K));simp[this,e]
  show-.inr #[k,c,e,z.sameBut a (N y c e)]
 .let#[M,z]:=I.cell y c e;show#[M,z.sameBut a (N y c e)]
 let#[e,n,L,J,d]:=I.pin p B;show#[(a.2 p.1 L).trans e,n,L,J,d]
end
def kR.inv{X:bA}{f:aS}(w:Inv X pins i j sc)(a:kR X.prog X.w X.stack j sc h cls s H' B f)(g:e9 X.prog X.w (upd H' h u) f.heap h u):Inv X pins i (upd H' h u) f:=by
 let k:∀b o,sc.heap.get? b=j3 o->b≠h:=λb o e=>a.awY e;let d:=a.new;show-w.FZ (s':=f) (ch:=[]) a.os #[a.un.keep,a.un.slot,λb o e r p=>by rw[aR (k b o e)];show-a.un.free b o e r p,a.un.there,λb n e=>?_,λb o u e=>?_,λb t e=>?_] ?_ a.bare (λb z=>bt z xg)
 .have:=a.un.hE b n e;rwa[aR (dj this d)]
 .have:=a.un.i0 b o u e;rwa[aR (dj this d)]
 .let#[m,this]:=a.un.jx b t e;show#[m,by rwa[aR (dj this d)]]
 intro b v e;by_cases l:b=h
 .subst l;rw[aQ]at e;cases e;show-g
 rw[aR l]at e;exact(a.bu b v e).pO (λc v _ q=>q) (λc q=>by rwa[aR (dj q d)]) λc n q=>by rwa[aR (dj q d)]
def wZ{X:bA}{k:St}{i:Nat}{t:aS->Prop}(I:Inv X pins C H s)(q:X.N.Nodup)(u:X.N[i]?=j3 n)(K:X.env.scope.names.lookup n=j3 .local)(x:Inv (sO X B) pins k e h)(V:∀b,Inv X pins (k.set i jp) e b->t b):
  aO (ba X.prog X.w) X.A (do bindName X.env n .none;unbindBehindTheSuite X.env n z) (λ_ b=>t b) X.dw h:=by
 let L:(X.env.scope.kind==.class||(X.env.scope.kind==.module&&X.env.locals !=X.env.globals))=q9:=by rw[I.ok.kind];rfl
 let p:Inv X pins k e h:=Inv.Ik I.ok.hd x;let#[m,r,_]:=id p.loc;show-wpAny_nameGoes_keeps K r L λJ v f g=>V _ (Inv.forget p q u g λj d=>?_);let em:j=m:=by let#[o,F,E,A,w,_,N]:=r;let#[D,M,G,l,a,_,c]:=d;rw[A]at l;cases l;rw[w]at a;cases a;funext y;rw[<-N y,<-c y]
 subst em;show#[v,f]
def aq7(K:aL)(k:p9)(i:Nat)(R:Addr)(l:fo):fo:=λD f H=>k D (λg d _ H'=>∃C,d=.ref C/\l' K C R=q4/\∀c,H' c=jp->
 l {cX:=λb a=>D.cX (b.set i jp) a,rt:=D.rt,jk:=λb a=>D.jk (b.set i jp) a,fI:=λb a=>D.fI (b.set i jp) a} (g.set i (j3 (.ref c))) (upd H' c (x6 c C))) f H
def anP{X:bA}{d:List Stmt}{M:Stmt}{P:List Stmt}{Q:p9}{i:Nat}(N:X.stack=X.env::X.outer)(GO:X.env.frame=j3 X.env.locals)(af:aaF X d Q)(w:X.N.Nodup)(A:X.N[i]?=j3 n)(p:X.env.scope.names.lookup n=j3 .local)(bz:jd X x)(hm:X.mg x=j3 (.ref R))(de:l' X.K R R=q4)(GX:∀c,gm (sO X c) (M::P) ts)(iB:(x==("__debug__":Str))=q9:=by decide):f3 X (.Try d [.ExceptHandler (j3 (.Name x np)) (j3 n) (M::P) T'] [] [] pos) (aq7 X.K Q i R ts):=by
 intro a s aa H D I h;show-aeS (fC (af a s aa H D _ I h) (λf V q=>?_) λe V q=>?_)
 .cases f with
  |next=>show-vI q
  |ret v=>show-q
  |brk=>show-q
  |cont=>show-q
 let#[O,cg,sc,c,cls,a0,H',B,2,U,T,C,2,jL,k]:=q;let nv:X.A.frames=j3 (X.env::X.outer):=by rw[<-N];show-I.ok.frames
 let Y:=T.eQ;rw[N]at Y;show-aeY nv GO Y λb8 GL Af=>?_;show-aeX GL λG F Ag=>?_;let Z:=F;rw[<-N]at Z;let K:=T.move Z (Af.trans Ag);let J:Inv X a O H' {V with heap:=G}:=U.FZ (s':={V with heap:=G}) (ch:=[]) K.os K.un K.bu K.bare (λb z=>bt z xg);let#[ob,px,GV]:=F.there;show-aeU (abo (sL (X:=sO X c) (b4.Inv.oR J c) bz hm ?_ iB)) (by intro q;cases q);show-O' J.eN jL de px GV ?_;show-atl (lands_againW F λnr wG Im=>?_);let wH:=wG;rw[<-N]at wH;let lW:=K.move wH Im;let#[t,r,j]:=wG.there;let hD:=T.new;let rK:Inv X a O (upd H' c (x6 c C)) {V with heap:=nr}:=kR.inv U lW #[#[t,r,j],#[t,r],λai ak⟨o,aE,aC⟩c4=>#[o,c4 o aE,aC]];refine DZ (X:=sO X c) (b4.Inv.oR rK c) w A (.inl p) (v:=.ref c) rfl (λi_ lR=>?_) (.inr p);show-fC (GX c a i_ _ _ _ lR (k c hD)) (λGm ja L=>?_) λ_ _ z=>iu z;cases Gm with
 |next=>let#[y,g,l,q]:=L;show-wZ I w A p l λE m=>#[_,g,m,q]
 |brk=>let#[y,g,l,q]:=L;show-wZ I w A p l λE m=>#[_,g,m,q]
 |cont=>let#[y,g,l,q]:=L;show-wZ I w A p l λE m=>#[_,g,m,q]
 |ret u=>let#[Iq,y,g,l,zS,q]:=L;show-wZ I w A p l λE m=>#[Iq,_,g,m,zS,q]
def af3:iW "enumerate"=j3 (.type "enumerate"):=by left
def xW(K:aL)(a:Addr):fF:=
 #[λi H=>∃b x,aI K H a b/\b[i]?=j3 x,λi H v H'=>∃p x,H p=jp/\v=.ref p/\(∀b,aI K H a b->b[i]?=j3 x)/\H'=upd H p (.tup [.int i,x]),λi H=>∃b,aI K H a b/\b.Z<=i]
def ajR{K:aL}{k:Nat}(a e m:Addr)(t:e≠m):
  Turn P w K (.Tuple elts k pos) (xW K a) [e,m] e (λi h=>(∃f,IsEnum h e m ((i:Nat):Int) f)/\h.IsListIter m a i)where
 mem:=by simp
 obj:=λi h st b l=>by
  let#[#[f,n],o,aW,c,d]:=st;rcases et.mp l with rfl|l
  .show#[_,n,λv z=>by
    let G:O7 _=ER v:=z;cases G]
  let q:b=m:=by simpa using l
  subst q;show#[o,aW,λv z=>by rw[d]at z;cases z]
 keep:=λi h h' st Y=>by let#[#[f,n],g]:=st;show#[#[f,Y e xg _ n],g.at λo q=>Y m xg o q]
 item:=by
  intro X M Q O U i r s T H E I L st D;subst M Q O;let#[#[f,n],g]:=st;let#[xs,x,j,y]:=D;let#[R,F,p,hz]:=I.list j;let#[u,cL,en]:=F.get y;let#[cD,aE,aC,b2,dS,f7]:=L e xg;let#[J,f1,f2,Z,f4,fz]:=L m xg;show-wpAny_pyNext_enum_item n g p.isList (x:=u) (by simpa using cL) t λai aW C jJ hsz aN=>#[1,4]
  show-wpAny_letOwnedTupleGo_enum aW λV wU N=>?_;let N:jT e ai V:=N;let hn:H s.L=jp:=I.fresh;let sX:∀b o,b∉[e,m]->s.heap.get? b=j3 o->V.get? b=j3 o:=λb o l q=>by let l9:b≠e:=λz=>l (by simp[z]);let B:b≠m:=λz=>l (by simp[z]);exact(N.2 b l9).trans (aN b o l9 B q)
  let A:e<s.L:=dE n;let zd:V.get? s.L=j3 {cls:=.type "tuple",data:=.seq (List.toArray [.int i s.toks,u])}:=(N.2 _ (wb A)).trans jJ;show#[.ref s.L,upd H s.heap.objs.size (.tup [.int i,x]),4,2,#[s.L,x,hn,2,λys cd=>by rwa[I.Mo cd j],2],#[#[u,4],C.at λo q=>(N.2 m t.J).trans q],λb l=>?_]
  .show Inv X r T (upd H s.heap.objs.size (.tup [.int i,x])) {s with heap:=V,gens:=s.gens,drawn:=s.drawn,toks:=s.toks+1};show-XU I L sX zd (.cons #[1] (.cons en .nil))
  .have:(((i+1:Nat):Nat):Int)=(i:Int)+1:=by lia
   rwa[this]
  rcases et.mp l with rfl|l
  .rwa[aR (e8 A)]
  let G:b=m:=by simpa using l
  subst G;let#[_,z,_]:=g;rwa[aR (e8 (dE z))]
 done:=by intro X M Q O U i r s T H E I L st D;subst M Q O;let#[#[f,n],g]:=st;let#[xs,j,y]:=D;let#[R,F,p,hz]:=I.list j;let#[J,f1,f2,Z,f4,fz]:=L m xg;let au:=F.Z;exact wpAny_pyNext_enum_end (I.ok.hd U) n g p.isList (by simp;lia) λh' dW=>#[2,I.turned (t':=s.toks) (λb o l e=>dW b o l e) J f1 Z f4 fz]
 self:=λ_ _ _ _ _ st h=>by let#[#[f,n],_]:=st;show-ayV n h
section
variable{X:bA}{elts:hy}{k:Nat}{z9:Pos}
inductive apv(K:aL)(vs:aV)(H:ag)(R:fF->ag->Prop):Prop where
 |mk(a:Addr)(_:vs=[.ref a])(_:∃xs,aI K H a xs)(_:R (xW K a) H)
def apw(K:aL)(c:gb):eV:=λb H R=>c b H λd a=>apv K d a R
def Ot{n:gb}{p:Pos}(i:jd X "enumerate")(hm:X.mg "enumerate"=jp)(K:fN X [l] n)(x:dM [l] X.env=[(q9,eval l X.env)]:=by rfl):m6 X (.Tuple elts k z9) (.Call (.Name "enumerate" p) [l] [] pos) (apw X.K n):=by
 intro f s L H R I h;show-Call_ (Ab I i hm af3 (Qm (bL (K pos f s L H _ I h) λF c w=>?_) x rfl));let#[G,A,d,u,N]:=w;let#[a,e,#[J,V],q]:=N;subst e;cases u with
 |cons r C=>
  cases C;cases r;let#[y,D,p,w]:=d.list V;show-call_enumerate_list p.isList λE t m hsz j=>?_;show-ayV t ?_;let B:c.L+1≠c.L:=aiI _;show#[c.L+1,[c.L+1,c.L],6,A,2,d.kept (t':=c.toks) λb o e=>j b o e,ajR a _ _ B,#[#[_,t],m],λb g=>?_,q];rcases et.mp g with rfl|g
  .exact d.tN (Fo _) (d.bu.fresh (Fo _))
  let z:b=c.L:=by simpa using g
  subst z;show-d.tN (b7 _) (d.bu.fresh (b7 _))
end
section
variable{X:bA}{K:aL}(gd:X.K=K)
include gd
def akL:Bc X (aaA K):=by subst gd;show-fG
def Ef:Bc X (aaB K):=by subst gd;show-ey
def It{k:Nat}{t:yF}{n:Nat}(a:X.calm=q4)(h:Fu X e t)(b:(yI e X.env).Z=n:=by rfl)(c:(yI e X.env).findIdx? (·.1)=jp:=by rfl):qO X (.Tuple e k pos) (vS K n t):=by subst gd;show-Ad a h b c
end
def Ã{K:aL}{c:aV}{rest:aq.St}{I:iL}{M:TE}{Q:aX}{l:ag}(fX:hX cs Y=jp::jp::rest)(X:aI K l a c)(Z:c.Z<sizeLine)(p:Nat->V->Bool)(f:Nat->V->V)(N:∀(i:Nat)(x:V)(d:ag)(R:Bool->ag->Prop),c[i]?=j3 x->aD l d->(∀k,aD d k->R (p i x) k)->I (j3 (.int i)::j3 x::rest) d R)(E:∀(i:Nat)(x:V)(d:ag)(R:aX),c[i]?=j3 x->p i x=q4->aD l d->(∀k,aD d k->R (f i x) k)->M (j3 (.int i)::j3 x::rest) d R)(G:∀(D:Addr)(H':ag),l D=jp->H' D=j3 (.lst ((c.zipIdx.filter λz=>p z.2 z.1).map λz=>f z.2 z.1))->aD l H'->Q (.ref D) H'):
  ∀D,l D=jp->∃W:Nat->Nat->List V->aq.St->ag->Prop,(∃m,W 0 m [] (hX cs Y) (upd l D (.lst [])))/\∀i m g w H',W i m g w H'->H' D=j3 (.lst g)/\g.Z<sizeLine/\
   (((xW K a).stop i H'/\Q (.ref D) H')\/((xW K a).go i H'/\∀x d,(xW K a).AB i H' x d->vS K 2 (qt (hW 0) (qt (hW 1) x4)) x w d λs U=>I s U λb j=>
    if b=q4 then M s j λy k=>k D=j3 (.lst g)/\∃A,A<m/\W (i+1) A (g++[y]) s (upd k D (.lst (g++[y])))
    else∃A,A<m/\W (i+1) A g s j)):=by
 intro D bR;let T:c.zipIdx.Z=c.Z:=by simp
 show#[λi m g w H'=>m=c.Z-i/\i<=c.Z/\g=((c.zipIdx.take i).filter λz=>p z.2 z.1).map (λz=>f z.2 z.1)/\(∃o P,w=o::P::rest)/\aD l H'/\H' D=j3 (.lst g),
  #[c.Z,by simp,eu _,by simp,#[jp,jp,fX],λb o e=>?_,aQ],4]
 .rwa[aR (dj e bR)]
 rintro i m g w H' ⟨rfl,hi,rfl,⟨o,P,rfl⟩,n,F⟩;let H:aI K H' a c:=n.seq X;show#[F,p6 ?_ Z,4]
 .rw[aM];show-dQ (yc _ _) ?_;rw[jh,T];exact BA _ _
 by_cases C:i<c.Z
 .let ex:c[i]?=j3 c[i]:=cQ C;show-.inr #[#[c,_,H,ex],λx d y=>?_];let#[q,r,bf,2,gf,2]:=y;let B:=gf c H;let L:aD H' (upd H' q (.tup [.int i,r])):=λb u e=>by rwa[aR (dj e bf)]
  show#[q,1,cj.of aQ,2,#[_,1,#[3,4]]];show I (j3 (.int i)::j3 r::rest) _ _;show-N i r _ _ B (n.trans L) λj h=>?_;let J:c.zipIdx.take (i+1)=c.zipIdx.take i++[(r,i)]:=by rw[p5,List.getElem?_zipIdx,B];simp
  let t:=h _ _ (L _ _ F);cases az:p i r with
  |true=>
   show-jr ?_;show-E i r j _ B az ((n.trans L).trans h) λk O=>#[O _ _ t,c.Z-(i+1),9,2,C,4,#[_,1],λb ob e=>?_,aQ]
   .rw[J,v7,eb];simp[az]
   rw[aR (dj e bR)];show-O _ _ (h _ _ (L _ _ (n _ _ e)))
  |false=>
   show-iN #[c.Z-(i+1),9,2,C,4,#[_,1],(n.trans L).trans h,t];rw[J,v7,eb];simp[az]
 let e:i=c.Z:=by lia
 subst e;show-.inl #[#[c,H,b7 _],G D H' bR ?_ n];rw[F,<-T,n1]
end b4
namespace aq
open PySem PySem.Spec PyProof.Rows
section
variable{κ:Type}[DecidableEq κ]
def c8(a:List (κ×V))(k:κ):Option V:=(a.find? λb=>decide (b.1=k)).map (·.2)
def gh(a:List (κ×V))(k:κ)(v:V):List (κ×V):=
 if(a.any λb=>decide (b.1=k))=q4 then a.map (λb=>if b.1=k then(b.1,v)else b)else a++[(k,v)]
def pk{p:κ×V}{r:List (κ×V)}{k:κ}(e:p.1=k):c8 (p::r) k=j3 p.2:=by simp[c8,ya,e]
def oy{p:κ×V}{r:List (κ×V)}{k:κ}(e:¬p.1=k):c8 (p::r) k=c8 r k:=by simp[c8,ya,e]
theorem q7(k:κ):∀a:List (κ×V),(a.any λb=>decide (b.1=k))=(c8 a k).isSome
 |[]=>rfl
 |p::r=>by
  rw[JE];by_cases e:p.1=k
  .simp only[pk e,cw e,Bool.true_or,Option.isSome_some]
  rw[oy e,c9 e,Bool.false_or];show-q7 k r
theorem Zc(k j:κ)(y:V):∀a:List (κ×V),c8 (a.map λb=>if b.1=k then(b.1,y)else b) j=(c8 a j).map λx=>if j=k then y else x
 |[]=>rfl
 |p::r=>by
  let c:=Zc k j y r;rw[e7];by_cases h:p.1=k
  .rw[a' h];by_cases e:p.1=j
   .rw[pk (p:=(p.1,y)) e,pk e,Qg,a' (e.symm.trans h)]
   rw[oy (p:=(p.1,y)) e,oy e,c]
  rw[a4 h];by_cases e:p.1=j
  .rw[pk (p:=p) e,pk e,Qg,a4 (λz=>h (e.trans z))]
  rw[oy (p:=p) e,oy e,c]
theorem Yt(k j:κ)(y:V):∀a:List (κ×V),c8 a k=jp->c8 (a++[(k,y)]) j=if j=k then j3 y else c8 a j
 |[],_=>by
  by_cases e:k=j
  .rw[a' e.J];show-pk (p:=(k,y)) e
  rw[a4 (λz=>e z.J)];show-oy (p:=(k,y)) e
 |p::r,hn=>by
  rw[π];let b:¬p.1=k:=λz=>by rw[pk z]at hn;cases hn
  rw[oy b]at hn;let c:=Yt k j y r hn;by_cases e:p.1=j
  .rw[pk e,pk e,a4 (λz=>b (e.trans z))]
  rw[oy e,oy e,c]
def Ib(b:List (κ×V))(k j:κ)(y:V):c8 (gh b k y) j=if j=k then j3 y else c8 b j:=by
 unfold gh;by_cases a:(b.any λd=>decide (d.1=k))=q4
 .rw[a' a,Zc];rw[q7]at a;by_cases e:j=k
  .let#[x,c]:=yz.mp a;rw[a' e,e,c,Qg,a' rfl]
  rw[a4 e];cases c8 b j with
  |none=>rfl
  |some x=>rw[Qg,a4 e]
 rw[a4 a];show-Yt k j y b ?_;rw[q7]at a;cases q:c8 b k with
 |none=>rfl
 |some x=>rw[q]at a;exact(a rfl).elim
def MY(a:List (κ×V))(k:κ)(v:V):(gh a k v).Z<=a.Z+1:=by
 unfold gh;split
 .rw[aM];lia
 rw[c0,ej,kf];lia
def DU{a:List (κ×V)}{k:κ}(v:V)(h:c8 a k=jp):gh a k v=a++[(k,v)]:=by unfold gh;rw[q7,h];show-a4 x8
def kz.UE{o:Option V}{u:B2}(r:kz o u):o.isSome=u.isSome:=by
 cases o with
 |none=>cases u with
  |none=>rfl
  |some _=>exact(show False from r).elim
 |some _=>cases u with
  |none=>exact(show False from r).elim
  |some _=>rfl
def kz.getD{o:Option V}{u:B2}(r:kz o u)(a:RelV d e):RelV (o.getD d) (u.getD e):=by
 cases o with
 |none=>cases u with
  |none=>show-a
  |some _=>exact(show False from r).elim
 |some _=>cases u with
  |none=>exact(show False from r).elim
  |some _=>show-r
def hG.val{a:List (κ×V)}{f:List (κ×Value)}(r:hG a f)(k:κ):kz (c8 a k) (Eg f k):=by
 unfold hG at r
 induction r with
 |nil=>show-n8
 |@cons p q o i h t j=>
  let#[d,g]:=h;by_cases e:p.1=k
  .let c:q.1=k:=d.symm.trans e;let b:Eg (q::i) k=j3 q.2:=by simp[Eg,ya,c]
   rwa[pk e,b]
  let c:¬q.1=k:=λz=>e (d.trans z);let b:Eg (q::i) k=Eg i k:=by simp[Eg,ya,c]
  rwa[oy e,b]
def hG.any{a:List (κ×V)}{c:List (κ×Value)}(r:hG a c)(k:κ):(a.any λb=>decide (b.1=k))=c.any λb=>decide (b.1=k):=by
 unfold hG at r
 induction r with
 |nil=>rfl
 |cons h t e=>rw[JE,JE,e,h.1]
def hG.V4{b:List (κ×V)}{d:List (κ×Value)}(r:hG b d)(k:κ)(g:RelV y u):
  hG (b.map λa=>if a.1=k then(a.1,y)else a) (d.map λa=>if a.1=k then(a.1,u)else a):=by
 unfold hG at r⊢
 induction r with
 |nil=>show-.nil
 |@cons p q o j h t i=>
  rw[e7,e7];show-.cons ?_ i;let#[c,f]:=h;by_cases e:p.1=k
  .rw[a' e,a' (c.symm.trans e)];show#[c,g]
  rw[a4 e,a4 (λz=>e (c.trans z))];show#[c,f]
def hG.put{a:List (κ×V)}{b:List (κ×Value)}(r:hG a b)(k:κ)(c:RelV y u):hG (gh a k y) (stored b k u):=by
 unfold gh stored;rw[r.any k];by_cases e:(b.any λd=>decide (d.1=k))=q4
 .rw[a' e,a' e];show-r.V4 k c
 rw[a4 e,a4 e];show-Paired.snoc r #[2,c]
def hG.Z{a:List (κ×V)}{b:List (κ×Value)}(r:hG a b):a.Z=b.Z:=(lU r)
def AG{k:bD}(r:RelV (di k) u):(iY P w).is k u=q4:=by
 cases k with
 |inl i=>let#[t,e]:=(show∃t,u=qS i t from r);subst e;show-agq P w i t
 |inr x=>let#[t,e]:=(show∃t,u=wk x t from r);subst e;show-agr P w x t
theorem Yu:∀{a:List bD}{b:dR},cI (a.map di) b->ItemsAre (iY P w) a b
 |[],_,r=>by rw[Bl]at r;cases r;show-.nil
 |k::a,_,r=>by
  rw[e7]at r;cases r with
  |cons h t=>show-.cons (AG h) (Yu t)
abbrev KT(H:ag):List (List bD×V)->List (List bD×Addr×Value)->Prop:=bV λp q=>p.1=q.1/\H q.2.1=j3 (.tup (p.1.map di))/\RelV p.2 q.2.2
def KT.val{a:List (List bD×V)}{f:List (List bD×Addr×Value)}(r:KT H a f)(k:List bD):kz (c8 a k) ((wt f k).map (·.2)):=by
 induction r with
 |nil=>show-n8
 |@cons p q o i h t j=>
  let#[d,_,g]:=h;by_cases e:p.1=k
  .let c:q.1=k:=d.symm.trans e;let b:wt (q::i) k=j3 q.2:=by simp[wt,ya,c]
   rwa[pk e,b]
  let c:¬q.1=k:=λz=>e (d.trans z);let b:wt (q::i) k=wt i k:=by simp[wt,ya,c]
  rwa[oy e,b]
def KT.V4{a:List (List bD×V)}{f:List (List bD×Addr×Value)}(r:KT H a f)(k:List bD)(l:RelV y u):
  KT H (a.map λc=>if c.1=k then(c.1,y)else c) (f.map (putAt k u)):=by
 induction r with
 |nil=>show-.nil
 |@cons p q o j h t i=>
  rw[e7,e7];show-.cons ?_ i;let#[b,d,g]:=h;unfold putAt;by_cases e:p.1=k
  .rw[a' e,a' (b.symm.trans e)];show#[b,d,l]
  rw[a4 e,a4 (λz=>e (b.trans z))];show#[b,d,g]
def KT.put{H:ag}{a:List (List bD×V)}{c:List (List bD×Addr×Value)}(r:KT H a c)(k:List bD)(f:H b=j3 (.tup (k.map di)))(d:RelV y u):
  KT H (gh a k y) (storedH c k b u):=by
 let e:(a.any λg=>decide (g.1=k))=(wt c k).isSome:=by rw[q7,(r.val k).UE,aiO]
 unfold gh storedH;rw[e];by_cases q:(wt c k).isSome=q4
 .rw[a' q,a' q];show-r.V4 k d
 rw[a4 q,a4 q];show-Paired.snoc r #[2,f,d]
theorem KT.keeps{H H':ag}{a:List (List bD×V)}{c:List (List bD×Addr×Value)}(r:KT H a c)(f:∀b d,H b=j3 (.tup d)->H' b=j3 (.tup d)):KT H' a c:=
 bV.kv r λ_ _ z=>#[z.1,f _ _ z.2.1,z.2.2]
end
section
variable{P:cq}{w:bW}{H:ag}{h:Heap}{a:Addr}
def ū(ok:gw P w H h)(e:fV H a u):e9 P w H h a u:=(e.ok ok)
theorem AU{b:List (bD×V)}(ok:gw P w H h)(e:fV H a (.cZ b)):b.Z<=sizeLine/\(a==kY)=q9/\∃c,hG b c/\h.DictOf (iY P w) a c:=
 show e9 P w H h a (.cZ b)from ū ok e
def JO{b:List (bD×V)}(ok:gw P w H h)(e:H a=j3 (.cZ b)):b.Z<=sizeLine/\(a==kY)=q9/\∃c,hG b c/\h.DictOf (iY P w) a c:=(AU ok (.inl e))
def Er{b:List bD}(ok:gw P w H h)(e:H a=j3 (.tup (b.map di))):(xw (iY P w)).is h b a:=by
 let#[_,c,r,o,f,g,n,d]:=(show e9 P w H h a (.tup (b.map di))from ok a _ e)
 show#[o,c.toArray,n,f,g,d,by simpa using Yu r]
def AV{b:List (List bD×V)}(ok:gw P w H h)(e:fV H a (.c3 b)):b.Z<=sizeLine/\(a==kY)=q9/\
  ∃d,KT H b d/\h.DictOfH (xw (iY P w)) a d:=by
 let#[z,y,d,r,o,L,K,g,k,f,n,A]:=(show e9 P w H h a (.c3 b)from ū ok e)
 show#[z,y,d,r,o,L,K,g,k,f,n,λx c=>?_,A];let all:∀{l:List (List bD×V)}{m:List (List bD×Addr×Value)},KT H l m->∀x∈m,(xw (iY P w)).is h x.1 x.2.1:=by
  intro l m q
  induction q with
  |nil=>intro x c;exact nomatch c
  |@cons p q u s i t j=>
   intro x c;rcases et.mp c with e|c
   .subst e;show-Er ok (by rw[<-i.1];show-i.2.1)
   show-j x c
 show-all r x c
theorem Ŭ{b:List (List bD×V)}(ok:gw P w H h)(e:H a=j3 (.c3 b)):b.Z<=sizeLine/\(a==kY)=q9/\
  ∃c,KT H b c/\h.DictOfH (xw (iY P w)) a c:=AV ok (.inl e)
end
def j9(H:ag)(a:Addr)(y:V)(r:Option V):Prop:=
 (∃c k,fV H a (.cZ c)/\y=di k/\r=c8 c k)\/∃c k b,fV H a (.c3 c)/\y=.ref b/\H b=j3 (.tup (k.map di))/\r=c8 c k
def uz(H:ag)(a:Addr)(y v:V)(H':ag):Prop:=
 (∃c k,H a=j3 (.cZ c)/\y=di k/\c.Z<sizeLine/\H'=upd H a (.cZ (gh c k v)))\/
 ∃c k b,H a=j3 (.c3 c)/\y=.ref b/\H b=j3 (.tup (k.map di))/\c.Z<sizeLine/\H'=upd H a (.c3 (gh c k v))
def j9.k{H:ag}{b:List (bD×V)}{k:bD}(e:H a=j3 (.cZ b)):j9 H a (di k) (c8 b k):=(.inl #[b,k,.inl e,2,2])
def j9.t{H:ag}{c:List (List bD×V)}{k:List bD}(e:H a=j3 (.c3 c))(d:H b=j3 (.tup (k.map di))):j9 H a (.ref b) (c8 c k):=(.inr #[c,k,b,.inl e,2,d,2])
def uz.k{H:ag}{b:List (bD×V)}{k:bD}(e:H a=j3 (.cZ b))(c:b.Z<sizeLine):uz H a (di k) v (upd H a (.cZ (gh b k v))):=(.inl #[b,k,e,2,c,2])
theorem uz.t{H:ag}{c:List (List bD×V)}{k:List bD}(e:H a=j3 (.c3 c))(f:H b=j3 (.tup (k.map di)))(d:c.Z<sizeLine):
  uz H a (.ref b) v (upd H a (.c3 (gh c k v))):=.inr #[c,k,b,e,2,f,d,2]
section
variable{X:bA}{pins:dJ}{aa:St}{H:ag}{s:aS}{a:Addr}{y v:V}{u r:Value}{o:Option V}{A:ee}{E:cC}
def Inv.big(I:Inv X pins aa H s):kY<s.L:=by let h:sS<s.L:=(I.mod.glob.keeps I.jk).lt;show-By x8 h
def ajS{Q:cC}(i:A.units+1<cLine)(I:Inv X pins aa H s)(g:j9 H a y (j3 v))(K:RelV y u)(h:∀d L,Inv X pins aa H L->RelV v d->Q d L):
  aO (ba X.prog X.w) A (wJ (.ref a) u) Q E s:=by
 rcases g with⟨w,k,e,m,l⟩|⟨w,k,b,e,m,j,l⟩
 .subst m;let#[z,q,x,c,f]:=AU I.bu e;let#[d,n,t]:=kz.NA (v:=v) (o:=Eg x k) (by rw[l];show-c.val k);show-ayN (AG K) f.mapOf n (h d _ (I.tok _) t)
 subst m;cases(show u=cM b from K);let#[z,q,B,c,f]:=AV I.bu e;let#[d,n,t]:=kz.NA (v:=v) (o:=(wt B k).map (·.2)) (by rw[l];show-c.val k);let#[p,N,C]:=e6.mp n;show-wpAny_getItem_heap (NM i) (Er I.bu j) f N ?_;rw[C];show-h d _ (I.tok _) t
def amw{Q:cC}(w:A.units+1<cLine)(I:Inv X pins aa H s)(g:j9 H a y o)(p:RelV y u)(h:∀t,Inv X pins aa H t->Q (.bool (!o.isSome)) t):
  aO (ba X.prog X.w) A (jl .NotIn u (.ref a)) Q E s:=by
 rcases g with⟨n,k,e,f,l⟩|⟨n,k,b,e,f,i,l⟩
 .subst f;let#[z,m,K,c,d]:=AU I.bu e;show-ayU (AG p) m d.mapOf ?_;rw[<-(c.val k).UE,<-l];show-h _ (I.tok _)
 subst f;cases(show u=cM b from p);let#[z,m,L,c,d]:=AV I.bu e;show-wpAny_notIn_heap (NM w) (Er I.bu i) m d ?_;let q:=(c.val k).UE;rw[aiO]at q;rw[<-q,<-l];show-h _ (I.tok _)
theorem Iu{c:Heap}{t':Nat}(I:Inv X pins aa H s)(j8:Fn (H a))(k:jT a s.heap c)(g:∃q,c.get? a=j3 q)(d:e9 X.prog X.w (upd H a ob) c a ob):
  Inv X pins aa (upd H a ob) {s with heap:=c,toks:=t'}:=
 I.write (x:=a) (e:=a) j8 (.inl rfl) (λb q f z=>(k.2 b f).trans z) g d
theorem PI{f:Heap}{b:List (bD×V)}{d:List (bD×Value)}(z:b.Z<=sizeLine)(k:(a==kY)=q9)(c:hG b d)(g:f.DictOf (iY P w) a d):
  e9 P w H' f a (.cZ b):=#[z,k,d,c,g]
def ajT{Q:Unit->aS->Prop}(O:A.units+1<cLine)(I:Inv X pins aa H s)(g:uz H a y v H')(x:RelV y u)(j:RelV v r)(h:∀F,Inv X pins aa H' F->Q () F):
  aO (ba X.prog X.w) A (setItem (.ref a) u r) Q E s:=by
 rcases g with⟨d,k,e,K,l,p⟩|⟨d,k,b,e,K,B,l,p⟩
 .subst K p;let#[z,L,Y,f,w]:=JO I.bu e;let i:Y.Z<=sizeLine:=by rwa[<-f.Z]
  let t:(gh d k v).Z<=sizeLine:=by have:=MY d k v;lia
  show-wpAny_setItem_pairs (hsz:=i) (AG x) w λD n N=>h _ ?_;let U:∃q,D.get? a=j3 q:=let⟨q,_,_,m,_⟩:=n;#[q,m]
  show-Iu I (by rw[e];show-n8) N U (PI t L (f.put k j) n)
 subst K p;cases(show u=cM b from x);let#[z,L,Z,f,w]:=Ŭ I.bu e;let i:Z.Z<=sizeLine:=by rwa[<-lU f]
 let t:(gh d k v).Z<=sizeLine:=by have:=MY d k v;lia
 show-wpAny_setItem_heap (hsz:=i) (NM O) (Er I.bu B) w λD n N=>h _ ?_;let#[q,T,R,m,J,G,M,_,P]:=n;show-Iu I (by rw[e];show-n8) N #[q,m] #[t,L,_,(f.put k B j).keeps λc ys C=>?_,q,T,R,m,J,G,M,P];rwa[aR (gP C e (λz=>nomatch z))]
end
def Rd(i:Expr):Prop:=∀a b,WB i q9 a b=operate [a,b] (wJ a b)
def Μ{E:cC}{a:Env}{id:String}{Q:cC}(n:typeLookup (.type T) "__getitem__"=pure (j3 (.builtin id)))(p:Rd slice)(h:aO (ba prog w) A (eval value a) (λo k=>aO (ba prog w) A (eval slice a) (λi d=>d.TypeIs o T/\aO (ba prog w) A (wJ o i) Q E d) E k) E s):
  aO (ba prog w) A (eval (.Subscript value slice pos) a) Q E s:=by
 show-Qy (fC h (λo k m=>fC m (λi d f=>?_) λ_ _ x=>x) λ_ _ x=>x);let#[l,f]:=f;unfold WA;show-ax ?_;rw[getitemInPython_of_ne l.not_modules];show-ax (wpAny_specialOf l n ?_);let b:aO (ba prog w) A (WB slice q9 o i) (λr c=>aO (ba prog w) A (letTemporaryGo value o r >>=λ_=>pure r) Q E c) E d:=by rw[p o i];show-wpAny_operating (fC f (λr c g=>ax (wpAny_letTemporaryGo (bk g))) λ_ _ x=>x)
 first
  |show-bk (ax b)
  |show-ax (bk (ax b))
  |show-ax b
def agj{s:aS}{o:Option V}(I:Inv X pins h H s)(g:j9 H a y o):s.TypeIs (.ref a) "dict":=by
 rcases g with⟨d,k,e,_,_⟩|⟨d,k,b,e,_,_,_⟩
 .let#[6,f,_,c]:=AU I.bu e;show-c.typeIs
 let#[6,l,_,c]:=AV I.bu e;show-c.typeIs
def apx(f ty:TE):TE:=λb H Q=>f b H λx d=>ty b d λy c=>∃a v,x=.ref a/\j9 c a y (j3 v)/\Q v c
def amx(ty f:TE):TE:=λb H Q=>ty b H λy d=>f b d λx c=>∃a o,x=.ref a/\j9 c a y o/\Q (.bo (!o.isSome)) c
def apy(k ty l:TE):fo:=λD b H=>l b H λv d=>k b d λx g=>ty b g λy f=>∃a c,x=.ref a/\uz f a y v c/\D.cX b c
section
variable{X:bA}{o i e value:Expr}{pos pos' z9:Pos}{eS ty mq:TE}
def xc(A:X.A.units+1<cLine)(aW:bq X o eS)(L:bq X i ty)(N:Rd i):bq X (.Subscript o i pos) (apx eS ty):=by intro b s d H Q I h;show-Μ aiX.lookup N (bL (aW b s d H _ I h) λu j c=>?_);let#[x,k,l,p,n]:=c;show-bL (L b j d k _ l n) λz B c=>?_;let#[y,m,f,t,a,v,K,g,r]:=c;subst K;obtain rfl:u=cM a:=p;show#[agj f g,ajS A f g t λq C w V=>#[v,m,w,V,r]]
def YP(A:X.A.units+1<cLine)(N:bq X i ty)(aW:bq X o eS):Ft X .NotIn i o (amx ty eS):=by intro b s d H Q I h;show-bL (N b s d H _ I h) λj V c=>?_;let#[y,f,k,t,n]:=c;show-bL (aW b V d f _ k n) λu q c=>?_;let#[x,l,m,p,a,L,K,g,r]:=c;subst K;obtain rfl:u=cM a:=p;show-amw A m g t λz w=>#[.bo (!L.isSome),l,w,2,r]
def O_(N:X.A.units+1<cLine)(aW:bq X o eS)(q:bq X i ty)(p:bq X value mq)(z:xq value (j3 (.Subscript o i pos')) pos.line X.env=pure q9):
  f3 X (.Assign [.Subscript o i pos'] value pos) (apy eS ty mq):=by intro b s d H D I h;show-wpAny_Assign_Subscript (bL (p b s d H _ I h) λr E c=>?_) z;let#[v,f,k,A,n]:=c;show-bL (aW b E d f _ k n) λu F c=>?_;let#[x,l,m,t,w]:=c;show-bL (q b F d l _ m w) λM O c=>?_;let#[y,G,L,K,a,V,j,g,B]:=c;subst j;obtain rfl:u=cM a:=t;show-ajT N L g K A λJ C=>#[d,V,C,B]
theorem Zd(h:Heap)(a:kY<h.Y):e9 P w H (h.push {cls:=.type "dict",data:=.dict #[]}) h.objs.size (.cZ []):=
 #[eu _,B7.mpr (e5 (e8 a)),[],.nil,Heap.DictOf.new h]
theorem akM(h:Heap)(a:kY<h.Y):e9 P w H (h.push {cls:=.type "dict",data:=.dict #[]}) h.objs.size (.c3 []):=
 #[eu _,B7.mpr (e5 (e8 a)),[],.nil,_,#[],0,gJ _ rfl,#[2,2,2],2,2,p4]
def anQ:TE:=λ_ H Q=>∀p,H p=jp->Q (.ref p) (upd H p (.cZ []))
def anR:TE:=λ_ H Q=>∀p,H p=jp->Q (.ref p) (upd H p (.c3 []))
end
section
variable{X:bA}{pos:Pos}
theorem Ze:bq X (.Dict [] [] pos) anQ:=λb s c H Q I h=>
 ayJ #[.ref s.L,_,I.laid (a:=s.L) (o:=.cZ []) (t':=s.toks) (λ_ _ q=>dO _ q) (b7 _) (Zd s.heap I.big),2,h _ (I.bu.fresh (b7 _))]
theorem akN:bq X (.Dict [] [] pos) anR:=λb s c H Q I h=>
 ayJ #[.ref s.L,_,I.laid (a:=s.L) (o:=.c3 []) (t':=s.toks) (λ_ _ q=>dO _ q) (b7 _) (akM s.heap I.big),2,h _ (I.bu.fresh (b7 _))]
def PJ:List (TE×TE)->St->ag->(List (V×V)->ag->Prop)->Prop
 |[],_,H,Q=>Q [] H
 | (h,i)::r,e,H,Q=>h e H λx a=>i e a λy c=>PJ r e c λd b=>Q ((x,y)::d) b
abbrev Ŗ:List (V×V)->List (Value×Value)->Prop:=bV λp q=>RelV p.1 q.1/\RelV p.2 q.2
end
def J'(X:bA)(f:Pos)(c:List (Option Expr))(a:hy)(l:List (TE×TE)):Prop:=
 ∀(b:dJ)(s:aS)(d:St)(H:ag)(Q:List (V×V)->ag->Prop),Inv X b d H s->PJ l d H Q->
  aO (ba X.prog X.w) X.A (evalPairs (pairTrees c a X.env f)) (λm k=>∃g H',Inv X b d H' k/\Ŗ g m/\Q g H') X.dw s
def amy:J' X pos [] [] []:=(λa s b H Q I h=>pairTrees_nil_walk #[[],H,I,.nil,h])
theorem akO{k v:Expr}{d:List (Option Expr)}{g:hy}{f:List (TE×TE)}(n:bq X k e)(K:bq X v o)(t:J' X pos d g f):
  J' X pos (j3 k::d) (v::g) ((e,o)::f):=λa s b H Q I h=>
 pairTrees_cons_walk (bL (n a s b H _ I h) λu z⟨x,l,p,L,A⟩=>bL (K a z b l _ p A) λC B⟨y,r,w,V,N⟩=>
  bL (t a B b r _ w N) λE D⟨q,m,i,c,j⟩=>#[(x,y)::q,m,i,.cons #[L,V] c,j])
def Es(c a:List (bD×V)):List (bD×V):=a.foldl (λb d=>gh b d.1 d.2) c
def hG.merge:∀{b:List (bD×V)}{rs:List (bD×Value)}{a:List (bD×V)}{c:List (bD×Value)},hG b rs->hG a c->hG (Es a b) (merged c rs):=by
 intro b rs a c r;unfold hG at r
 induction r generalizing a c with
 |nil=>intro q;show-q
 |@cons p q o j h t i=>
  intro r0;let e:hG (gh a p.1 p.2) (stored c q.1 q.2):=by have:=r0.put p.1 h.2;rwa[<-h.1]
  show-i e
theorem aeG:∀(b a:List (bD×V)),(Es a b).Z<=a.Z+b.Z
 |[],a=>by show a.Z<=a.Z+0;lia
 |p::r,a=>by let c:=aeG r (gh a p.1 p.2);let d:=MY a p.1 p.2;show(Es (gh a p.1 p.2) r).Z<=_;rw[ej];lia
theorem afm:∀{d:List (bD×V)}{g:List (Value×Value)},Ŗ (d.map λf=>(di f.1,f.2)) g->∃rs,Carries (iY P w) g rs/\hG d rs
 |[],_,r=>by rw[Bl]at r;cases r;show#[[],n8,.nil]
 |p::d,_,r=>by
  rw[e7]at r;cases r with
  |@cons a b as bs h t=>
   let#[rs,c,q]:=afm (P:=P) (w:=w) t;let#[b1,k]:=b;show#[(p.1,k)::rs,#[AG h.1,2,c],.cons #[2,h.2] q]
def apz(g:List (TE×TE)):TE:=λd H Q=>∀p,H p=jp->PJ g d (upd H p (.cZ [])) λf b=>b p=j3 (.cZ [])/\∃a:List (bD×V),f=a.map (λc=>(di c.1,c.2))/\a.Z<=15/\Q (.ref p) (upd b p (.cZ (Es [] a)))
def amz{b:List (Option Expr)}{d:hy}{p:List (TE×TE)}(h:J' X pos b d p)(r:b.all (·.isSome)=q4)(V:b.Z=d.Z)(j:b≠[])(t:b.Z<=15):bq X (.Dict b d pos) (apz p):=by
 intro g s L H Q I q;let D:=I.bu.fresh (b7 s.L);let K:=I.laid (a:=s.L) (o:=.cZ []) (h':=s.heap.push {cls:=.type "dict",data:=.dict #[]}) (t':=s.toks) (λ_ _ q=>dO _ q) (b7 _) (Zd s.heap I.big);show-wpAny_Dict_walk (knd:=iY X.prog X.w) r V j t (bL (h g _ L _ _ K (q _ D)) λO M k=>?_);let#[J,G,m,l,e,f,y,lk,u]:=k;subst y;let#[rs,c,F]:=afm (P:=X.prog) (w:=X.w) l;let#[z,B,A,r0,x]:=JO m.bu e;cases r0;show#[rs,c,x,λh' n E=>#[.ref s.L,_,4,2,u]];let k:(Es [] f).Z<=sizeLine:=by let N:=aeG f [];rw[kf]at N;rw[vA];lia
 let C:∃q,h'.get? s.L=j3 q:=let⟨q,_,_,i,_⟩:=n;#[q,i]
 show-Iu m (by rw[e];show-n8) E C (PI k B (F.merge .nil) n)
structure cm(X:bA)(o:Expr)(m:Str)(fP:Pos)(e:Expr)(gq:Pos):Prop where
 base:yK o m X.env (eval o X.env)=eval o X.env
 bX:((hr gq (dM [e] X.env)).all (λx=>!x.1)&&(od gq (oH [] X.env)).all (λx=>x.1.isSome)
  && decide (([e]:hy).Z+([]:List x7).Z+(if([]:List x7).isEmpty then 0 else 1)<30))=q4
 line:(fP.endLine==gq.line)=q4
 trees:hr gq (dM [e] X.env)=[(q9,eval e X.env)]
structure M2(X:bA)(o:Expr)(m:Str)(fP:Pos)(e f:Expr)(gq:Pos):Prop where
 base:yK o m X.env (eval o X.env)=eval o X.env
 bX:((hr gq (dM [e,f] X.env)).all (λx=>!x.1)&&(od gq (oH [] X.env)).all (λx=>x.1.isSome)
  && decide (([e,f]:hy).Z+([]:List x7).Z+(if([]:List x7).isEmpty then 0 else 1)<30))=q4
 line:(fP.endLine==gq.line)=q4
 trees:hr gq (dM [e,f] X.env)=[(q9,eval e X.env),(q9,eval f X.env)]
def EV(H:ag)(a:Addr):Prop:=(∃b,fV H a (.cZ b))\/∃b,fV H a (.c3 b)
def PK{s:aS}(I:Inv X pins h H s)(d:EV H a):
  s.TypeIs (.ref a) "dict"/\(∀b,cM a=.ref b->∃c,s.heap.get? b=j3 c/\c.dict=jp)/\(a==kY)=q9:=by
 rcases d with⟨m,e⟩|⟨m,e⟩
 .let#[_,l,n,_,f]:=AU I.bu e;show#[f.typeIs,λb q=>?_,l];cases q;let#[c,6,g,k,_]:=f;show#[c,g,k.2.1]
 let#[_,l,p,_,f]:=AV I.bu e;show#[f.typeIs,λb q=>?_,l];cases q;let#[c,6,g,k,_]:=f;show#[c,g,k.2.1]
section
variable{X:bA}{pins:dJ}{aa:St}{H:ag}{s:aS}{a:Addr}{y d:V}{u r:Value}{o:Option V}{A:ee}{E:cC}
def anS{Q:cC}(L:A.units+1<cLine)(I:Inv X pins aa H s)(g:j9 H a y o)(t:RelV y u)(h:∀w K,Inv X pins aa H K->RelV (o.getD .cf) w->Q w K):
  aO (ba X.prog X.w) A (call (.builtin "dict.get") [.ref a,u]) Q E s:=by
 rcases g with⟨p,k,e,m,l⟩|⟨p,k,b,e,m,i,l⟩
 .subst m;let#[z,n,j,c,f]:=AU I.bu e;show-abj ĉ f.typeIs aiV (aiT _ _) (meets_dict_get (iY X.prog X.w) a (AG t) n) #[_,f.mapOf,h _ _ (I.tok _) ?_];rw[l];exact(c.val k).getD rfl
 subst m;cases(show u=cM b from t);let#[z,n,N,c,f]:=AV I.bu e;show-abj ĉ f.typeIs aiV (aiT _ _) (meetsH_dict_get (xw (iY X.prog X.w)) a b n) #[NM L,k,N,Er I.bu i,f,h _ _ (I.tok _) ?_];rw[l];exact(c.val k).getD rfl
end
def anT(f ty:TE):TE:=λc H Q=>f c H λx b=>∃a,x=.ref a/\EV b a/\ty c b λy d=>∃o,j9 d a y o/\Q (o.getD .cf) d
section
variable{X:bA}{o e f:Expr}{fP gq:Pos}{eS ty kZ:TE}
def N3(N:X.A.units+1<cLine)(aW:bq X o eS)(j:bq X e ty)(m:cm X o "get" fP e gq):bq X (.Call (.Attribute o "get" fP) [e] [] gq) (anT eS ty):=by intro b s l H Q I h;show-aeQ m.base m.bX m.line Qn ĉ PySem.F.type_dict_get (bL (aW b s l H _ I h) λu z c=>?_);let#[x,n,k,w,a,i,d,t]:=c;subst i;obtain rfl:u=cM a:=w;let#[B,V,_]:=PK k d;show#[B,V,4];rw[m.trees];refine I' rfl (I_ (EP (bL (j b z l n _ k t) λE F c=>?_)));let#[y,p,r,K,C,g,A]:=c;show-O3 ?_;show-anS N r g K λD G L q=>#[_,p,L,q,A]
end
section
variable{κ:Type}[DecidableEq κ]
def akP{a:List (κ×V)}{k:κ}(h:c8 a k=jp):¬k∈a.map (·.1):=by intro m;let#[p,b,e]:=bQ.mp m;let q:(a.any λc=>decide (c.1=k))=q4:=tw.mpr #[p,b,cw e];rw[q7,h]at q;show-bt q xg
def W'{a:List (κ×V)}{k:κ}(h:c8 a k=j3 v):k∈a.map (·.1):=by
 let q:(a.any λc=>decide (c.1=k))=q4:=by
  rw[q7,h]
  all_goals rfl
 let#[p,b,e]:=tw.mp q;show-bQ.mpr #[p,b,nD e]
theorem Ν:∀{l:List κ}{k:κ},l.Nodup->¬k∈l->(l++[k]).Nodup
 |[],k,_,_=>by simp
 |a::r,k,h,e=>by
  let#[b,c]:=kG.mp h;show(a::(r++[k])).Nodup;show-kG.mpr #[λm=>?_,Ν c λm=>e (et.mpr (Qi m))];rcases gU.mp m with q|q
  .exact b q
  show-e (et.mpr (BD (e4.mp q).symm))
def amA{a:List (κ×V)}{k:κ}(v:V)(b:(a.map (·.1)).Nodup)(h:c8 a k=jp):((gh a k v).map (·.1)).Nodup:=by rw[DU v h,eb];show-Ν b (akP h)
end
end aq
namespace b4
section
open PySem PySem.Spec PyProof.Rows
open PySem.Builtin PySem.Builtin.Getset_descriptor
structure nK(K:aL)(C:Addr):Prop where
 ga:c7 K (.ref C) "__getattribute__"=j3 (j3 (.builtin "BaseException.__getattribute__"))
 no:c7 K (.ref C) "__getattr__"=j3 jp
 aB:c7 K (.ref C) "__class__"=j3 (j3 (.builtin "object.__class__"))
 hn:uV K (.builtin "object.__class__") "__get__"=j3 (j3 (.builtin "getset_descriptor.__get__"))
 L5:BI K (.builtin "object.__class__")=j3 q4
 hm:o_ K C (.type "object")=j3 q4
 af:o_ K C (.type "BaseException")=j3 q4
def uA(h:Heap)(x C:Addr):Prop:=∃o,h.get? x=j3 o/\o.cls=.ref C
def uA.type{M:m5}(I:uA h x C):tD M h (typeOf (.ref x)) (.ref C):=by let#[o,e,c]:=I;rw[<-c];exact(Č e).andThen .now
section
variable{prog:cq}{w:bW}{A:ee}{E:cC}{s:aS}{K:aL}{x C:Addr}{name:Str}
def YQ{M:m5}{a:Value}{Q:Unit->aS->Prop}(X:K.In s.Q)(c:nK K C)(I:uA s.heap x C)(m:Q () s):
  aO M A (atj "BaseException.__getattribute__" #[[.ref x,a],[]]) Q E s:=by
 let k:builtinKind "BaseException.__getattribute__"=j3 .slot:=by left
 let f:splitId "BaseException.__getattribute__"=j3 ("BaseException","__getattribute__"):=by left
 let l:=F.args_bexc_ga (.ref x) a;let b:tD M s.heap (G6 (.ref x) (.type "BaseException")) q4:=I.type.andThen (ajf X c.af);let#[h,g,d,t,os]:=s;simp only[atj,k,f];show-ax (b.at ?_)
 repeat (first|assumption|wp_step)
def Ĺ{fill:Bool}{Q:cC}(X:K.In s.Q)(c:nK K C)(I:uA s.heap x C)(h:∀p:ee,pe (ba prog w) p (.call (.builtin "BaseException.__getattribute__") #[[.ref x,.str name i],[]]) (λr k=>match r with|.ok (.ret v)=>aO (ba prog w) A (acg v) Q E k|_=>False) s):
  aO (ba prog w) A (abV (.ref x) (.str name i) fill expr) Q E s:=by
 let l:=I.type (M:=ba prog w);let L:=uU (M:=ba prog w) X c.ga;let aq:=uU (M:=ba prog w) X c.no;let n:=F.excAttr_ValueError.ga.bind (.ref x);let a:(expr&&adY (yH "BaseException.__getattribute__"))=q9:=by cases expr<;>rfl
 let b:(yH "BaseException.__getattribute__"==yH "object.__getattribute__")=q9:=by left
 let m:(adY (cM C)&&yH "BaseException.__getattribute__"==yH "object.__getattribute__")=q9:=by rw[b];rfl
 let#[N,g,d,t,os]:=s;unfold abV;show-nQ (ax (l.at (ax (L.at ?_))));dsimp only;rw[a4 (by rw[m];show-gZ)];unfold getAttrByItsOwn hookBefore;rw[a' (show adY (cM C)=q4 from rfl)];show-ax (aq.at ?_);show-ax (Au (nQ ?_));unfold callGetattribute;rw[a4 (by rw[a];show-gZ)];unfold boundAndCalled;rw[n];show-ax (bk ?_);show-te (r9 (h _) λr k f=>?_);rcases r with e|(_|_|_|v)<;>first|exact f|show-f.elim
def akQ{R:wh->aS->Prop}{b:Value}(X:K.In s.Q)(I:uA s.heap x C)(hm:o_ K C (.type "object")=j3 q4)(h:R (.ok (.ret (.ref C))) s):
  pe (ba prog w) A (.call (.builtin "getset_descriptor.__get__") #[[.builtin "object.__class__",.ref x,b],[]]) R s:=by
 let c:=I.type (M:=ba prog w);let a:=ajf (M:=ba prog w) X hm;let#[f,g,d,t,os]:=s;show-B_ ai2.plain aAd ?_;show-ai2.check _ _ _ _ _ _ _ _ aAf (aAb _ _ _) ?_;unfold Builtin.«getset_descriptor.__get__» descrGet;rw[PySem.W.dga_obj];show-ax (bk ?_);unfold descrGetter descrCheckInstance descrNameAndClass G6;simp only[aAe]
 repeat lk
 show#[O4 _ xL,B' aAc ?_];unfold Builtin.«object.__class__» shownTypeOf
 repeat lk
 show-h
def ajU{M:m5}(X:K.In h)(c:c7 K (.ref C) name=j3 (j3 a))(f:uV K a "__get__"=j3 (j3 g))(d:BI K a=j3 q4):
  tD M h (Yo (.ref x) (.ref C) name) (.bind g a):=by
 let k:=uU (M:=M) X c;let aq:tD M h (azq (j3 a)) (j3 g):=PySem.W.looks_specialIn X f;let b4:=PySem.W.looks_takesIn (M:=M) X d;unfold Yo;show-k.andThen (aq.andThen ?_);let b:tD M h (afJ (j3 a) (j3 g)) (j3 (g,a)):=by unfold afJ;show-b4.andThen ?_;show-.now
 show-b.andThen (PySem.W.Looks.tag .now)
def nK.some(c:nK K C):(we K C).isSome=q4:=by let h:=c.hm;unfold o_ at h;let#[b,a,_]:=Option.bind_eq_some_iff.mp h;rw[a];rfl
def ajV{fill:Bool}{a:Tok}{Q:cC}(X:K.In s.Q)(c:nK K C)(I:uA s.heap x C)(h:Q (.ref C) s):
  aO (ba prog w) A (abV (.ref x) (.str "__class__" a) fill expr) Q E s:=by show-Ĺ X c I λn=>B_ F.excAttr_ValueError.ga.plain F.entry_bexc_ga (YQ X c I ?_);let b:=I.type (M:=ba prog w);let l:=ajU (M:=ba prog w) (x:=x) X c.aB c.hn c.L5;let#[m,g,d,t,os]:=s;unfold Builtin.«object.__getattribute__»;let k:slotArgs "__getattribute__" 1 #[[.ref x,.str (cU "__class__") a],[]]=pure (.ref x,[.str (cU "__class__") a]):=rfl;rw[k];show-ax (bk ?_);dsimp only;let f:afI (.str (cU "__class__") a)=pure (cU "__class__"):=rfl;rw[f];show-ax (bk (ax (b.at (ax (l.at ?_)))));dsimp only;unfold azp;show aO _ _ (tW [yH "object.__class__"] (call (yH "getset_descriptor.__get__") [yH "object.__class__",cM x,cM C]) >>=ret) _ _ _;show-ax (nQ (te (akQ X I c.hm ?_)));show-bk ?_;show aO _ _ (acg (.ref C)) _ _ _;show-bk h
def amB{Q:Option Value->aS->Prop}(X:K.In s.Q)(c:nK K C)(I:uA s.heap x C)(h:Q (j3 (.ref C)) {s with toks:=s.toks+1}):aO (ba prog w) A (getAttr? (.ref x) "__class__") Q E s:=by unfold getAttr? getAttrBy?;show-ax (wpAny_mkText (ax (Au ?_)));show-ajV (s:={s with toks:=s.toks+1}) X c I ?_;show-bk h
end
end
open PySem PySem.Spec PyProof.Rows aq
def akB{K:aL}{M:m5}(c:nK K C)(X:K.In h):tD M h (isType (.ref C)) q4:=by
 let#[f,a]:=yz.mp c.some;unfold we at a;split at a
 .rename_i l g d b aW;intro A Q E s k q;unfold isType loadHead;show-ax (ayQ (k _ _ (X _ _ aW)) (bk q))
 cases a
theorem XV{K:aL}(c:nK K C):PySem.W.KitX K (.ref i) (.ref C) (λh=>uA h i C)where
 ty:=λ_ _ _ I=>I.type
 it:=λ_ _ X _=>akB c X
 ne:=λh d p f n m X b=>by
  show-xO.mpr λq=>?_;let e:C=d:=Value.ref.inj (r3.mp q);subst e;let#[r,a]:=yz.mp c.some;unfold we at a;split at a
  .rename_i w t l g aW;let z:=(X _ _ aW).symm.trans b;cases z
  cases a
 ca:=λX I k=>amB X c I k
section
variable{X:bA}
def aAp:ks X (.builtin "isinstance") (λA H Q=>∃(a C p:Addr)(d:bS)(b:Bool),A=[.ref a,.ref p]/\H a=j3 (x6 a C)/\H p=j3 (.tup (d.map V.ref))/\nK X.K C/\PySem.W.kitAny X.K (.ref C) (d.map cM)=j3 b/\Q (.bo b) H):=by
 intro w s B H A O Q I r h;let#[a,C,p,d,b,2,x,l,c,g,q]:=h;let#[u,F,2,en,o]:=vals2 r;cases en;cases o;let#[ty,6]:=(show e9 X.prog X.w H s.heap a (x6 a C)from I.bu a _ x)
 let#[y,f,m,#[G,E,L,J],aW,k,n,t]:=(show e9 X.prog X.w H s.heap p (.tup (d.map V.ref))from I.bu p _ l)
 simp only at k t;subst k t;let N:f=d.map cM:=by
  clear aW l g y
  induction d generalizing f with
  |nil=>cases m;rfl
  |cons M D e=>
   cases m with
   |cons i j=>
    cases i;rw[e _ j];rfl
 rw[N]at aW;show-PySem.W.kia_tup (XV c) I.eN ty aW g (λz=>nomatch z) λK=>#[.bo b,H,I.tok K,2,q]
inductive apA(K:aL)(xs:aV)(aG C:Addr)(b:Bool):Prop where
 |inl(R:Addr)(_:xs=[.ref aG,.ref R])(_:kI K (.ref C) (.ref R)=j3 b)
 |inr(T:String)(_:xs=[.ref aG,.ty T])(_:kI K (.ref C) (.type T)=j3 b)
inductive aq8(K:aL)(xs:aV)(H:ag)(Q:aX):Prop where
 |mk(aG C:Addr)(b:Bool)(_:H aG=j3 (x6 aG C))(_:nK K C)(_:apA K xs aG C b)(_:Q (.bo b) H)
def qd:ks X (.builtin "isinstance") (aq8 X.K):=by
 intro g s n H t p Q I r h;let#[a,C,b,l,c,m,q]:=h;let#[ty,6]:=(show e9 X.prog X.w H s.heap a (x6 a C)from I.bu a _ l)
 cases m with
 |inl R e i=>
  subst e;let#[u,k,2,en,f]:=vals2 r;cases en;cases f;show-qQ (XV c) I.eN ty i (λz=>nomatch z) λd=>#[.bo b,H,I.tok d,2,q]
 |inr T e i=>
  subst e;let#[u,k,2,en,f]:=vals2 r;cases en;cases f;show-qQ (XV c) I.eN ty i (λz=>nomatch z) λd=>#[.bo b,H,I.tok d,2,q]
def aaI{k:Nat}{A:ee}(r:gD k A):A.units+65<cLine:=by have:=r.un;lia
inductive aq9(K:aL)(neg:Bool)(x:aq.V)(y:aq.V)(H:ag)(Q:aX):Prop where
 |mk(d:_)(ds:_)(_:m2 K H x d)(_:m2 K H y (.list ds))(_:uZ d=q4)(_:uR ds=q4)(_:Q (.bo (if neg then !(ds.any λz=>ki z d)else ds.any λz=>ki z d)) H)
def akF{A:ee}{d:PyData}(a:uZ d=q4)(f:A.units+65<cLine):A.units+1+min (tC ds) d.depth<cLine:=by
 let b:=SeqAt.depth_of_shaped a;let c:min (tC ds) d.depth<=d.depth:=BA _ _
 lia
def Ĵ(g:X.A.units+65<cLine):g5 X (jl .In) (aq9 X.K q9):=by intro b s r H x y v u Q I c f h;let#[d,ds,l,m,a,k,q]:=h;let#[t,n]:=DS I l c;let#[w,p]:=DS I m f;show-SeqAt.in_list_reads p n k (SeqAt.canLay_of_shaped a) (akF a g) #[.bo _,H,I,2,q]
end
end b4
namespace dP
open PySem aq b4
def g_:iW "len"=j3 (.builtin "len"):=by left
def jj:iW "isinstance"=j3 (.builtin "isinstance"):=by left
def Et:iW "all"=j3 (.builtin "all"):=by left
def Ew:iW "int"=j3 (.type "int"):=by left
def Ξ:iW "bool"=j3 (.type "bool"):=by left
def mO:iW "str"=j3 (.type "str"):=by left
def xd:iW "list"=j3 (.type "list"):=by left
def DV:iW "tuple"=j3 (.type "tuple"):=by left
def anU:iW "set"=j3 (.type "set"):=by left
def afx:iW "ValueError"=j3 (.type "ValueError"):=by left
structure fc(mg:b5):Prop where
 len:mg "len"=jp
 range:mg "range"=jp
 isinstance:mg "isinstance"=jp
 B5:mg "all"=jp
 int:mg "int"=jp
 bool:mg "bool"=jp
 str:mg "str"=jp
 list:mg "list"=jp
 tuple:mg "tuple"=jp
 axU:mg "set"=jp
 ValueError:mg "ValueError"=jp
 enumerate:mg "enumerate"=jp
 max:mg "max"=jp
 min:mg "min"=jp
 sum:mg "sum"=jp
 aAs:mg "any"=jp
 dict:mg "dict"=jp
 sorted:mg "sorted"=jp
 zip:mg "zip"=jp
structure bU(K:aL)(mg:b5)(x:Str)(st:Stmt)(ps:bE)(f:Addr)(fd:m3):Prop where
 fn:cp K x x st f fd
 at_:mg x=j3 (.ref f)
 bd:Binds K fd ps []
structure dn(K:aL)(C:Addr)(m qual:Str)(st:Stmt)(ps:bE)(f:Addr)(fd:m3):Prop where
 fn:cp K m qual st f fd
 eO:Meth K C m f
 bd:Binds K fd ps []
structure nW(K:aL)(C:Addr)(qual:Str)(st:Stmt)(ps:bE)(f:Addr)(fd:m3):Prop where
 fn:cp K "__init__" qual st f fd
 made:o8 K C f
 bd:Binds K fd ps []
def c2{X:bA}{k:Nat}{f:Addr}{st:Stmt}{e:Expr}{a:hy}{t:gb}(F:aH X.prog X.w X.K X.mg X.base h k f fd i sp)(D:bU X.K X.mg x st i f fd)(c:gD k X.A)(d:nx h X E)(b:fN X (e::a) t)(g:jd X x:=by rfl)(m:(x==("__debug__":Str))=q9:=by decide)(l:dM (e::a) X.env=(q9,eval e X.env)::dM a X.env:=by rfl)(d3:(hr pos (dM a X.env)).any (·.1)=q9:=by rfl):bq X (.Call (.Name x p) (e::a) [] pos) (Ũ sp [] E t):=(alQ F c g D.at_ D.fn.fK D.bd .nil d b m l d3)
def uw(a:b5)(x:Str)(i:Int):Prop:=∃t,a x=j3 (.int i t)
def w4{X:bA}{i:Int}(a:jd X x)(h:uw X.mg x i)(b:(x==("__debug__":Str))=q9:=by decide):bq X (.Name x pos) (s6 (.int i)):=by let#[t,e]:=h;show-Υ a e #[t,2] b
theorem q_{X:bA}(b:jd X x)(hm:X.mg x=jp)(a:iW x=j3 (.type T))(d:x≠"__name__":=by decide)(c:(x==("__debug__":Str))=q9:=by decide):bq X (.Name x pos) (s6 (.ty T)):=
 al9 (v:=.ty T) b hm a rfl d c
theorem ny{X:bA}(hm:X.mg x=j3 (.ref C))(a:jd X x:=by rfl)(b:(x==("__debug__":Str))=q9:=by decide):bq X (.Name x pos) (s6 (.ref C)):=
 Υ (v:=.ref C) a hm rfl b
def zV{k:eV}{g:TE}{rest:aq.St}{H1:ag}{Q:aX}{J:fF}{xs:aV}(n:∀R:fF->ag->Prop,R J H1->k e H R)(m:hX cs e=jp::rest)(p:p' J H1 xs)(l:xs.Z<sizeLine)(f:aq.V->aq.V)(b:∀(i:Nat)(x:aq.V)(a:ag)(R:aX),xs[i]?=j3 x->aD H1 a->(∀d,aD a d->R (f x) d)->g (j3 x::rest) a R)(c:∀(D:Addr)(H':ag),H1 D=jp->H' D=j3 (.lst (xs.map f))->aD H1 H'->Q (.ref D) H'):kD k cs (hW 0) pR g e H Q:=(n _ (anK m p l f b c))
def anV{m:eV}{l:iL}{k:TE}{rest:aq.St}{H1:ag}{Q:aX}{J:fF}{xs:aV}(t:∀R:fF->ag->Prop,R J H1->m e H R)(r:hX cs e=jp::rest)(w:p' J H1 xs)(n:xs.Z<sizeLine)(p:aq.V->Bool)(f:aq.V->aq.V)(c:∀(i:Nat)(x:aq.V)(a:ag)(R:Bool->ag->Prop),xs[i]?=j3 x->aD H1 a->(∀b,aD a b->R (p x) b)->l (j3 x::rest) a R)(d:∀(i:Nat)(x:aq.V)(a:ag)(R:aX),xs[i]?=j3 x->p x=q4->aD H1 a->(∀b,aD a b->R (f x) b)->k (j3 x::rest) a R)(g:∀(D:Addr)(H':ag),H1 D=jp->H' D=j3 (.lst ((xs.filter p).map f))->aD H1 H'->Q (.ref D) H'):kD m cs (hW 0) l k e H Q:=(t _ (QD r w n p f c d g))
def IL(K:aL)(t:String):kI K (.type t) (.type t)=j3 q4:=by unfold kI;show-a' xg
def xE{X:bA}:nx (fE X.prog X.w) X hO:=by rintro a b H s e c I ⟨_,_,_,_,_,_,_,z⟩;show-z.elim
def ia{f a:List (Str×Addr)}(h:∀p∈f,a.lookup p.1=j3 p.2)(x:Str)(c:Addr)(e:f.lookup x=j3 c):a.lookup x=j3 c:=by
 induction f with
 |nil=>cases e
 |cons p r i=>
  let#[y,d]:=p;rw[List.lookup_cons]at e;by_cases b:(x==y)=q4
  .rw[b]at e;cases e;have:=h (y,c) (v' ..);rwa[show x=y from eq_of_beq b]
  rw[Bool.not_eq_true]at b;rw[b]at e;show-i (λp g=>h p (n0 _ g)) e
end dP
namespace cm
open PySem
def iS(l:bB):Prop:=1<=l.Z/\l.Z<=8/\∀x∈l,97<=x/\x<=122
structure fV where
 a:Nat
 b:Nat
 t:Int
 m:Int
abbrev b0:= List fV
structure fV.Ok(r:fV)(n:Nat):Prop where
 a:r.a<n
 b:r.b<n
 ne:r.a≠r.b
 t:1<=r.t/\r.t<=9
 m:1<=r.m/\r.m<=1000000000
end cm
namespace dP
open PySem aq b4 cm
section
variable{P:cq}{w:bW}{K:aL}{mg:b5}{base:Heap}
abbrev S(l:bB):Str:=⟨l.toArray⟩
def amC{a:gz}{k:Int}(d:0<=k)(c:k<(a.map V.int).Z):hp (a.map V.int) k=j3 (V.int (a.getD k.toNat 0)):=by
 let b:k.toNat < a.Z:=by rw[aM]at c;lia
 let e:(a.map V.int)[k.X]?=j3 (V.int (a.getD k.toNat 0)):=by rw[cR,cQ b];simp[dB,b]
 have:=jG e
 rwa [la d]at this
inductive aaJ(K:aL)(vs:aV)(H:ag)(Q:aX)(fq:bM):Prop where
 |mk(a:Addr)(ns:gz)(k:Int)(_:vs=[.ref a,.int k])(_:aI K H a (ns.map V.int))(_:0<=k)(_:Q (.int (ns.getD k.toNat 0)) H)
def agk:(cU "abcdefghijklmnopqrstuvwxyz").cps.G=(dY 26).map (97+·):=by left
def akG{i:Int}(a:0<=i)(b:i<26):hp (cU "abcdefghijklmnopqrstuvwxyz").cps.toList i=j3 (97+i.X):=by
 let e:(cU "abcdefghijklmnopqrstuvwxyz").cps.G[i.X]?=j3 (97+i.X):=by rw[agk,cR,ahR qI];rfl
 have:=jG e
 rwa [la a]at this
def kU(a b:bB):S a++S b=S (a++b):=by show Str.append _ _=_;simp[Str.append,S]
def ew(a:bB):(S a).Z=a.Z:=by simp[S,Ĭ]
def c1(a:bb):List aq.V:=a.map λl=>V.str (S l)
def O8(a:bb):c1 a=(a.map S).map V.str:=by simp[c1]
def Iv(l:bB):signs (S l)=l.map λc=>V.str (S [c]):=by simp[signs,S]
def kA(a:bb)(r:cm.fV):List aq.V:=[.str (S (a.getD r.a [])),.str (S (a.getD r.b [])),.int r.t,.int r.m]
def eG(H:ag):List Addr->List aV->Prop:=bV λr d=>H r=j3 (.tup d)
def eG.same(a:aD H H'){rs ds}(h:eG H rs ds):eG H' rs ds:=(bV.kv h λ_ _ e=>a _ _ e)
def aT(rs:bS):List aq.V:=rs.map V.ref
theorem Paired.snoc{a b:Type}{F:a->b->Prop}{x:a}{y:b}(q:F x y):∀{l:List a}{m:List b},bV F l m->bV F (l++[x]) (m++[y])
 |_,_,.nil=>.cons q .nil
 |_,_,.cons r t=>.cons r (Paired.snoc q t)
def Jl{a:bb}{k:Int}(c:0<=k)(d:k<a.Z):hp (c1 a) k=j3 (V.str (S (a.getD k.toNat []))):=by
 let b:k.toNat < a.Z:=by lia
 let e:(c1 a)[k.X]?=j3 (V.str (S (a.getD k.toNat []))):=by unfold c1;rw[cR,cQ b];simp[dB,b]
 have:=jG e
 rwa [la c]at this
def xe(a:bb):(c1 a).Z=a.Z:=(aM ..)
def hq{H:ag}(c:H p=jp)(a:aD H H'):aD H (upd H' p o):=(λb u e=>by rw[aR (dj e c)];show-a b u e)
theorem eG.upd{H:ag}{rs ds}(h:eG H rs ds)(e:H p=j3 u)(a:∀d,u≠.tup d):eG (upd H p o) rs ds:=bV.kv h λr d q=>by
 rw[aR]
 .exact q
 rintro rfl;rw[e]at q;show-a d (gk q)
def tY(rs:bS)(t:Addr):aT rs++[V.ref t]=aT (rs++[t]):=by simp[aT]
def eW(rs:bS):(aT rs).Z=rs.Z:=(aM ..)
def eG.len{H rs ds}(h:eG H rs ds):rs.Z=ds.Z:=(lU h)
def bT{H:ag}{t:Addr}(a:H t=jp):aD H (upd H t o):=(λb u e=>by rwa[aR (dj e a)])
def WH{n:Nat}(h:Nat.ble n 99=q4):n<=sizeLine:=(dQ (v_ h) x8)
def gs{n:Nat}{Q:aX}(k:∀p H',aD H H'->H' p=j3 o->Q (.ref p) H')(a:n<=sizeLine:=by exact WH rfl):Rb n H o Q:=(#[a,λp b=>k p _ (bT b) aQ])
def oU{a c:aV}{H:ag}{Q:aX}(f:H l=j3 (.lst a))(d:H b=j3 (.lst c))(k:∀p H',aD H H'->H' p=j3 (.lst (a++c))->Q (.ref p) H')(hn:a.Z+c.Z<=sizeLine:=by exact WH rfl)(m:x=.ref l:=by rfl)(g:y=.ref b:=by rfl):aaE x y H Q:=(#[l,b,a,c,m,g,f,d,hn,λp n=>k p _ (bT n) aQ])
def tj{u v w:bB}{Q:aX}(b:x=S u)(a:y=S v)(e:u++v=w)(h:w.Z<=16777216)(q:Q (.str (S w)) H):Qw (.str x) (.str y) H Q:=by subst b a e;show#[3,(by rwa[ew,ew,<-c0]),by rwa[kU]]
def rr{u v:bB}{a b:Nat}{Q:aX}(g:x=S u)(f:y=S v)(d:u.Z<=a)(c:v.Z<=b)(k:(u++v).Z<=a+b->Q (.str (S (u++v))) H)(h:Nat.ble (a+b) 16777216=q4:=by rfl):Qw (.str x) (.str y) H Q:=by
 let l:(u++v).Z<=a+b:=by rw[c0];show-Nat.add_le_add d c
 exact tj g f rfl (dQ l (v_ h)) (k l)
def xn{K:aL}{b:aV}{lo a:Option Int}{Q:aX}(c:aI K H p xs)(e:gg xs lo a=b)(k:∀l H',aD H H'->H' l=j3 (.lst b)->Q (.ref l) H')(d:x=.ref p:=by rfl):aaC K x lo a H Q:=(#[p,xs,d,c,λl f=>k l _ (bT f) (e▸aQ)])
def BP{A B:Prop}(t:b=q4->A)(f:b=q9->B):if b=q4 then A else B:=by
 cases b
 .exact f rfl
 exact t rfl
def QC{b:Bool}{A B:Prop}(f:b=q9->A)(t:b=q4->B):if(!b)=q4 then A else B:=by
 cases b
 .exact f rfl
 exact t rfl
def d1{A B:Prop}(h:b=q4)(q:A):if b=q4 then A else B:=by rwa[a' h]
def eM{A B:Prop}(h:b=q9)(q:B):if b=q4 then A else B:=by subst h;show-q
def xF{R:aX}(e:b=q4)(h:R (.bo q4) H):R (.bo b) H:=by rwa[e]
def XW(a:aV):a.map (λ_=>V.bo q4)=(h5 a.length q4).map V.bo:=by
 induction a with
 |nil=>rfl
 |cons x r e=>simp[ye,e]
def XX(n:Nat):(h5 n q4).all id=q4:=by rw[tv];intro x a;exact(ahY.mp a).2
structure ι(K:aL):Prop where
 UD:kI K (.type "int") (.type "bool")=j3 q9
inductive Ο(vs:aV)(H:ag)(Q:aX)(fq:bM):Prop where
 |mk(i:Int)(_:vs=[.int i])(_:Q (.bo q4) H)
inductive Zf(vs:aV)(H:ag)(Q:aX)(fq:bM):Prop where
 |mk(i a b:Int)(_:vs=[.int i,.int a,.int b])(_:a<=i)(_:i<=b)(_:Q (.bo q4) H)
inductive Ρ(vs:aV)(H:ag)(Q:aX)(fq:bM):Prop where
 |mk(r:Addr)(xs:aV)(n:Int)(_:vs=[.ref r,.int n])(_:H r=j3 (.tup xs))(_:(xs.Z:Int)=n)(_:Q (.bo q4) H)
def HQ(b:bE):(b.map V.str).all s7=q4:=by rw[tv];intro x a;let#[y,1]:=bQ.mp a;rfl
def Ou{a:bE}{x:Str}(h:x∈a):q8 (.str x) (a.map V.str)=q4:=by unfold q8;rw[tw];show#[.str x,bQ.mpr #[x,h,2],by show(x==x)=q4;show-beq_self_eq_true x]
inductive Zg(K:aL)(vs:aV)(H:ag)(Q:aX)(fq:bM):Prop where
 |mk(a:Addr)(ys:bE)(x y:Str)(_:vs=[.ref a,.str x,.str y])(_:aI K H a (ys.map V.str))(_:x∈ys)(_:y∈ys)(_:x≠y)(_:Q (.bo q4) H)
def axM:cU "a"=⟨#[97]⟩:=by left
def axQ:cU "z"=⟨#[122]⟩:=by left
inductive Į(vs:aV)(H:ag)(Q:aX)(fq:bM):Prop where
 |mk(l:bB)(_:vs=[.str (S l)])(_:iS l)(_:∀H',aD H H'->Q (.bo q4) H')
structure FE(mg:b5):Prop where
 aif:uw mg "MOST_HOUSES" 12
 aii:uw mg "MOST_ROADS" 40
 aik:uw mg "MOST_SIGNS" 8
 aim:uw mg "MOST_TURNS" 9
 aij:uw mg "MOST_ROOM" 1000000000
def AZ{b:bB}(h:S a=S b):a=b:=by have:=fe (λx=>x.cps.G) h;simpa[S]using this
def amD{a:bb}(h:a.Nodup):∀i j,i<j->j<(a.map S).Z->(a.map S).getD i n7≠(a.map S).getD j n7:=by
 intro i j d b e;rw[aM]at b;let c:i<a.Z:=by lia
 rw[dB,dB,cR,cR,cQ c,cQ b]at e;let f:=AZ (show S a[i]=S a[j]from e);show-P7.mp h i j c b d f
structure Good(hs:bb):Prop where
 nm:∀x∈hs,iS x
 aA:hs.Nodup
 bX:hs.Z<=12
inductive į(vs:aV)(H:ag)(Q:aX)(fq:bM):Prop where
 |mk(a:Addr)(hs:bb)(_:vs=[.ref a])(_:H a=j3 (.lst (c1 hs)))(_:Good hs)(_:∀H',aD H H'->Q (.bo q4) H')
theorem bV.get{a b:Type}{F:a->b->Prop}:∀{l:List a}{m:List b}{i:Nat}{x:a},bV F l m->l[i]?=j3 x->∃y,m[i]?=j3 y/\F x y
 |_,_,_,_,.nil,e=>by simp at e
 |_,_,0,_,.cons r _,e=>by simp at e;subst e;show#[1,r]
 |_,_,i+1,x,.cons _ t,e=>by let#[y,c,d]:=bV.get (i:=i) (x:=x) t (by simpa using e);show#[y,by simpa using c,d]
structure gG(H:ag)(hs:bb)(rs:bS)(ds:b0):Prop where
 hE:eG H rs (ds.map (kA hs))
 ok:∀d∈ds,d.Ok hs.Z
def gG.same{hs rs ds}(r:gG H hs rs ds)(a:aD H H'):gG H' hs rs ds:=(#[r.hE.same a,r.ok])
def gG.get{H:ag}{hs rs ds}{i:Nat}(q:gG H hs rs ds)(e:rs[i]?=j3 r):∃d,ds[i]?=j3 d/\d.Ok hs.Z/\H r=j3 (.tup (kA hs d)):=by let#[y,a,c]:=bV.get q.hE e;rw[cR]at a;let#[d,b,2]:=e6.mp a;show#[d,b,q.ok d (dm b),c]
def gG.len{hs rs ds}(q:gG H hs rs ds):rs.Z=ds.Z:=by
 have:=q.hE.len
 rwa [aM]at this
def vz{b:bb}{a:Nat}(h:a<b.Z):S (b.getD a [])∈b.map S:=by show-bQ.mpr #[b.getD a [],4,2];rw[dB,cQ h];show-nZ h
def apO{c:bb}{a b:Nat}(k:c.Nodup)(d:a<c.Z)(g:b<c.Z)(l:a≠b):S (c.getD a [])≠S (c.getD b []):=by
 intro e;let f:=AZ e;rw[dB,dB,cQ d,cQ g]at f;rcases Nat.lt_or_gt_of_ne l with h|h
 .exact P7.mp k a b d g h f
 show-P7.mp k b a g d h f.J
inductive ļ(K:aL)(vs:aV)(H:ag)(Q:aX)(fq:bM):Prop where
 |mk(a r:Addr)(hs:bb)(d:cm.fV)(_:vs=[.ref a,.ref r])(_:aI K H a (c1 hs))(_:hs.Nodup)(_:d.Ok hs.Z)(_:H r=j3 (.tup (kA hs d)))(_:Q (.bo q4) H)
inductive Ľ(K:aL)(vs:aV)(H:ag)(Q:aX)(fq:bM):Prop where
 |mk(a b:Addr)(hs:bb)(rs:bS)(ds:b0)(_:vs=[.ref a,.ref b])(_:aI K H a (c1 hs))(_:hs.Nodup)(_:H b=j3 (.lst (aT rs)))(_:gG H hs rs ds)(_:rs.Z<=40)(_:∀H',aD H H'->Q (.bo q4) H')
def SameBut(x:Addr)(H H':ag):Prop:=∀b o,b≠x->H b=j3 o->H' b=j3 o
def Rf(a b:Addr):List (Str×aq.V):=[("kept_houses",.ref a),("kept_roads",.ref b)]
structure uB(K:aL)(C:Addr):Prop where
 cl:fw K C
 Hz:xv K C "kept_houses"
 hh:xv K C "kept_roads"
inductive IM(K:aL)(C:Addr)(vs:aV)(H:ag)(Q:aX)(fq:bM):Prop where
 |mk(x al a b:Addr)(hs:bb)(rs:bS)(ds:b0)(_:vs=[.ref x,.ref a,.ref b])(_:H x=j3 (.ins C al []))(_:H a=j3 (.lst (c1 hs)))(_:Good hs)(_:H b=j3 (.lst (aT rs)))(_:gG H hs rs ds)(_:rs.Z<=40)(_:∀(H':ag)(bp bl:Addr),SameBut x H H'->H' x=j3 (.ins C al (Rf bp bl))->H' bp=j3 (.lst (c1 hs))->H' bl=j3 (.lst (aT rs))->H bp=jp->H bl=jp->Q .cf H')
structure iC(C:Addr)(H:ag)(x bp bl:Addr)(xs ys:aV):Prop where
 ins:∃al,H x=j3 (.ins C al (Rf bp bl))
 GW:H bp=j3 (.lst xs)
 sZ:H bl=j3 (.lst ys)
theorem iC.same(n:iC C H x bp bl xs e)(a:aD H H'):iC C H' x bp bl xs e:=
 let⟨b,h⟩:=n.ins
 #[#[b,a _ _ h],a _ _ n.GW,a _ _ n.sZ]
inductive zB(C:Addr)(vs:aV)(H:ag)(Q:aX)(fq:bM):Prop where
 |mk(x bp bl:Addr)(xs ys:aV)(_:vs=[.ref x])(_:iC C H x bp bl xs ys)(_:∀l,H l=jp->Q (.ref l) (upd H l (.lst xs)))
inductive DW(C:Addr)(vs:aV)(H:ag)(Q:aX)(fq:bM):Prop where
 |mk(x bp bl:Addr)(xs ys:aV)(_:vs=[.ref x])(_:iC C H x bp bl xs ys)(_:∀l,H l=jp->Q (.ref l) (upd H l (.lst ys)))
def Τ{Q:aX}(N:iC C H n bp bl xs e)(k:∀l H',aD H H'->H' l=j3 (.lst xs)->Q (.ref l) H'):zB C [.ref n] H Q E:=(#[n,bp,bl,xs,e,2,N,λl a=>k l _ (bT a) aQ])
def ľ{Q:aX}(N:iC C H n bp bl xs e)(k:∀l H',aD H H'->H' l=j3 (.lst e)->Q (.ref l) H'):DW C [.ref n] H Q E:=(#[n,bp,bl,xs,e,2,N,λl a=>k l _ (bT a) aQ])
inductive Ι(C R:Addr)(vs:aV)(H:ag)(Q:aX)(E:bM):Prop where
 |mk(x bp bl:Addr)(xs ys:aV)(k:Int)(_:vs=[.ref x,.int k])(_:iC C H x bp bl xs ys)(_:(0<=k/\k<ys.Z->∃v,hp ys k=j3 v/\Q v H))(_:(¬(0<=k/\k<ys.Z)->E (.ref R) jp H))
def bR(a:bb):List PyData:=(a.map S).map PyData.str
def Zh(h:iS l):Fv (.str (S l))=q4:=by simp only[Fv,kj,S];rw[Yc];intro x a;have:=h.2.2 x (by simpa using a);show-cw qI
def Pd{ds:gy}(h:∀d∈ds,d.canLay0=q4):uR ds=q4:=by
 induction ds with
 |nil=>rfl
 |cons d r i=>
  simp only[uR,hN];show#[h d (v' ..),i λe a=>h e (n0 _ a)]
def XN{ds:gy}{n:Nat}(h:∀d∈ds,d.depth<=n):tC ds<=n:=by
 induction ds with
 |nil=>show-eu _
 |cons d r i=>
  simp only[tC];show-Nat.max_le.mpr #[h d (v' ..),i λe a=>h e (n0 _ a)]
def Good.at{b:bb}(G:Good b){a:Nat}(h:a<b.Z):iS (b.getD a []):=by show-G.nm _ ?_;rw[dB,cQ h];show-nZ h
def Xp{d:PyData}{n:Nat}(b:d.canLay0=q4)(c:d.depth<=n)(a:n<=64):uZ d=q4:=by unfold uZ;rw[b,cw (dQ c a)];rfl
def YR{a:ag}(d:a x=jp)(k:a al=jp)(f:SameBut x (upd (upd a al o) x u) h):aD a h:=(λb v e=>by let c:=dj e d;let g:=dj e k;show-f b v c ?_;rwa[aR c,aR g])
def Zi(a:bb):gG H a [] []:=(#[.nil,λ_ h=>bt h dU])
inductive JM(K:aL)(vs:aV)(H:ag)(Q:aX)(fq:bM):Prop where
 |mk(a:Addr)(ns:gz)(_:vs=[.ref a])(_:aI K H a (ns.map V.int))(_:ns.Z<=63)(_:∀H',Q (.bo q4) H')
def Em(a:AW)(b:lX)(C R:Addr):Bool:=match a.mro,b.G with
  |.ref e::bm,[_,_,_,_,j3 (.builtin _),_]=>e==C&&!a.hasDel&&bm.contains (.type "BaseException")&&(cM C::bm).contains (.ref R)
  |_,_=>q9
def HR{K:aL}{b:Option Addr}{a:AW}(l:K.lookup C=j3 #[.type "type",b,.cls a,e])(h:Em a e C R=q4):l' K C R=q4:=by unfold l';rwa[l]
def anW(K:aL):kI K (.type "int") (.type "bool")=j3 q9:=by show(if(wm "int"==wm "bool")=q4 then j3 q4 else if Qo "bool"=q4 then(atZ "int").map (·.contains (.type "bool"))else jp)=j3 q9;decide+kernel
def ne_int{i j:Int}(h:i≠j):decide (V.int i=V.int j)=q9:=(c9 λz=>h (V.int.inj z))
def ahk{n p:Option Addr}{a b:AW}{l r:lX}(t:K.lookup C=j3 #[.type "type",n,.cls a,l])(lo:K.lookup o=j3 #[.type "type",p,.cls b,r])(m:a.mro.isEmpty=q9)(f:(cM C==cM o)=q9)(g:a.mro.contains (.ref o)=q9):kI K (.ref C) (.ref o)=j3 q9:=by
 unfold kI Ē;rw[a4 (by rw[f];show-gZ)];let d:we K o=j3 b:=by unfold we;rw[lo]
 let c:BJ K (.ref o)=j3 (.type "type"):=by show(K.lookup o).map (·.cls)=j3 (.type "type");rw[lo];rfl
 let k:we K C=j3 a:=by unfold we;rw[t]
 dsimp only;rw[d,c,a' xg];show o_ K C (.ref o)=j3 q9;unfold o_;rw[k];show(if a.mro.isEmpty=q4 then jp else j3 (a.mro.contains (.ref o)))=j3 q9;rw[m,g];rfl
def top(i:Nat):Stmt:=az7.main.body.getD i (.Pass #[0,0,0,0])
mutual
inductive cO(H:ag):aq.V->PyData->Prop
 |cf:cO H .cf .none
 |bo(b:Bool):cO H (.bo b) (.bool b)
 |int(i:Int):cO H (.int i) (.int i)
 |str(x:Str)(_:x.Z<=100)(_:kj x=q4):cO H (.str x) (.str x)
 |lst{a:Addr}{xs:aV}{ds:gy}:H a=j3 (.lst xs)->xs.Z<=100->gn H xs ds->cO H (.ref a) (.list ds)
 |tup{a:Addr}{xs:aV}{ds:gy}:H a=j3 (.tup xs)->xs.Z<=100->gn H xs ds->cO H (.ref a) (.tuple ds)
inductive gn(H:ag):List aq.V->List PyData->Prop
 |nil:gn H [] []
 |cons{v:aq.V}{d:PyData}{vs:aV}{ds:gy}:cO H v d->gn H vs ds->gn H (v::vs) (d::ds)
end
theorem cO.keep{H H':ag}(l:∀a c,H a=j3 (.lst c)->H' a=j3 (.lst c))(t:∀a c,H a=j3 (.tup c)->H' a=j3 (.tup c)){d:PyData}(h:cO H v d):cO H' v d:=
 cO.rec (motive_1:=λv d _=>cO H' v d) (motive_2:=λf ds _=>gn H' f ds) .cf .bo .int .str (λe z _ i=>.lst (l _ _ e) z i) (λe z _ i=>.tup (t _ _ e) z i) .nil (λ_ _ a b=>.cons a b) h
theorem gn.keep{H H':ag}(l:∀a c,H a=j3 (.lst c)->H' a=j3 (.lst c))(t:∀a c,H a=j3 (.tup c)->H' a=j3 (.tup c))(h:gn H j ds):gn H' j ds:=
 gn.rec (motive_1:=λv d _=>cO H' v d) (motive_2:=λj ds _=>gn H' j ds) .cf .bo .int .str (λe z _ i=>.lst (l _ _ e) z i) (λe z _ i=>.tup (t _ _ e) z i) .nil (λ_ _ a b=>.cons a b) h
def cO.same(a:aD H H'){d:PyData}(h:cO H v d):cO H' v d:=(h.keep (λ_ _=>a _ _) (λ_ _=>a _ _))
def gn.same(a:aD H H')(h:gn H e ds):gn H' e ds:=(h.keep (λ_ _=>a _ _) (λ_ _=>a _ _))
end
theorem cO.sb{K:aL}{d:PyData}(h:cO H v d):m2 K H v d:=
 cO.rec (motive_1:=λv d _=>m2 K H v d) (motive_2:=λc ds _=>A2 K H c ds) .cf .bo .int (λx _ _=>.str x) (λe _ _ i=>.lst (aI.of e) i) (λe _ _ i=>.tup (cj.of e) i) .nil (λ_ _ a b=>.cons a b) h
theorem cO.wy{d:PyData}(h:cO H v d):d.canLay0=q4:=
 cO.rec (motive_1:=λ_ d _=>d.canLay0=q4) (motive_2:=λ_ ds _=>uR ds=q4) rfl (λ_=>rfl) (λ_=>rfl) (λ_ _ ok=>ok) (λ_ _ _ i=>i) (λ_ _ _ i=>i) rfl (λ_ _ a b=>by simp only[uR,hN];show#[a,b]) h
theorem cO.inj{d e:PyData}(h:cO H v d):cO H v e->d=e:=
 cO.rec (motive_1:=λv d _=>∀e,cO H v e->d=e) (motive_2:=λf ds _=>∀c,gn H f c->ds=c) (λ_ g=>by cases g;rfl) (λ_ _ g=>by cases g;rfl) (λ_ _ g=>by cases g;rfl) (λ_ _ _ _ g=>by cases g;rfl)
  (λe _ _ i _ g=>by
   cases g with
   |lst j _ t=>rw[e]at j;cases j;rw[i _ t]
   |tup j _ _=>rw[e]at j;cases j)
  (λe _ _ i _ g=>by
   cases g with
   |tup j _ t=>rw[e]at j;cases j;rw[i _ t]
   |lst j _ _=>rw[e]at j;cases j)
  (λ_ g=>by cases g;rfl)
  (λ_ _ a b _ g=>by
   cases g with
   |cons x y=>rw[a _ x,b _ y]) h e
theorem gn.paired(h:gn H e ds):bV (cO H) e ds:=
 gn.rec (motive_1:=λ_ _ _=>True) (motive_2:=λe ds _=>bV (cO H) e ds) trivial (λ_=>trivial) (λ_=>trivial) (λ_ _ _=>trivial) (λ_ _ _ _=>trivial) (λ_ _ _ _=>trivial) .nil (λa _ _ i=>.cons a i) h
def gn.len{a:aV}{ds:gy}(h:gn H a ds):a.Z=ds.Z:=(lU h.paired)
def gn.get{a:aV}{ds:gy}{i:Nat}(h:gn H a ds)(e:a[i]?=j3 v):∃d,ds[i]?=j3 d/\cO H v d:=(bV.get h.paired e)
theorem gn.append{b d:aV}{ds c:gy}(h:gn H b ds)(g:gn H d c):gn H (b++d) (ds++c):=
 gn.rec (motive_1:=λ_ _ _=>True) (motive_2:=λb ds _=>gn H (b++d) (ds++c)) trivial (λ_=>trivial) (λ_=>trivial) (λ_ _ _=>trivial) (λ_ _ _ _=>trivial) (λ_ _ _ _=>trivial) g (λa _ _ i=>.cons a i) h
open Classical in
def K8(H:ag)(v:aq.V):PyData:=if h:∃d,cO H v d then Yx h else .none
def Zz{d:PyData}(h:cO H v d):K8 H v=d:=by
 let q:∃d,cO H v d:=#[d,h]
 unfold K8;rw[dif_pos q];show-cO.inj (Ja q) h
def z_:PyData->String
 |.none=>"NoneType"
 |.bool _=>"bool"
 |.int _=>"int"
 |.str _=>"str"
 |.list _=>"list"
 |.tuple _=>"tuple"
 |.dict _=>"dict"
def cO.ty{K:aL}{d:PyData}(h:cO H v d):pQ K H v (.type (z_ d)):=by
 cases h with
 |cf=>show-.cf
 |bo b=>show-.bo b
 |int i=>show-.int i
 |str x _ _=>show-.str x
 |lst h _ _=>show-.lst h
 |tup h _ _=>show-.tup h
def vW(t c:String):Option Bool:=if(wm t==wm c)=q4 then j3 q4 else if Qo c=q4 then(atZ t).map (·.contains (.type c))else jp
def A0(K:aL){t:String}(h:vW t c=j3 b):kI K (.type t) (.type c)=j3 b:=(h)
def isTup:PyData->Bool|.tuple _=>q4|_=>q9
def isBool:PyData->Bool|.bool _=>q4|_=>q9
def Ł:PyData->Bool|.int _=>q4|.bool _=>q4|_=>q9
def ZA(d:PyData):vW (z_ d) "tuple"=j3 (isTup d):=by cases d<;>(show vW _ _=j3 _;simp only[z_,isTup];decide+kernel)
def Κ(d:PyData):vW (z_ d) "bool"=j3 (isBool d):=by cases d<;>(show vW _ _=j3 _;simp only[z_,isBool];decide+kernel)
def anY(d:PyData):vW (z_ d) "int"=j3 (Ł d):=by cases d<;>(show vW _ _=j3 _;simp only[z_,Ł];decide+kernel)
def mH:PyData->Bool
 |.int _=>q4
 |_=>q9
def Pe(lo a:Int):PyData->Bool
 |.int i=>decide (lo<=i)&&decide (i<=a)
 |_=>q9
def inD(d:PyData)(ds:gy):Bool:=ds.any λz=>ki z d
def kN(c:gy)(a b:PyData):Bool:=inD a c&&inD b c&&!ki a b
end dP
namespace b4
open PySem PySem.Spec PyProof.Rows aq
section
variable{X:bA}{e:Expr}{es:hy}{pos p:Pos}{k:Nat}{f C:Addr}{fd:m3}{ps:bE}{sp:fx}{t:gb}{x:Str}
def anZ(sp:fx)(t:gb):tF:=λE b H Q=>t b H λc a=>sp c a Q E
end
end b4
namespace dP
open PySem PySem.Spec PyProof.Rows aq b4 cm
structure Ql where
 p:ag->aq.V->Prop
 up:∀{H H':ag}{v:aq.V},aD H H'->p H v->p H' v
def ats(d:PyData):Ql:=#[λH v=>cO H v d,λa h=>h.same a]
section
variable{X:bA}{e a b:Expr}{es:hy}{pos dI:Pos}{AL:List (Option Ql)}{A B R:Ql}
def Jm{H v i}(h:cO H v (.int i)):v=.int i:=by cases h;rfl
def ł{H v x}(h:cO H v (.str x)):v=.str x/\x.Z<=100/\kj x=q4:=by cases h;show#[2,by assumption,by assumption]
def Ń{H v ds}(h:cO H v (.list ds)):∃a c,v=.ref a/\H a=j3 (.lst c)/\c.Z<=100/\gn H c ds:=by cases h;show#[_,1,by assumption,by assumption,by assumption]
def ń{H v ds}(h:cO H v (.tuple ds)):∃a c,v=.ref a/\H a=j3 (.tup c)/\c.Z<=100/\gn H c ds:=by cases h;show#[_,1,by assumption,by assumption,by assumption]
variable{i j:Int}
def PL{x y:Str}(c:kj x=q4)(d:kj y=q4):kj (x++y)=q4:=by unfold kj at *;show(x.cps++y.cps).all _=q4;rw[Array.all_append,c,d];rfl
end
def amE{b:bE}:∀{a:dR},cI (b.map V.str) a->StrsAre a b:=by
 induction b with
 |nil=>intro a r;rw[Bl]at r;cases r;show-.nil
 |cons n ns h=>
  intro a r;rw[e7]at r;cases r with
  |cons i j=>
   let#[t,e]:=i;subst e;show-.cons n t (h j)
inductive rJoin(K:aL)(x:aq.V)(xs:aV)(H:ag)(Q:aX):Prop where
 |mk(z:_)(a:_)(ys:_)(_:x=.str z)(_:xs=[.ref a])(_:aI K H a (ys.map V.str))(_:(ys.map (·.length)).sum+ys.Z*z.Z<=16777216)(_:Q (.str (Txt.join z ys)) H)
def Ir{X:bA}:Bw X "str.join" (rJoin X.K):=by intro b s m H x p v n Q I d rs h;let#[z,a,w,2,2,c,f,q]:=h;let#[t,2]:=d;let#[u,2,en]:=vals1 rs;cases en;let#[g,r,pl,_]:=I.list c;show-join_list pl.isList (amE r) f λl k=>#[.str _,H,I.tok k,#[l,2],q]
abbrev L(x:String):Str:=cU x
def Ņ{a:bb}{y:Str}(h:y∉a.map S):inD (.str y) (bR a)=q9:=by unfold inD;rw[xO];intro z;let#[v,c,e]:=tw.mp z;let#[u,d,2]:=bQ.mp c;let b:(u==y)=q4:=e;show-h (eq_of_beq b▸d)
theorem ņ{H:ag}:∀{a:bb},(∀x∈a,iS x)->gn H (c1 a) (bR a)
 |[],_=>.nil
 |l::a,h=>.cons (.str (S l) (by rw[ew];have:=(h l (v' ..)).2.1;lia) (Zh (h l (v' ..)))) (ņ λx b=>h x (n0 _ b))
def ŭ{H:ag}(G:Good hs)(h:H a=j3 (.lst (c1 hs))):cO H (.ref a) (.list (bR hs)):=(.lst h (by rw[xe];have:=G.bX;lia) (ņ G.nm))
end dP
namespace cm
open PySem
def hsz(c:Int):Nat:=(1+c%8).toNat
def d3(c:Int):Nat:=(c/8%(1+c%8)).toNat
def jK(c:Int)(k j:Nat):Nat:=97+((c/64+5*(j:Int)*(j:Int)+2*(k:Int)*(if j=d3 c then 1 else 0))%26).toNat
def vg(c:Int)(k:Nat):List Nat:=(dY (hsz c)).map (jK c k)
def vt(c:Int)(m:Nat):List bB:=(dY m).map (vg c)
def Ň(c:Int):1<=hsz c/\hsz c<=8:=by unfold hsz;lia
def amF(c:Int):(1+c%8)=(hsz c:Int):=by unfold hsz;lia
def an9(c:Int):d3 c<hsz c:=by
 let a:0<1+c%8:=by lia
 let d:=k_ (c/8) a;let b:=jA (c/8) (by lia:1+c%8≠0);unfold d3 hsz
 lia
def amG(c:Int):c/8%(1+c%8)=(d3 c:Int):=by
 let a:=jA (c/8) (by lia:1+c%8≠0);unfold d3
 lia
def aoa(c:Int)(k j:Nat):97<=jK c k j/\jK c k j<=122:=by unfold jK;lia
def aob(c:Int)(k:Nat):iS (vg c k):=by let h:=Ň c;show#[by simp[vg];lia,by simp[vg];lia,λx a=>?_];let#[j,1]:=bQ.mp a;show-aoa c k j
def amH{c:Int}{k l:Nat}(f:k<13)(g:l<13)(e:vg c k=vg c l):k=l:=by
 let h:=an9 c;let b:(vg c k)[d3 c]?=(vg c l)[d3 c]?:=by rw[e]
 unfold vg at b;rw[cR,cR,ahR h]at b;let a:jK c k (d3 c)=jK c l (d3 c):=by simpa using b
 unfold jK at a;rw[a' rfl]at a;generalize c/64+5*(d3 c:Int)*(d3 c:Int)=z at a;rw[ZI,ZI]at a;let d:(z+2*(k:Int))%26=(z+2*(l:Int))%26:=by rw[<-la (jA (z+2*(k:Int)) (by decide:(26:Int)≠0)),Nat.add_left_cancel a,la (jA _ x8)]
 let#[q,m]:=Int.dvd_of_emod_eq_zero (Int.emod_eq_emod_iff_emod_sub_eq_zero.mp d);clear a d e h
 lia
def af6{k:Type}{f:Nat->k}{m:Nat}(h:∀i j,i<m->j<m->f i=f j->i=j):((dY m).map f).Nodup:=by show-yd.mpr ?_;show-ahA ?_ (Δ (n:=m));intro a b c d g e;show-g (h a b (kF.mp c) (kF.mp d) e)
def ahl{c:Int}{m:Nat}(h:m<=12):(vt c m).Nodup:=(af6 λi j b a e=>amH qI qI e)
def WM(c:Int)(m:Nat):(vt c m).Z=m:=by simp[vt]
structure Lt where
 a:Nat
 b:Nat
 t:Int
def uC(c:Int):Int:=c*982451653%10000000000037
def pV(n:Nat)(c:Int):Int:=uC c%n
def lend(n:Nat)(c:Int):Int:=(pV n c+1+uC c/n%((n:Int)-1))%n
def lt(n:Nat)(c a:Int):Lt:=#[(pV n c).toNat,(lend n c).toNat,a+uC c/1000%31]
structure Lt.Ok(d:Lt)(n:Nat)(base:Int):Prop where
 a:d.a<n
 b:d.b<n
 ne:d.a≠d.b
 lo:base<=d.t
 hi:d.t<=base+30
def apP{n:Nat}(h:1<n)(c a:Int):(lt n c a).Ok n a:=by
 let b1:0<=pV n c:=jA _ qI;let r:pV n c<n:=k_ _ qI;let m:0<=lend n c:=jA _ qI;let l:lend n c<n:=k_ _ qI;let k:0<=uC c/n%((n:Int)-1):=jA _ qI;let g:uC c/n%((n:Int)-1)<(n:Int)-1:=k_ _ qI;let t:pV n c≠lend n c:=by
  intro z;let b:lend n c=(pV n c+1+uC c/n%((n:Int)-1))%n:=rfl;generalize uC c/n%((n:Int)-1)=x at k g b;by_cases d:pV n c+1+x<n
  .rw[Bb qI d]at b
   lia
  let f:(pV n c+1+x)%(n:Int)=(pV n c+1+x-n)%(n:Int):=by rw[ZK]
  rw[f,Bb qI qI]at b
  lia
 let w:0<=uC c/1000%31:=jA _ x8;let p:uC c/1000%31<31:=k_ _ x8;show#[by show(pV n c).toNat < n;lia,by show(lend n c).toNat < n;lia,by show(pV n c).toNat≠(lend n c).toNat;lia,by show a<=a+_;lia,by show a+_<=a+30;lia]
end cm
namespace b4
open PySem PySem.Spec PyProof.Rows aq
def f9{b:Type}:Sem b->Prop
 |.pure _=>True
 |.raise _=>True
 |.unsupported _=>True
 |.finish _=>True
 |.register _ _=>True
 |.rule _ k=>f9 (k ())
 |.at _ k=>f9 (k ())
 |.load _ _ k=>∀o,f9 (k o)
 |.update _ _ f k=>(∀o,(f o).dict=o.dict)/\f9 (k ())
 |.alloc _ k=>∀a,f9 (k a)
 |.loadIfAlive _ k=>∀o,f9 (k o)
 |.point _ k=>f9 (k ())
 |.fresh k=>∀t,f9 (k t)
 |.ask k=>∀t,f9 (k t)
 |.handled _ k=>∀t,f9 (k t)
 |.stack k=>∀t,f9 (k t)
 |.thread k=>∀n,f9 (k n)
 |_=>False
def i4(h a:Heap):Prop:=h.Y<=a.Y/\∀e,e<h.Y->(a.objs[e]?).map (·.dict)=(h.objs[e]?).map (·.dict)
def i4.refl(h:Heap):i4 h h:=(#[b7 _,λ_ _=>rfl])
def i4.trans(a:i4 h ai)(b:i4 ai ak):i4 h ak:=(#[dQ a.1 b.1,λe c=>(b.2 e (iR c a.1)).trans (a.2 e c)])
def i4.push(h:Heap)(o:Obj):i4 h (h.push o):=by
 let#[a,l]:=h;show#[4,λe b=>?_]
 .show a.size<=(a.push o).size;simp
 show((a.push o)[e]?).map _=_;rw[Array.getElem?_push_lt b];simp[b]
def i4.update(h:Heap)(a:Addr){f:Obj->Obj}(c:∀o,(f o).dict=o.dict):i4 h (h.update a f):=by
 let#[b,l]:=h;show#[4,λe d=>?_]
 .show b.size<=(b.modify a f).size;simp
 show((b.modify a f)[e]?).map _=_;rw[Array.getElem?_modify];split
 .cases b[e]? with
  |none=>rfl
  |some o=>show j3 (f o).dict=_;rw[c];rfl
 rfl
def i4.dict{h d:Heap}(s:i4 h d){o c:Obj}(a:h.get? e=j3 o)(b:d.get? e=j3 c):c.dict=o.dict:=by let f:=(agp.mp a).1;let g:=(agp.mp b).1;have:=s.2 e (dE a);rw[f,g]at this;show-gk this
def amI{r:Type}{M:m5}{m:PySem.Ctx}{Q:r->Pos->aS->Prop}{E:Value->Pos->aS->Prop}(t:Sem r)(w:f9 t)(p:Pos)(s:aS)(h:Sem.wp M m t Q E p s):
  Sem.wp M m t (λa l g=>Q a l g/\i4 s.heap g.Q) (λa l g=>E a l g/\i4 s.heap g.Q) p s:=by
 let n:∀(t:Sem r),f9 t->∀(p:Pos)(s:aS)(b:Heap),i4 b s.Q->Sem.wp M m t Q E p s->Sem.wp M m t (λa l g=>Q a l g/\i4 b g.Q) (λa l g=>E a l g/\i4 b g.Q) p s:=by
  intro t
  induction t with
  |pure a=>exactλ_ p s b d h=>#[h,d]
  |raise e=>exactλ_ p s b d h=>#[h,d]
  |unsupported=>exactλ_ p s b d h=>h
  |finish=>exactλ_ p s b d h=>h
  |register=>exactλ_ p s b d h=>h
  |rule _ k i=>exactλc p s b d h=>i () c p s b d h
  |«at» _ k i=>exactλc p s b d h=>i () c _ s b d h
  |load a _ k i=>exactλc p s b d#[o,e,h]=>#[o,e,i o (c o) p s b d h]
  |update a _ f k i=>exactλc p s b d#[e,h]=>#[e,i () c.2 p _ b (d.trans (i4.update _ _ c.1)) h]
  |alloc o k i=>exactλc p s b d h=>i _ (c _) p _ b (d.trans (i4.push _ _)) h
  |loadIfAlive a k i=>exactλc p s b d h=>i _ (c _) p s b d h
  |point _ k i=>exactλc p s b d h=>i () c p s b d h
  |fresh k i=>exactλc p s b d h=>i _ (c _) p _ b d h
  |ask k i=>exactλc p s b d h=>i _ (c _) p s b d h
  |handled _ k i=>exactλc p s b d h=>i _ (c _) p s b d h
  |stack k i=>exactλc p s b d h=>i _ (c _) p s b d h
  |thread k i=>exactλc p s b d h=>i _ (c _) p s b d h
  |choose=>exactλc=>c.elim
  |os=>exactλc=>c.elim
  |call=>exactλc=>c.elim
  |newGen=>exactλc=>c.elim
  |genState=>exactλc=>c.elim
  |resume=>exactλc=>c.elim
  |yield=>exactλc=>c.elim
  |fork=>exactλc=>c.elim
  |await=>exactλc=>c.elim
 show-n t w p s s.heap (i4.refl _) h
theorem Ic{d:Type}{M:m5}{Q:d->aS->Prop}{E:cC}{t:Sem d}{s:aS}(g:f9 t)(h:aO M A t Q E s):aO M A t (λa b=>Q a b/\i4 s.heap b.Q) (λa b=>E a b/\i4 s.heap b.Q) s:=
 λf p c=>amI t g p s (h f p c)
def iU{b d:Type}{t:Sem b}{f:b->Sem d}(h:f9 t)(c:∀a,f9 (f a)):f9 (t >>=f):=by
 show f9 (t.bind f)
 induction t with
 |pure a=>show-c a
 |raise e=>show-h
 |unsupported=>show-h
 |finish=>show-h
 |register=>show-h
 |rule _ k i=>show-i () h
 |«at» _ k i=>show-i () h
 |load a _ k i=>exactλo=>i o (h o)
 |update a _ f k i=>show#[h.1,i () h.2]
 |alloc o k i=>exactλa=>i a (h a)
 |loadIfAlive a k i=>exactλa=>i a (h a)
 |point _ k i=>show-i () h
 |fresh k i=>exactλa=>i a (h a)
 |ask k i=>exactλa=>i a (h a)
 |handled _ k i=>exactλa=>i a (h a)
 |stack k i=>exactλa=>i a (h a)
 |thread k i=>exactλa=>i a (h a)
 |choose=>show-h.elim
 |os=>show-h.elim
 |call=>show-h.elim
 |newGen=>show-h.elim
 |genState=>show-h.elim
 |resume=>show-h.elim
 |yield=>show-h.elim
 |fork=>show-h.elim
 |await=>show-h.elim
def l1{b:Type}{a:b}:f9 (pure a:Sem b):=(trivial)
def t6{a:Type}:f9 (unsupported x:Sem a):=(trivial)
def vo{d:Type}{c:Prop}[Decidable c]{a b:Sem d}(f:f9 a)(g:f9 b):f9 (if c then a else b):=by split<;>assumption
def Xq:f9 (load a):=(λ_=>trivial)
def afy:f9 (fieldsOf v):=by
 unfold fieldsOf;cases v<;>first|exact t6|skip
 show-iU Xq λo=>?_;split<;>first|exact l1|show-t6
def M6{i:Nat}:f9 (va v i):=by unfold va;show-iU afy λo=>?_;split<;>first|exact l1|show-t6
def VY{i:Nat}:f9 (D7 v i x):=by
 unfold D7;cases v<;>first|exact t6|skip
 show-iU Xq λo=>?_;split
 .refine vo #[λo=>?_,trivial] t6;let#[c,d,a,b]:=o;cases a<;>rfl
 show-t6
def VR{f:Option Addr}:f9 (Ny v f):=by unfold Ny;show-iU M6 λo=>vo VY l1
def W_:f9 stack:=(λ_=>trivial)
def aza{ty:String}:f9 (newFields ty e):=by
 let b:f9 (newObjAsIs (.type ty) (.fields e.toArray)):=by unfold newObjAsIs;show-iU (λ_=>trivial) λa=>l1
 unfold newFields newObj;show-vo (c:=e.toArray.size>sizeLine+2) (iU t6 λ_=>b) b
def ahm{f:Addr}:f9 (abC f b):=by unfold abC;show-iU W_ λo=>?_;split<;>show-l1
def agu{a:Env}:f9 (atd a outer):=by unfold atd;show-vo l1 (vo l1 (iU M6 λ_=>l1))
def ajW{a:Env}:f9 (keptBack a b l):=by
 unfold keptBack;split
 .refine vo l1 (iU ?_ λ_=>l1);show-iU W_ λ_=>l1
 show-l1
theorem afn:∀l:List Env,f9 (readyFrames l)
 |[]=>trivial
 |env::outer=>by
  unfold readyFrames;split
  .exact iU Xq λo=>vo l1 (iU agu λ_=>iU ajW λ_=>iU #[λ_=>rfl,trivial] λ_=>afn outer)
  show-t6
def af7{c:Env}:f9 (ě c):=by
 unfold ě frameEnvs;show-iU (iU W_ λ_=>l1) λl=>iU ?_ λo=>?_
 .generalize List.dropWhile _ l=d;cases d with
  |nil=>show-l1
  |cons a b=>show-iU (afn _) λ_=>l1
 split<;>first|exact l1|show-t6
def YS{k:Env}:f9 (w' e k):=by
 unfold w';let g:∀(f:Addr)(d:Value),f9 (do
   let a <-ě k
   let b <-abC f (d !=fW)
   let c <-azy d a fW (mU f) fW b
   D7 e 1 c):=λf d=>iU af7 λ_=>iU ahm λ_=>iU aza λ_=>VY
 split
 .exact iU M6 λd=>vo (iU M6 λ_=>vo l1 (iU VY λ_=>g _ _)) (g _ _)
 show-t6
def ae5{a:Env}:f9 (leaving a e):=(iU YS λ_=>VR)
def En(a d:AW)(c:lX)(C:Addr)(b:String):Bool:=
 (a.mro==cM C::d.mro)&&!a.hasDel&&(match c.G with|[_,_,_,_,j3 (.builtin n),_]=>n==b|_=>q9)
def akV{K:aL}{mg:b5}{h:Heap}{B:Option Addr}{d f:AW}{D:lX}(X:K.In h)(O:Exc K mg y R bm e)(zy:K.lookup C=j3 #[.type "type",l0,.cls d,s])(x:K.lookup R=j3 #[.type "type",B,.cls f,D])(km:En d f s C e=q4):
  ∃o q N m c u sub l a A L V i j,h.get? C=j3 (Cf o q C N m c d.hasDict u sub l a l0 A L V i j e)/\BE h bm c:=by
 let#[c,Û,o,q,m,t,u,sub,l,a,dd,A,L,V,i,j,mN,p,ec,z,T]:=(O.own X).obj;let E:=X _ _ x;let P:=E.symm.trans p;let G:=gk P;let hm:f.mro=cM R::c:=by let g:(Data.cls f)=_:=fe Obj.data G;injection g with g;rw[g]
 unfold En at km;simp only[hN,r3,I3]at km;let#[#[k,r],b]:=km;split at b
 .rename_i I qg sE J n M w;let b:=r3.mp b;subst b;let#[MF,Z,H,Q,axs,tT,ax4,ax6,Y,atn,F]:=d;dsimp only at k r;rw[hm]at k;subst k r;let#[U]:=s;simp only at w;subst w;show#[6,6,6,6,6,6,6,X _ _ zy,.own p ec z T]
 cases b
section
variable{prog:cq}{w:bW}{A:ee}{E:cC}{s:aS}{K:aL}
variable{nm q:Str}{C N nh:Addr}{bs bm dv:dR}{hd:Bool}{sn:bE}{sub:dR}{ab:Bool}{col:Option Bool}{l0:Option Addr}{k0 k1 k2 k3 k5:B2}{B hg t4:String}
def ajp(F:vQ B hg t4 bm){a:dR}{Q:cC}(T:BE s.heap bm dv)(X:K.In s.Q)(c:s.heap.get? C=j3 (Cf nm q C N bs dv hd sn sub ab col l0 k0 k1 k2 k3 k5 hg))(G:c7 K (.ref C) "__init__"=j3 (j3 (.ref nh)))(x:BJ K (.ref nh)=j3 (.type "function"))(m:a.Z<=sizeLine)(y:∀L e,s.L<=e->Zk s.heap L e (.ref C) a->aO (ba prog w) (A.under (.builtin "type.__call__" #[.ref C::a,[]])) (call (.ref nh) (.ref e::a)) (λr V=>r=.none/\Q (.ref e) V) E {s with heap:=L}):
  aO (ba prog w) A (call (.ref C) a) Q E s:=by
 let#[h,g,d,t,os]:=s;let I:=tc_lookup;let J:=tc_bind (.ref C);let M:(#[h,g,d,t,os]:aS).TypeIs (.ref C) "type":=#[_,c,2]
 show-te (atm (show aO _ _ (callAny (.ref C) _) _ _ _ from ?_))
 repeat (any_goals (first|assumption|with_reducible refine k8 c ?_|wp_step))
 show#[2,codeAny_call_builtin_at (O4 _ xL) entry_typeCall (wpAny_check_type_call_sub c ?_)]
 repeat (first|with_reducible refine wpAny_madeBy_exc c ?_|with_reducible refine k8 c ?_|wp_step)
 show-codeAny_call_builtin_code (O4 _ F.quiet) (wpAny_check_new_subT F T c (codeAny_exc_new_subT F T c (show aO _ _ _ _ _ _ from ?_) m));let f:((h.push {cls:=.type "tuple",data:=.seq a.toArray}).push {cls:=.ref C,data:=.fields (List.toArray [.ref h.Y,.none,.none,.none,.bool q9,.none])}).get? (h.Y+1)=j3 {cls:=.ref C,data:=.fields (List.toArray [.ref h.Y,.none,.none,.none,.bool q9,.none])}:=by heap_get
 let mk:Zk h ((h.push {cls:=.type "tuple",data:=.seq a.toArray}).push {cls:=.ref C,data:=.fields (List.toArray [.ref h.Y,.none,.none,.none,.bool q9,.none])}) (h.Y+1) (.ref C) a:=
  #[λb o j=>dO _ (dO _ j),Zl (Fo _),h.Y,f,Zl (b7 _),dO _ (ago rfl rfl)]
 let p:=y _ _ (Fo _) mk;let k:=X.keeps mk.keeps;let l:=mk.keeps _ _ c;let n:(cM C::dv).contains (.ref C)=q4:=by simp
 show aO _ _ _ _ _ #[(h.push {cls:=.type "tuple",data:=.seq a.toArray}).push {cls:=.ref C,data:=.fields (List.toArray [.ref h.Y,.none,.none,.none,.bool q9,.none])},g,d,t,os];dsimp only;generalize(h.push {cls:=.type "tuple",data:=.seq a.toArray}).push {cls:=.ref C,data:=.fields (List.toArray [.ref h.Y,.none,.none,.none,.bool q9,.none])}=H at f mk p k l⊢;generalize h.Y=i at f mk p l⊢;unfold G6
 repeat (first|with_reducible refine k8 f ?_|(with_reducible show-Xj l ?_;rw[n])|wp_step)
 refine(uU k G).here ?_;show-nQ (ax ((ai6 k _ x).here ?_));show aO _ _ (call (.ref nh) (.ref (i+1)::a) >>=λr=>pure (j3 r)) _ _ _;show-ax (fC p (λr V u=>?_) λ_ _ z=>z);let#[2,D]:=u
 wp_walk
 show-D
def ajq(F:vQ B hg t4 bm){R:wh->aS->Prop}{e:Addr}{l:Option Addr}{k:lX}{a:dR}(T:BE s.heap bm dv)(V:s.heap.get? C=j3 (Cf nm q C N bs dv hd sn sub ab col l0 k0 k1 k2 k3 k5 hg))(f:s.heap.get? e=j3 #[.ref C,l,.fields (List.toArray [.ref t0,.none,.none,.none,.bool q9,.none]),k])(p:a.Z<=sizeLine)(L:∀c t,(∀b o,b≠e->s.heap.get? b=j3 o->c.get? b=j3 o)->c.get? e=j3 #[.ref C,l,.fields (List.toArray [.ref t,.none,.none,.none,.bool q9,.none]),k]->R (.ok (.ret .none)) {s with heap:=c}):
  pe (ba prog w) A (.call (.builtin t4) #[.ref e::a,[]]) R s:=by
 let#[h,g,d,t,os]:=s;show-B_ F.init.plain F.initEntry (wpAny_check_init_subT F T V f rfl ?_);dsimp only at f⊢
 wp_walk
 let n:(h.push {cls:=.type "tuple",data:=.seq a.toArray}).get? e=_:=dO _ f;show-L _ h.objs.size (λb o r m=>?_) ?_
 .show((h.push _).update e _).get? b=j3 o;rw[tq _ _ (e5 r)];show-dO _ m
 show((h.push _).update e _).get? e=_;rw[xT _ n rfl];rfl
def aff(T:BE h bm dv)(self:Value)(a:Str):V3 self a dv=V3 self a bm:=by
 induction T with
 |base=>rfl
 |own _ _ _ _ e=>rw[aeb,e]
def Λ{M:m5}{mA:b5}{name:Str}{ns:bE}{Q:Fin->aS->Prop}(r:s.heap.Ns1 d mA)(L:BK mA ns)(V:ns.Z<=1000)(n:∀a p,a.Ns1 d (λy=>if y=name then j3 v else mA y)->jT d s.heap a->Q (.done (.ret .none)) {s with heap:=a,toks:=p}):
  aO M A (afL d (.str name e) name v) Q E s:=by unfold afL azs;show-ax (bk (ax (wpAny_nsSet1 r λa b t=>?_)));let#[m,l,k,c,g,f]:=b.count (ę name v L);show-ax (ayR c (by rw[g];show-axj (dQ f (by rw[ej,vA];lia))) ?_);show-bk (n _ _ b t)
def amJ{name:Str}{V:lX}{Q:Unit->aS->Prop}(X:K.In s.Q)(c:StoreFacts B bm ka owner)(T:BE s.heap bm dv)(l:s.heap.get? C=j3 (Cf nm q C N bs dv hd sn sub ab col l0 k0 k1 k2 k3 k5 hg))(Y:c7 K (.ref C) "__setattr__"=j3 (j3 (.builtin ka)))(U:c7 K (.ref C) name=j3 jp)(aW:rT K (.ref C) (.type owner)=j3 q4)(a:s.heap.get? x=j3 #[.ref C,jp,.fields F,V])(H:hd=q4)(M:∀f i,f.get? x=j3 #[.ref C,j3 s.L,.fields F,V]->f.Ns1 s.heap.objs.size (λy=>if y=name then j3 v else jp)->(∀b o,b≠x->s.heap.get? b=j3 o->f.get? b=j3 o)->Q () {s with heap:=f,toks:=i}):
  aO (ba prog w) A (H7 (.ref x) name v) Q E s:=by
 let#[h,g,d,t,os]:=s;dsimp only at X T l a;let ty:tD (ba prog w) h (typeOf (.ref x)) (.ref C):=(Č a).andThen .now;let Z:tD (ba prog w) h (G6 (.ref x) (.type owner)) q4:=ty.andThen (ajg X aW);unfold H7 callSpecial? specialOf;let O:=c.slot.bind (.ref x)
 repeat (any_goals (first|assumption|with_reducible refine k8 a ?_|wp_step))
 refine(uU X Y).here (nQ (ax (IE O (ax (te (B_ c.slot.plain c.entry (ai9 c.kind c.split Z (c.args _ _ _) ?_)))))));let n:=c.passes (.ref x);let zl:V3 (.ref x) "__setattr__" dv=pure ():=(aff T _ _).trans n;unfold Builtin.«object.__setattr__»
 repeat (first|rw[refuse_eq]|(rw[aeb,zl])|with_reducible refine k8 a ?_|with_reducible refine ayT l ?_|wp_step)
 refine(uU X U).here (ax (bk ?_));show aO _ _ (OY _ _ _ _ _ _) _ _ _;unfold OY;show-ax (fC (Q:=λ_ j=>j=#[h,g,d,t+1,os]) (E:=λ_ _=>False) ?_ (λ_ _ m=>?_) (λ_ _ z=>z.elim))
 .repeat (first|with_reducible refine k8 a ?_|with_reducible refine k8 l ?_|wp_step)
  exact rfl
 subst m;let k:x≠h.Y:=e8 (dE a);let G:(h.push {cls:=.type "dict",data:=.dict #[]}).get? x=_:=dO _ a;show-ax (fC (Q:=λr j=>r=j3 h.Y/\j=#[(h.push {cls:=.type "dict",data:=.dict #[]}).update x λo=>{o with dict:=j3 h.Y},g,d,t+1,os]) (E:=λ_ _=>False) ?_ (λ_ _ m=>?_) (λ_ _ z=>z.elim))
 .show aO _ _ (G5 x q4) _ _ _;subst H;unfold G5
  repeat (first|with_reducible refine k8 a ?_|with_reducible refine k8 l ?_|wp_step)
  show#[2,2]
 let#[2,2]:=m;let p:((h.push {cls:=.type "dict",data:=.dict #[]}).update x λo=>{o with dict:=j3 h.Y}).get? x=j3 #[.ref C,j3 h.Y,.fields F,V]:=by rw[xT _ G rfl]
 let I:((h.push {cls:=.type "dict",data:=.dict #[]}).update x λo=>{o with dict:=j3 h.Y}).get? h.Y=j3 {cls:=.type "dict",data:=.dict #[]}:=
  (tq _ _ k).trans (ago rfl rfl)
 let L:((h.push {cls:=.type "dict",data:=.dict #[]}).update x λo=>{o with dict:=j3 h.Y}).Ns h.objs.size (λ_=>jp):=#[_,#[],_,I,2,λe R=>bt R xg,λ_=>rfl]
 show-Λ (mA:=λ_=>jp) (ns:=[]) (agm L) ajj x8 λf i P D=>?_;show-bk (bk (M f i ?_ P λb o J u=>?_))
 .exact(D.2 x k).trans p
 refine(D.2 b (e8 (dE u))).trans ((tq _ _ (e5 J)).trans (dO _ u))
def akW{name:Str}{e:lX}{m:b5}{L:bE}{Q:Unit->aS->Prop}(X:K.In s.Q)(a:StoreFacts B bm ka owner)(T:BE s.heap bm dv)(f:s.heap.get? C=j3 (Cf nm q C N bs dv hd sn sub ab col l0 k0 k1 k2 k3 k5 hg))(F:c7 K (.ref C) "__setattr__"=j3 (j3 (.builtin ka)))(D:c7 K (.ref C) name=j3 jp)(aW:rT K (.ref C) (.type owner)=j3 q4)(b:s.heap.get? x=j3 #[.ref C,j3 al,.fields M,e])(V:hd=q4)(p:s.heap.Ns1 al m)(G:BK m L)(H:L.Z<=1000)(i:∀c l,c.Ns1 al (λy=>if y=name then j3 v else m y)->jT al s.heap c->Q () {s with heap:=c,toks:=l}):
  aO (ba prog w) A (H7 (.ref x) name v) Q E s:=by
 let#[h,g,d,t,os]:=s;dsimp only at X T f b p;let ty:tD (ba prog w) h (typeOf (.ref x)) (.ref C):=(Č b).andThen .now;let I:tD (ba prog w) h (G6 (.ref x) (.type owner)) q4:=ty.andThen (ajg X aW);unfold H7 callSpecial? specialOf;let o:=a.slot.bind (.ref x)
 repeat (any_goals (first|assumption|with_reducible refine k8 b ?_|wp_step))
 refine(uU X F).here (nQ (ax (IE o (ax (te (B_ a.slot.plain a.entry (ai9 a.kind a.split I (a.args _ _ _) ?_)))))));let J:V3 (.ref x) "__setattr__" dv=pure ():=(aff T _ _).trans (a.passes (.ref x));unfold Builtin.«object.__setattr__»
 repeat (first|rw[refuse_eq]|(rw[aeb,J])|with_reducible refine k8 b ?_|with_reducible refine ayT f ?_|wp_step)
 refine(uU X D).here (ax (bk ?_));show aO _ _ (OY _ _ _ _ _ _) _ _ _;unfold OY;show-ax (fC (Q:=λ_ n=>n=#[h,g,d,t+1,os]) (E:=λ_ _=>False) ?_ (λ_ _ k=>?_) (λ_ _ z=>z.elim))
 .repeat (first|with_reducible refine k8 b ?_|with_reducible refine k8 f ?_|wp_step)
  exact rfl
 subst k;show-ax (fC (Q:=λr n=>r=j3 al/\n=#[h,g,d,t+1,os]) (E:=λ_ _=>False) ?_ (λ_ _ k=>?_) (λ_ _ z=>z.elim))
 .show aO _ _ (G5 x q4) _ _ _;subst V;unfold G5
  repeat (first|with_reducible refine k8 b ?_|with_reducible refine k8 f ?_|wp_step)
  show#[2,2]
 let#[2,2]:=k;show-Λ p G H λc l u j=>?_;show-bk (bk (i c l u j))
def aoc{name:Str}{l:lX}{m:b5}{Q:cC}(X:K.In s.Q)(c:nK K C)(i:c7 K (.ref C) name=j3 jp)(hd:uT K C=q4)(a:s.heap.get? x=j3 #[.ref C,j3 al,.fields G,l])(h:s.heap.Ns1 al m)(L:m name=j3 v)(e:Đ v=q4)(V:Q v {s with toks:=s.toks+1}):aO (ba prog w) A (S8 (.ref x) name b) Q E s:=by
 show-ax (wpAny_mkText ?_);show-Ĺ (s:={s with toks:=s.toks+1}) X c #[_,a,2] λJ=>B_ F.excAttr_ValueError.ga.plain F.entry_bexc_ga (YQ (s:={s with toks:=s.toks+1}) X c #[_,a,2] ?_);let n:tD (ba prog w) s.heap (typeOf (.ref x)) (.ref C):=uA.type #[_,a,2];let H:=uU (M:=ba prog w) X i;let#[I,u,D]:=ai5 hd;let f:=aje (M:=ba prog w) X u;let#[k,g,d,t,os]:=s;unfold Builtin.«object.__getattribute__»;let j:slotArgs "__getattribute__" 1 #[[.ref x,.str name t],[]]=pure (.ref x,[.str name t]):=rfl;rw[j];show-ax (bk ?_);dsimp only;let r:afI (.str name t)=pure name:=rfl;rw[r];show-ax (bk (ax (n.at (ax ?_))));unfold Yo;show-ax (H.at (ax (bk (ax (bk ?_)))));show aO _ _ (afK _ _ _ _) _ _ _;unfold afK azr azt;show-ax (ax (ax (fC (Q:=λo y=>o=#[.ref C,j3 al,.fields G,l]/\y=#[k,g,d,t+1,os]) (E:=λ_ _=>False) ?_ (λ_ _ p=>?_) (λ_ _ z=>z.elim))))
 .repeat (first|with_reducible refine k8 a ?_|wp_step)
  show#[2,2]
 let#[2,2]:=p;show aO _ _ (G5 x q9) _ _ _;unfold G5;show-ax (k8 a ?_);dsimp only;show-ax (f.at ?_);rw[D];show-bk ?_;show aO _ _ (nsGet al name) _ _ _;show-wpAny_nsGet h.ns ?_;rw[L];show aO _ _ (rule "getattr.instance-dict" >>=λ_=>pure (azo v)) _ _ _;show-ax (vJ (bk (bk ?_)));show aO _ _ (acg v) _ _ _;rw[PySem.W.handedOut_of e];show-bk V
end
def ng(e C:Addr):hP:=.ext λh=>∃t a,h.get? e=j3 #[.ref C,jp,.fields (List.toArray [.ref t,.none,.none,.none,.bool q9,.none]),a]
def nf(e C a:Addr):hP:=.ext λh=>∃t b,h.get? e=j3 #[.ref C,j3 a,.fields (List.toArray [.ref t,.none,.none,.none,.bool q9,.none]),b]
def l4(e C a:Addr):hP:=.ext λh=>∃c b,h.get? e=j3 #[.ref C,j3 a,.fields c,b]
def mX(d:Addr)(a:List (Str×V)):hP:=.ext λh=>a.Z<=100/\∃b,h.Ns1 d b/\(∀f,kz (a.lookup f) (b f))/\BK b (a.map (·.1))
section
variable{P:cq}{w:bW}{H:ag}{h:Heap}{e C al d:Addr}
theorem ň{t:Addr}{a:lX}(q:h.get? e=j3 #[.ref C,jp,.fields (List.toArray [.ref t,.none,.none,.none,.bool q9,.none]),a]):e9 P w H h e (ng e C):=
 #[#[t,a,q],#[_,q],λ_ _⟨t,a,z⟩k=>#[t,a,k _ z]]
theorem aod{t:Addr}{a:lX}(q:h.get? e=j3 #[.ref C,j3 al,.fields (List.toArray [.ref t,.none,.none,.none,.bool q9,.none]),a]):e9 P w H h e (nf e C al):=
 #[#[t,a,q],#[_,q],λ_ _⟨t,a,z⟩k=>#[t,a,k _ z]]
theorem Ŋ{a:lX}(q:h.get? e=j3 #[.ref C,j3 al,.fields i,a]):e9 P w H h e (l4 e C al):=
 #[#[i,a,q],#[_,q],λ_ _⟨t,a,z⟩k=>#[t,a,k _ z]]
def ŋ{fs:List (Str×V)}{a:b5}(z:fs.Z<=100)(n:h.Ns1 d a)(r:∀f,kz (fs.lookup f) (a f))(b:BK a (fs.map (·.1))):e9 P w H h d (mX d fs):=by
 obtain⟨o,q⟩:∃o,h.get? d=j3 o:=by let#[o,6,q,_]:=n.ns;show#[o,q]
 show#[#[z,a,n,r,b],#[o,q],λ_ _⟨z,a,n,r,b⟩k=>#[z,a,n.at k,r,b]]
end
section
variable{X:bA}{pins:dJ}{aa:aq.St}{H:ag}{s:aS}
def Inv.put2{m:Heap}{B:Nat}{d:Addr}{V:Heap->Prop}(I:Inv X pins aa H s)(L:H e=j3 (.ext V))(K:s.L<=d)(k:∀b o,b≠e->s.heap.get? b=j3 o->m.get? b=j3 o)(w:∃o,m.get? e=j3 o)(y:e9 X.prog X.w (upd (upd H d h) e i) m e i)(x:e9 X.prog X.w (upd (upd H d h) e i) m d h):Inv X pins aa (upd (upd H d h) e i) {s with heap:=m,toks:=B}:=by
 let t:H d=jp:=I.bu.fresh K;let j:∀o,s.heap.get? d≠j3 o:=λo z=>qN _ (iR (dE z) K);let p:∀b,H b=jp->b≠e:=λb n z=>by rw[z,L]at n;cases n
 let a:∀{b:Addr}{u:hP},H b=j3 u->b≠e->upd (upd H d h) e i b=j3 u:=λ{b u}q n=>by rwa[aR n,aR (dj q t)]
 let l:∀{b:Addr}{u:hP},H b=j3 u->(∀f,u≠.ext f)->b≠e:=λ{b u}q n z=>by subst z;rw[L]at q;show-n V (gk q).symm
 show-I.un #[λb o q n _ _=>k b o (p b n) q,λb o q n _ _=>#[o.slots,k b o (p b n) q],λb o q n _=>?_,λb o q _=>?_,λb C q=>a q (l q (by intro f z;cases z)),λb o u q=>a q (l q (by intro f z;cases z)),λb D q=>#[#[],by rw[a q (l q (by intro f z;cases z))];simp]] λb u q=>?_
 .rw[aR (p b n),aR (show b≠d fromλz=>j o (by rwa[<-z]))];exact n
 .by_cases g:b=e
  .subst g;show-w
  show#[o,k b o g q]
 by_cases g:b=e
 .subst g;rw[aQ]at q;cases q;show-y
 rw[aR g]at q;by_cases N:b=d
 .subst N;rw[aQ]at q;cases q;show-x
 rw[aR N]at q;refine(I.bu b u q).pO (λc v A r=>k c v ?_ r) (λc r=>a r (l r (by intro f z;cases z))) λc C r=>a r (l r (by intro f z;cases z));rcases A with rfl|A
 .exact g
 show-l A (by intro f z;cases z)
def aoe{H:ag}(h:H a=j3 o):upd H a o=H:=by
 funext b;by_cases c:b=a
 .subst c;rw[aQ,h]
 rw[aR c]
structure m'(K:aL)(mg:b5)(y:Str)(C R:Addr):Prop where
 base:Exc K mg y R [.type "ValueError",.type "Exception",.type "BaseException",.type "object"] "ValueError.__new__"
 lk:∃l0 qT rb K7 tH Nn,K.lookup C=j3 #[.type "type",l0,.cls qT,rb]/\K.lookup R=j3 #[.type "type",K7,.cls tH,Nn]/\En qT tH rb C "ValueError.__new__"=q4/\qT.hasDict=q4
 ka:c7 K (.ref C) "__setattr__"=j3 (j3 (.builtin "object.__setattr__"))
 ob:rT K (.ref C) (.type "object")=j3 q4
 rd:ė K R (.type "type")=q4
 Gg:Ď K (.ref R) (.type "type") "__init__"=j3 (.val (.builtin "ValueError.__init__"))
 z3:uV K (.ref R) "__getattribute__"=j3 (j3 (.builtin "type.__getattribute__"))
 gB:nK K C
 hd:uT K C=q4
end
def m'.obj{K:aL}{L:b5}{h:Heap}(x:m' K L y C R)(X:K.In h):
  ∃p q N d b r sub c a n f g k l m,h.get? C=j3 (Cf p q C N d b q4 r sub c a n f g k l m "ValueError.__new__")/\BE h [.type "ValueError",.type "Exception",.type "BaseException",.type "object"] b:=by let#[n,j,o,e,s,i,V,w,km,A]:=x.lk;let#[p,q,N,d,b,r,sub,c,a,f,g,k,l,m,t,T]:=akV X x.base V w km;rw[A]at t;show#[p,q,N,d,b,r,sub,c,a,n,f,g,k,l,m,t,T]
section
variable{X:bA}{o e value:Expr}{es:hy}{f y:Str}{pos pos' fP np:Pos}{ck mq:TE}{t:gb}{R:Addr}
def ax8(K:aL)(d:b5)(y:Str)(R:Addr)(t:gb):TE:=λc H Q=>t c H λg b=>∃e C a,g=.ref e::a/\b e=j3 (ng e C)/\m' K d y C R/\a.Z<=sizeLine/\Q .cf b
def XY{pl:Sem Bool}(i:jd X y)(hm:X.mg y=j3 (.ref R))(U:ė X.K R (.type "type")=q4)(w:Ď X.K (.ref R) (.type "type") "__init__"=j3 (.val (.builtin "ValueError.__init__")))(Y:uV X.K (.ref R) "__getattribute__"=j3 (j3 (.builtin "type.__getattribute__")))(A:fN X (e::es) t)(J:(y==("__debug__":Str))=q9:=by decide)(O:dM (e::es) X.env=(q9,eval e X.env)::dM es X.env:=by rfl)(d3:(hr pos (dM es X.env)).any (·.1)=q9:=by rfl)(V:eval (.Call (.Attribute (.Name y np) "__init__" fP) (e::es) [] pos) X.env=(do
   let n <-eval (.Name y np) X.env
   vC fP.atName
   let(f,first) <-tW [n] (y9 n "__init__" pl)
   yQ pos f first (hr pos (dM (e::es) X.env)) (od pos (oH [] X.env))):=by rfl):
  bq X (.Call (.Attribute (.Name y np) "__init__" fP) (e::es) [] pos) (ax8 X.K X.mg y R t):=by
 intro d s K H Q I h;show-Fz (pl:=pl) (sL I i hm ?_ J) V;show-PySem.W.method_cls I.eN Y (PySem.W.cls_value I.eN U w xL ?_);show-aiR (bL (A pos d _ K H _ (I.tok _) h) λus r k=>?_) O d3;let#[vs,l,g,B,a,C,p,D,hex,F,k,q]:=k;subst D;cases B with
 |cons M P=>
  cases M;let#[#[t0,bK,G],6]:=(show e9 X.prog X.w l r.heap a (ng a C)from g.bu a _ hex)
  let#[nm,h1,N,bs,dv,sn,sub,Z,z,l0,k0,k1,k2,k3,k5,E,T]:=F.obj g.eN;show-te (ajq yA T E G (by rwa[<-P.Z]) λh' t1 j c=>?_);let m:=g.write (t':=r.toks) (x:=a) (e:=a) (o:=ng a C) (by rw[hex];exact trivial) (.inl rfl) (λb u L q=>j b u L q) #[_,c] (ň c);rw[aoe hex]at m;show#[.cf,l,m,2,q]
def apQ(K:aL)(k:b5)(y:Str)(R:Addr)(l mq:TE)(f:Str):fo:=λD c H=>mq c H λv g=>l c g λx b=>∃e C,x=.ref e/\m' K k y C R/\c7 K (.ref C) f=j3 jp/\
 ((b e=j3 (ng e C)/\∀a,b a=jp->a≠e->D.cX c (upd (upd b a (mX a [(f,v)])) e (nf e C a)))\/
 ∃a d,b e=j3 (nf e C a)/\b a=j3 (mX a d)/\d.Z<100/\D.cX c (upd b a (mX a (lL f v d))))
def ww(M:bq X o ck)(Y:bq X value mq)(hs:xq value (j3 (.Attribute o f pos')) pos.line X.env=pure q9):f3 X (.Assign [.Attribute o f pos'] value pos) (apQ X.K X.mg y R ck mq f):=by
 intro c s p H D I h;show-axn (bL (Y c s p H _ I h) λu s1 w=>?_) hs;let#[v,G,P,i,q]:=w;show-bL (M c s1 p G _ P q) λgX A w=>?_;let#[x,L,a,Z,e,C,ex,m,E,l]:=w;subst ex;obtain rfl:gX=cM e:=Z;let#[nm,h1,N,bs,dv,sn,sub,ab,col,l0,k0,k1,k2,k3,k5,j,T]:=m.obj a.eN;rcases l with⟨r,l⟩|⟨al,fs,r,F,w,l⟩
 .let#[#[t0,U,K],6]:=(show e9 X.prog X.w L A.heap e (ng e C)from a.bu e _ r)
  refine amJ a.eN ai1 T j m.ka E m.ob K rfl λh' fY B n c4=>?_;let mS:A.L≠e:=wb (dE K);show#[p,_,Inv.put2 a r (b7 _) c4 #[_,B] (aod B) (ŋ (fs:=[(f,v)]) (show 1<=100 by decide) n (λg=>?_) ?_),l _ (a.bu.fresh (b7 _)) mS]
  .by_cases k:g=f
   .subst k;let d:(g==g)=q4:=r3.mpr rfl;simp only[v8,d,a'];show-i
   let d:(g==f)=q9:=B7.mpr k;simp only[v8,d,a4 k];exact trivial
  show-ę f u ajj
 let#[#[t0,U,K],6]:=(show e9 X.prog X.w L A.heap e (nf e C al)from a.bu e _ r)
 let#[#[Q,mA,ec,J,V],#[d_,O],_]:=(show e9 X.prog X.w L A.heap al (mX al fs)from a.bu al _ F)
 refine akW a.eN ai1 T j m.ka E m.ob K rfl ec V (by rw[aM];lia) λh' fY n c6=>?_;show#[p,_,a.write (x:=al) (e:=al) (o:=mX al (lL f v fs)) (by rw[F];exact trivial) (.inl rfl) (λb z d q=>(c6.2 b d).trans q) (by let#[cF,6,q,_]:=n.ns;show#[cF,q]) (ŋ ?_ n (λg=>?_) ?_),l]
 .have:=Wf f v fs;lia
 .rw[We];by_cases q:g=f
  .rwa[a' q,a' q]
  rw[a4 q,a4 q];show-J g
 intro g k;by_cases q:g=f
 .rw[q];exact(HP f v fs).1
 exact(HP f v fs).2 g (V g λz=>k (by show(if g=f then j3 u else mA g)=jp;rwa[a4 q]))
def Ů(K:aL)(g:TE)(f:Str):TE:=λd H Q=>g d H λx a=>∃e C b c v,x=.ref e/\a e=j3 (l4 e C b)/\a b=j3 (mX b c)/\nK K C/\c7 K (.ref C) f=j3 jp/\uT K C=q4/\c.lookup f=j3 v/\Q v a
def Pf(B:bq X e ck)(A:yK e f X.env (eval e X.env)=eval e X.env):bq X (.Attribute e f pos) (Ů X.K ck f):=by
 intro b s w H Q I h;show-À A (bL (B b s w H _ I h) λu m E=>?_);let#[x,g,c,L,a,C,d,i,v,V,r,J,j,D,z,l,q]:=E;subst V;obtain rfl:u=cM a:=L;let#[#[T,O,G],6]:=(show e9 X.prog X.w g m.heap a (l4 a C d)from c.bu a _ r)
 let#[#[K,F,N,n,M],6]:=(show e9 X.prog X.w g m.heap d (mX d i)from c.bu d _ J)
 let#[P,p,k]:=kz.NA (v:=v) (o:=F f) (by rw[<-l];show-n f);show-aoc c.eN j D z G N p (YB k) #[v,g,c.tok _,k,q]
end
section
variable{X:bA}{k:Nat}{f C R:Addr}{fd:m3}{ps:bE}{sp:fx}{y:Str}
def akX{H:ag}{s:aS}{l:aV}{Rr:Addr->Addr->ag->Prop}(U:m' X.K X.mg y C R)(Z:c7 X.K (.ref C) "__init__"=j3 (j3 (.ref f)))(G:qP X.K (.ref f)=q4)(F:aH X.prog X.w X.K X.mg X.base a9 k f fd ps sp)(B:gD (k+1) X.A)(z:Binds X.K fd ps [])(I:Inv X pins i H s)(r:cI l us)(hz:l.Z<=sizeLine)(h:∀e,H e=jp->sp (.ref e::l) (upd H e (ng e C)) (λv c=>v=.cf/\∃b,c e=j3 (nf e C b)/\Rr e b c) hO):
  aO (ba X.prog X.w) X.A (call (.ref C) us) (λu L=>∃e b c,u=.ref e/\s.heap.get? e=jp/\Inv X pins i c L/\c e=j3 (nf e C b)/\Rr e b c) X.dw s:=by
 let#[nm,h1,N,bs,dv,sn,sub,ab,O,l0,k0,k1,k2,k3,k5,Q,T]:=U.obj I.eN;show-ajp yA T I.eN Q Z (r3.mp G) (by rwa[<-r.Z]) λK e d mk=>?_;let#[t,Y,q,b']:=mk.there;let m:Inv X pins i (upd H e (ng e C)) {s with heap:=K}:=I.laid (a:=e) (o:=ng e C) (t':=s.toks) mk.keeps d (ň Y);let p:=h e (I.bu.fresh d);let w:cI (V.ref e::l) (cM e::us):=.cons rfl r;let D:(cM e::us++[]).Z=ps.Z:=by let n:=w.Z;rw[F.len _ _ _ _ p]at n;rw[lS];show-n.J
 let A:=z {s with heap:=K} (cM e::us) m.eN D;rw[lS]at A;show-te (r9 (F.run _ X.stack _ _ #[cM e::us,[]] (cM e::us) _ _ hO (B.make C us []) (m.Ga.make C us []) A w p) λoO L g=>?_);cases oO with
 |error x=>show-iu g
 |ok eQ=>
  cases eQ with
  |ret u=>
   let#[v,H',M,J,P,b,j,E]:=m.after g;subst P;show#[J,e,b,H',2,mk.new,M,j,E]
  |next=>show-iu g
  |brk=>show-iu g
  |cont=>show-iu g
end
section
variable{prog:cq}{w:bW}{A:ee}{E:cC}{s:aS}{env:Env}{K:aL}{mg:b5}{y:Str}{C R:Addr}
def amK{x:Sem Value}{Q:Flow->aS->Prop}(V:m' K mg y C R)(r:A.handled=jp)(h:aO (ba prog w) A x (λv a=>∃e c t f,v=.ref e/\K.In a.Q/\a.heap.get? e=j3 #[.ref C,j3 c,.fields (List.toArray [.ref t,.none,.none,.none,.bool q9,.none]),f]/\E (.ref e) a) E s):
  aO (ba prog w) A (aea env (j3 x) jp) Q E s:=by
 unfold aea;show-ax (fC h (λv a m=>?_) λ_ _ x=>x);let#[e,c,t,f,2,X,i,L]:=m;let#[J,z,N,u,p,M,sub,o,n,I,B,D,F,G,H,k,T]:=V.obj X;let l:(cM C::p).contains (.type "BaseException")=q4:=by rw[ahE,T.hasType (b:=q4) x8,afD]
 let#[q,g,d,j,os]:=a
 repeat (first|with_reducible refine k8 i ?_|with_reducible refine k8 k ?_|(with_reducible show-Xj k ?_;rw[l])|wp_step)
 show-wpAny_raiseNew_none r L
def ν(h:Heap)(b:Addr)(c:Option Addr):Prop:=∀a,c=j3 a->∃o,h.get? b=j3 o/\o.dict=j3 a
end
def iJ(P:cq)(w:bW):o4:=λg H s E e d=>∃(b:Addr)(a f:Value)(H':ag)(B:Heap)(c:Option Addr),e=.ref b/\kR P w g H s b a f H' B d/\ν d.heap b c/\E a c H'
def QL(h:fE P w fr H s E e i):iJ P w fr H s E e i:=by let#[c,a,b,H',B,2,T,q]:=h;show#[c,a,b,H',B,jp,2,T,(by intro d z;cases z),q]
def del(H:ag)(a:Addr):ag:=λb=>if b=a then jp else H b
def ZB:del H a a=jp:=by unfold del;rw[a' rfl]
def qk{H:ag}(h:b≠a):del H a b=H b:=by unfold del;rw[a4 h]
section
variable{P:cq}{w:bW}{K:aL}{mg:b5}{base:Heap}{N:bE}{qual:Str}{scope:Scope}{f:Addr}{cdv:Value}{A:ee}{outer:List Env}{s:aS}{H:ag}{E:bM}
abbrev jZ(P:cq)(w:bW)(K:aL)(mg:b5)(base:Heap)(N:bE)(qual:Str)(scope:Scope)(f:Addr)(cdv:Value)(A:ee)(outer:List Env)(s:aS)(H:ag)(E:bM):bA:=
 jR (iJ P w) P w K mg base N qual scope f cdv A outer s H E
def aey(I:Inv (!jZ) pins e H1 s1):Inv (!eF) pins e H1 s1:=(I.mr _)
theorem ara(h:(!eF).dw e i):(!jZ).dw e i:=
 fC h (λ_ _ q=>QL q) λ_ _ q=>QL q
def XZ:nx (fE P w) (!jZ) E:=(λa b c g e d I h=>ara (sN a b c g e d (aey I) h))
def af8{d:ag}(I:Inv (!jZ) pins aa d s1)(Z:d h=j3 (nf h C al))(j:s.heap.get? h=jp)(ef:E (.ref C) (j3 al) (del d h)):(!jZ).dw (.ref h) s1:=by
 let#[#[t,bK,sr],6]:=(show e9 P w d s1.heap h (nf h C al)from I.bu h _ Z)
 obtain⟨S,M⟩:∃S,S=fg (!jZ).stack:=#[1]
 let lA:∀g∈(!jZ).stack,∀b,g.frame=j3 b->b∈h::S:=λg he b a=>by rw[M];show-n0 _ (JJ.mpr #[g,he,a])
 let X:∀b o,d b=j3 o->b∉S:=λb o e z=>by rw[M]at z;rw[I.NC b z]at e;cases e
 let x:∀b o,s1.heap.get? b=j3 o->b≠h->b∉S->(n4 s1.heap (h::S)).get? b=j3 o:=λb o e n m=>Ki _ e λz=>by
  rcases et.mp z with z|z
  .exact n z
  show-m z
 let B:∀b o,s.heap.get? b=j3 o->b≠h:=λb o e z=>by rw[z,j]at e;cases e
 let T:∀b o,s.heap.get? b=j3 o->b∉fg outer->b∉S:=λb o e a=>by rw[M];show-zU (aey I) e a
 let p:∀{b:Addr}{u:hP},d b=j3 u->(∀l,u≠.ext l)->b≠h:=λ{b u}q n z=>by subst z;rw[Z]at q;show-n _ (gk q).symm
 let i:(n4 s1.heap (h::S)).get? h=jp:=đ _ (.head _);show-fC (Ic ae5 (wpAny_leaving_firstW (base:=n4 s1.heap (h::S)) (a0:=.ref t) (Q:=λ_ s'=>∃V,s'={s1 with heap:=V}/\Heap.LeftW (n4 s1.heap (h::S)) _ h (.ref C) (.ref t) s1.heap V) (E:=λ_ _=>False)
  I.ok.frames (aja I.stack lA) rfl sr (λb o q=>Qq _ q) i rfl rfl rfl λV R=>#[V,2,R])) (λ_ s'⟨⟨V,es,R⟩,ed⟩=>?_) λ_ _ z=>z.1.elim
 subst es;let#[k1,#[6,k2],k3,U]:=R;let G:uL (n4 s1.heap (h::S)) outer h (.ref C) (.ref t) V:=#[k1,i,k2,k3]
 show#[h,.ref C,.ref t,del d h,_,j3 al,2,#[G,I.os,I.bare,λb y e=>?_,#[λb o e n a k=>?_,λb o e n a k=>?_,λb o e n k=>?_,λb o e k=>?_,λb xs q=>?_,λb o u q=>?_,λb ps q=>?_],λb o e a=>?_],4,ef]
 .let a:b≠h:=λz=>by rw[z,ZB]at e;cases e
  rw[qk a]at e;refine(I.bu b y e).pO (λc u D q=>?_) (λc r=>by rw[qk (p r (by intro l z;cases z))];show-r) λc xs r=>by rw[qk (p r (by intro l z;cases z))];show-r
  rcases D with rfl|D
  .exact x c u q a (X c _ e)
  show-x c u q (p D (by intro l z;cases z)) (X c _ D)
 .exact G.1 b o (x b o (I.base.keep b o e n a k) (B b o e) (T b o e a))
 .let#[qB,z]:=I.base.slot b o e n a k;let#[_,y,F,O]:=I.l5.mem a;rw[z]at F;cases F;let#[D8,J]:=U b _ z O;show#[D8,J]
 .rw[qk (B b o e)];show-I.base.free b o e n k
 .let#[L,z]:=I.base.there b o e k;by_cases a:b∈fg outer
  .let#[_,y,F,O]:=I.l5.mem a;let#[qB,J]:=U b _ F O;show#[_,J]
  show#[L,G.1 b L (x b L z (B b o e) (T b o e a))]
 .let r:=I.base.hE b xs q;rw[qk (p r (by intro l z;cases z))];show-r
 .let r:=I.base.i0 b o u q;rw[qk (p r (by intro l z;cases z))];show-r
 .let#[m,r]:=I.base.jx b ps q;show#[m,by rw[qk (p r (by intro l z;cases z))];show-r]
 .let#[L,z]:=I.base.there b o e (by simp[jZ,jR]);show#[L,x b L z (B b o e) (T b o e a),λn=>?_];let Y:=I.base.keep b o e n a (by simp[jZ,jR]);rw[z]at Y;show-gk Y
 intro K_ cG;cases cG;let#[y,px,_]:=G.there;show#[y,px,ed.dict sr px]
def amL(C:Addr)(l:fx)(E:bM)(k:gb):fo:=λ_ g H=>k g H λd a=>d.Z<=sizeLine/\∀e,a e=jp->l (.ref e::d) (upd a e (ng e C)) (λv b=>v=.cf/\∃c,b e=j3 (nf e C c)/\E (.ref C) (j3 c) (del b e)) hO
def HS{k:Nat}{l:Pos}{b:Expr}{a:hy}{i:gb}(j:m' K mg y C R)(hm:mg x=j3 (.ref C))(m:mC K (.ref C)=q4)(hi:c7 K (.ref C) "__init__"=j3 (j3 (.ref B)))(Y:qP K (.ref B)=q4)(F:-aH a9 k B fd ps sp)(U:gD (k+1) (!jZ).A)(T:Binds K fd ps [])(bz:jd (!jZ) x)(O:fN (!jZ) (b::a) i)(iB:(x==("__debug__":Str))=q9:=by decide)(he:dM (b::a) (!jZ).env=(q9,eval b (!jZ).env)::dM a (!jZ).env:=by rfl)(d3:(hr l (dM a (!jZ).env)).any (·.1)=q9:=by rfl):
  f3 (!jZ) (.Raise (j3 (.Call (.Name x np) (b::a) [] l)) jp pos) (amL C sp E i):=by
 intro d s1 Q G D I h;rw[arm_exec_Raise];show-ax (IF ?_);show aO _ _ (aea _ (j3 (do
  let v <-eval (.Call (.Name x np) (b::a) [] l) (!jZ).env
  vC pos
  pure v)) jp) _ _ _
 show-amK j (I.ok.hd rfl) (ax (As (sL I bz hm ?_ iB)));show-yB (h₀:=base) I.ok.mod.sJ m (bL (O l d s1 Q G _ I h) λus s2 c=>?_) he d3;let#[vs,V,n,r,c,q]:=c;show#[n.eN,4];show-bL (akX (X:=!jZ) (Rr:=λe g V=>E (.ref C) (j3 g) (del V e)) j hi Y F U T n r c q) λu s3 c=>?_;let#[e,g,M,l3,J,p,L,ef]:=c;subst l3;let#[#[t,Z,sr],6]:=(show e9 P w M s3.heap e (nf e C g)from p.bu e _ L)
 show-ax (IF (bk #[e,g,t,Z,2,p.eN,sr,af8 p L ?_ ef]));cases xf:s.heap.get? e with
 |none=>rfl
 |some o=>
  let#[cF,z]:=n.base.there e o xf (by simp[jZ,jR]);rw[J]at z;cases z
def DK{st:Stmt}{b:bE}{k:Nat}{c:fx}(F:cp K x qual st f fd)(S:cJ N b (b_ st))(n:∀(cdv:Value)(A:ee)(outer:List Env)(s:aS)(H:ag)(a:aV)(Q:aX)(E:bM),gD k (A.deeper (qW qual (b_ st) s.heap.objs.size f cdv))->c a H Q E->
   ∃t,gm (-jZ N qual (b_ st) f cdv A outer s H E) (mK st) t/\t {cX:=λ_ H'=>Q .cf H',rt:=Q} (start N a) H)(len:∀a H Q E,c a H Q E->a.Z=b.Z:=by intro _ _ _ _ h;first|(cases h;subst_vars;rfl)|((repeat let#[_,h]:=h);subst_vars;rfl)|(cases h.1;subst_vars;rfl)):-aH (iJ P w) (k+1) f fd b c:=by let#[V,r,di,g,i,p,cdv,L,e,2,lk,l]:=F.ex;show-QB lk l S len λA outer s H a Q E d m=>n cdv A outer s H a Q E d m
end
def Q2(X:bA)(b:dJ)(m:aq.St)(E:bM)(e:Value)(g:aS):Prop:=
 ∃(d:ag)(k:aS)(c:Addr)(a l:Value)(H':ag)(B:Heap)(f:Option Addr),e=.ref c/\Inv X b m d k/\kR X.prog X.w X.stack d k c a l H' B g/\ν g.heap c f/\E a f H'
def J9(X:bA)(e:Expr)(t:tF):Prop:=
 ∀(a:dJ)(s:aS)(b:aq.St)(H:ag)(Q:aX)(E:bM),Inv X a b H s->t E b H Q->aO (ba X.prog X.w) X.A (eval e X.env) (ir X a b Q) (Q2 X a b E) s
def J_(X:bA)(st:Stmt)(t:p9):Prop:=
 ∀(a:dJ)(s:aS)(b:aq.St)(H:ag)(D:Ends)(E:aq.St->bM),Inv X a b H s->t D E b H->aO (ba X.prog X.w) X.A (exec st X.env) (uY X a D) (λe d=>∃c,Q2 X a c (E c) e d) s
section
variable{X:bA}{e o:Expr}{es:hy}{pos fP p:Pos}{k:Nat}{f C:Addr}{fd:m3}{ps:bE}{sp:fx}{ck:TE}{t:gb}{m x:Str}
def Ò(F:aH X.prog X.w X.K X.mg X.base (iJ X.prog X.w) k f fd ps sp)(n:gD k X.A)(l:Binds X.K fd ps [])(I:Inv X pins i H s)(r:cI vs us)(h:sp vs H Q E):aO (ba X.prog X.w) X.A (call (.ref f) us) (ir X pins i Q) (Q2 X pins i E) s:=by
 let w:(us++[]).Z=ps.Z:=by rw[lS,<-r.Z];show-F.len _ _ _ _ h
 let c:=l s us I.eN w;rw[lS]at c;show-te (r9 (F.run X.A X.stack s H #[us,[]] us vs Q E n I.Ga c r h) λr L a=>?_);cases r with
 |error e=>
  let#[g,b,d,H',B,A,2,T,lk,K]:=a;show#[H,s,g,b,d,H',B,A,2,I,T,lk,K]
 |ok eQ=>
  cases eQ with
  |ret u=>show-I.after a
  |next=>show-iu a
  |brk=>show-iu a
  |cont=>show-iu a
def Õ(F:aH X.prog X.w X.K X.mg X.base (iJ X.prog X.w) k f fd ps sp)(l:gD k X.A)(n:jd X x)(hm:X.mg x=j3 (.ref f))(c:mC X.K (.ref f)=q4)(g:Binds X.K fd ps [])(b:fN X.ud (e::es) t)(K:(x==("__debug__":Str))=q9:=by decide)(w:dM (e::es) X.env=(q9,eval e X.env)::dM es X.env:=by rfl)(d3:(hr pos (dM es X.env)).any (·.1)=q9:=by rfl):
  J9 X (.Call (.Name x p) (e::es) [] pos) (anZ sp t):=by intro pins s d H Q E I h;show-As (sL I n hm ?_ K);show-yB (h₀:=X.base) I.ok.mod.sJ c (HB (X:=X) (pins:=pins) (bL (b pos pins s d H _ (I.mr _) h) λV N A=>?_)) w d3;let#[i,L,a,r,q]:=A;show#[a.nM.eN,4];show-Ò F l g a.nM r q
def akY{c:tF}(n:J9 X e c)(r:xq e jp pos.line X.env=pure q9:=by rfl):J_ X (.Expr e pos) (anO c):=by intro a s b H D E I h;show-ayK (fC (n a s b H _ _ I h) (λv L w=>?_) λe K q=>#[b,q]) I.quiet r;let#[x,d,g,A,l]:=w;show#[b,d,g,l]
end
section
variable{M:m5}{A:ee}{E:cC}{s:aS}{B:Heap}{e L:Addr}{cls a0:Value}{Q:Unit->aS->Prop}{env:Env}{outer l:List Env}
theorem Ö(p:A.frames=j3 (env::outer))(g:env.frame=j3 L)(f:uL B (env::outer) e cls a0 s.Q)(k:∀c,Zj B (env::outer) e cls a0 L c->s.heap.UpToSlots c->i4 s.heap c->Q () {s with heap:=c}):aO M A (w' (.ref e) env) Q E s:=
 fC (Ic YS (aeY (Q:=λ_ d=>∃c,d={s with heap:=c}/\Zj B (env::outer) e cls a0 L c/\s.heap.UpToSlots c) (E:=λ_ _=>False) p g f λc a b=>#[c,2,a,b])) (λ_ d⟨⟨c,n,a,b⟩,m⟩=>by subst n;show-k c a b m) λ_ _ z=>z.1.elim
theorem Ø(g:Zj B l e cls a0 L s.Q)(f:∀c,uL B l e cls a0 c->s.heap.UpToSlots c->i4 s.heap c->Q () {s with heap:=c}):aO M A (Ny (.ref e) jp) Q E s:=
 fC (Ic VR (aeX (Q:=λ_ d=>∃c,d={s with heap:=c}/\uL B l e cls a0 c/\s.heap.UpToSlots c) (E:=λ_ _=>False) g λc a b=>#[c,2,a,b])) (λ_ d⟨⟨c,m,a,b⟩,k⟩=>by subst m;show-f c a b k) λ_ _ z=>z.1.elim
theorem Ù(g:uL B l e cls a0 s.Q)(f:∀c,uL B l e cls a0 c->s.heap.UpToSlots c->i4 s.heap c->Q () {s with heap:=c}):aO M A (Ny (.ref e) jp) Q E s:=
 fC (Ic VR (lands_againW (Q:=λ_ d=>∃c,d={s with heap:=c}/\uL B l e cls a0 c/\s.heap.UpToSlots c) (E:=λ_ _=>False) g λc a b=>#[c,2,a,b])) (λ_ d⟨⟨c,m,a,b⟩,k⟩=>by subst m;show-f c a b k) λ_ _ z=>z.1.elim
end
def apR(K:aL)(m:p9)(i:Nat)(R:Addr)(n:fo):fo:=λD g H=>m D (λk d l H'=>∃C f,d=.ref C/\l=j3 f/\l' K C R=q4/\∀c,H' c=jp->
 n {cX:=λb a=>D.cX (b.set i jp) a,rt:=D.rt,jk:=λb a=>D.jk (b.set i jp) a,fI:=λb a=>D.fI (b.set i jp) a} (k.set i (j3 (.ref c))) (upd H' c (l4 c C f))) g H
def Ú{X:bA}{st Q:Stmt}{Z:List Stmt}{tb:p9}{i:Nat}(N:X.stack=X.env::X.outer)(GO:X.env.frame=j3 X.env.locals)(af:J_ X st tb)(t:X.N.Nodup)(w:X.N[i]?=j3 n)(r:X.env.scope.names.lookup n=j3 .local)(bz:jd X x)(hm:X.mg x=j3 (.ref R))(de:l' X.K R R=q4)(GX:∀g,gm (sO X g) (Q::Z) ts)(iB:(x==("__debug__":Str))=q9:=by decide):f3 X (.Try [st] [.ExceptHandler (j3 (.Name x np)) (j3 n) (Q::Z) T'] [] [] pos) (apR X.K tb i R ts):=by
 intro a s aa H D I h;show-aeS (Od (fC (af a s aa H D _ I h) (λf V q=>?_) λe V q=>?_))
 .cases f with
  |next=>show-vI (vI q)
  |ret v=>show-q
  |brk=>show-q
  |cont=>show-q
 let#[Y,cg,sc,g,cls,a0,H',B,d_,2,tr,T,lk,C,K,2,2,jL,k]:=q;let#[o0,T5,zf]:=lk K rfl;let nv:X.A.frames=j3 (X.env::X.outer):=by rw[<-N];show-I.ok.frames
 let wD:=T.eQ;rw[N]at wD;show-Ö nv GO wD λb8 GL Af Wh=>Ø GL λO y Ag Wi=>?_;let wF:=y;rw[<-N]at wF;let A:=T.move wF (Af.trans Ag);let P:Inv X a Y H' {V with heap:=O}:=tr.FZ (s':={V with heap:=O}) (ch:=[]) A.os A.un A.bu A.bare (λb z=>bt z xg);let#[ob,px,GV]:=y.there;show-aeU (abo (sL (X:=sO X g) (b4.Inv.oR P g) bz hm (O' P.eN jL de px GV ?_) iB)) (by intro q;cases q);show-atl (Ù y λU wG Im Wj=>?_);let wH:=wG;rw[<-N]at wH;let lW:=A.move wH Im;let#[E,v6,M,F,J,_]:=wG.first;let G:E.dict=j3 K:=(((Wh.trans Wi).trans Wj).dict T5 M).trans zf;let Cz:U.get? g=j3 #[.ref C,j3 K,.fields v6,E.slots]:=by rw[M];let#[c,d,sb,bK]:=E;dsimp only at F J G;rw[F,J,G]
 let hD:=T.new;let rK:Inv X a Y (upd H' g (l4 g C K)) {V with heap:=U}:=kR.inv tr lW (Ŋ Cz);refine DZ (X:=sO X g) (b4.Inv.oR rK g) t w (.inl r) (v:=.ref g) rfl (λi_ lR=>?_) (.inr r);show-fC (GX g a i_ _ _ _ lR (k g hD)) (λGm ja L=>?_) λ_ _ z=>iu z;cases Gm with
 |next=>let#[j,l,m,q]:=L;show-wZ I t w r m λo p=>#[_,l,p,q]
 |brk=>let#[j,l,m,q]:=L;show-wZ I t w r m λo p=>#[_,l,p,q]
 |cont=>let#[j,l,m,q]:=L;show-wZ I t w r m λo p=>#[_,l,p,q]
 |ret u=>let#[Iq,j,l,m,zS,q]:=L;show-wZ I t w r m λo p=>#[Iq,_,l,p,zS,q]
def ZC{K:aL}{xs:aV}{g:kK}{f:fo}{D:Ends}{H:ag}(c:Nat->aq.St->ag->Prop)(w:c 0 b H)(t:∀i b H,c i b H->aI K H a xs)(N:∀i x b H p,xs[i]?=j3 x->c i b H->H p=jp->g (.ref p) b (upd H p (.tup [.int i,x])) λV k=>f {D with cX:=c (i+1),fI:=c (i+1),jk:=D.cX} V k)(L:∀b H,c xs.length b H->D.cX b H):
  xC (xW K a) g f D b H:=by
 show#[λi m b H=>m=xs.Z-i/\i<=xs.Z/\c i b H,#[xs.Z,by simp,eu _,w],4];rintro i m b H ⟨rfl,j,p⟩;let q:=t i b H p;by_cases d:i<xs.Z
 .refine .inr #[#[xs,xs[i],q,by simp[d]],c (i+1),λh H' A=>#[xs.Z-(i+1),9,2,d,A],λv H' y=>?_];let#[r,x,l,2,n,2]:=y;show-N i x b H r (n xs q) p l
 let e:i=xs.Z:=by lia
 subst e;show-.inl #[#[xs,q,b7 _],L b H p]
end b4
namespace dP
open PySem aq b4 cm
inductive YT(vs:aV)(H:ag)(Q:aX)(fq:bM):Prop where
 |mk(c:Int)(m:Nat)(_:vs=[.int c,.int m])(_:m<=12)(_:∀(p:Addr)(H':ag),H p=jp->aD H H'->H' p=j3 (.lst (c1 (vt c m)))->Q (.ref p) H')
theorem af9{c:Int}{m:Nat}(h:m<=12):Good (vt c m):=#[λx a=>by
 let#[k,1]:=bQ.mp a;show-aob c k,ahl h,by rwa[WM]]
def BO(c:Int)(k j:Nat):Int:=c/64+5*(0+(j:Int))*(0+(j:Int))+2*(0+(k:Int))*(if decide (V.int (0+(j:Int))=V.int (c/8%(1+c%8)))=q4 then 1 else 0)
def apS(c:Int)(k j:Nat):97+(BO c k j%26).toNat=jK c k j:=by
 unfold BO jK;rw[amG c];by_cases h:j=d3 c
 .subst h;rw[a' rfl,a' (cw (by rw[vY])),vY,vY]
 rw[a4 h,a4 (by rw[c9 (λz=>h (by have:=V.int.inj z;lia))];show-gZ),vY,vY]
def aew{a:Type}(f:Nat->a)(n:Nat):(dY (n+1)).map f=(dY n).map f++[f n]:=by rw[E_,eb];rfl
def ltV(a:bb)(d:cm.Lt):List aq.V:=[.str (S (a.getD d.a [])),.int d.t,.str (S (a.getD d.b []))]
inductive Ō(vs:aV)(H:ag)(Q:aX)(fq:bM):Prop where
 |mk(c b:Int)(a:Addr)(hs:bb)(_:vs=[.int c,.ref a,.int b])(_:H a=j3 (.lst (c1 hs)))(_:2<=hs.Z)(_:hs.Z<=12)(_:∀r,H r=jp->Q (.ref r) (upd H r (.tup (ltV hs (lt hs.length c b)))))
section
variable{P:cq}{w:bW}{K:aL}{mg:b5}{base:Heap}
abbrev Nb:Stmt:=top 122
def arb:cJ Bp Bp (b_ Nb):=({})
def apT{f:Addr}(F:cp K "_law_cell_at" "_law_cell_at" Nb f fd)(len:mg "len"=jp):-aH a9 1 f fd Bp (aaJ K):=by
 show-F.ok arb (λ_ A _ s H m Q E l h=>?_);let#[a,d,k,2,c,g,q]:=h;show#[_,a7 (er (fQ xD (ae 1) (dp hI len PySem.boot_len (aj (ae 0) aw)) (eK _)) (a_ (cc (cn fG (ae 0) (ae 1)))) eB) (a_ (cc a8)),4];show#[5,a,1,.inl c,3,1,4];show-arO (λh=>?_) (λh=>?_)
 .let b:=nD h;show#[5,a,_,k,1,2,c,amC g b,q]
 let b:¬k<((d.map V.int).Z:Int):=λz=>h (cw z);rw[aM]at b;let e:d.getD k.toNat 0=0:=by rw[dB,PZ qI];rfl
 rwa[e]at q
abbrev Of:Stmt:=top 123
abbrev akZ:List Str:=["_law_cell","_law_many","_law_letters","_law_size","_law_at","_law_names","_law_k","_law_name","_law_j","_law_place"]
def tZ:cJ akZ Ff (b_ Of):=({})
def ahn{f:Addr}(F:cp K "_law_houses" "_law_houses" Of f fd)(B:fc mg):-aH a9 1 f fd Ff YT:=by
 show-F.ok tZ (λ_ A _ s H C Q E x h=>?_);let#[c,m,2,hm,q]:=h;show#[_,(a7 (cE 2 tZ.aA cz)
  (a7 (cE 3 tZ.aA (br h9 a8 (br ha (ae 0) a8)))
  (a7 (cE 4 tZ.aA (br ha (br nk (ae 0) a8) (ae 3)))
  (a7 (cE 5 tZ.aA (eY aw))
  (a7 (kq kH rfl (DD rfl B.range (aj (ae 1) aw)) (dV 6 tZ.aA)
   (a7 (cE 7 tZ.aA cz)
  (a7 (kq kH rfl (DD rfl B.range (aj (ae 3) aw)) (dV 8 tZ.aA)
   (a7 (cE 9 tZ.aA (br h9 (br h9 (br nk (ae 0) a8) (br vx (br vx a8 (ae 8)) (ae 8))) (br vx (br vx a8 (ae 6)) (hS YA B.int Ew (aj (l7 nB (ae 8) (ae 4) (eK _)) aw)))))
  (a_ (cE 7 tZ.aA (br gA (ae 7) (cn ħ (ae 2) (br ha (ae 9) a8)))))))
  (a_ (gL (i3 o' p7 p8 oo (ae 5) (aj (ae 7) aw)))))))
  (a_ (cc (ae 5)))))))),4]
 ac_rfl
 let o:=Ň c;let i:=amF c;show#[1,3,(by show(0:Int)<8;decide),3,4];show#[1,3,#[8,8],1,3,(by show(0:Int)<1+c%8;lia),4];show#[eu _,λp N=>#[5,qI,qI,4]];show-Xd (lo:=0) (n:=m) (λk a t=>t=upd H p (.lst (c1 (vt c k)))/\∃g l b d,a=[j3 (.int c),j3 (.int m),j3 (.str (cU "abcdefghijklmnopqrstuvwxyz")),j3 (.int (1+c%8)),j3 (.int (c/8%(1+c%8))),j3 (.ref p),g,l,b,d]) #[2,jp,jp,jp,jp,2] ?_ ?_
 .rintro k a t u ⟨rfl,g,l,b,d,rfl⟩;show#[5,qI,qI,4];show-Xd (lo:=0) (n:=hsz c) (λj a r=>r=upd H p (.lst (c1 (vt c k)))/\∃b1 L,a=[j3 (.int c),j3 (.int m),j3 (.str (cU "abcdefghijklmnopqrstuvwxyz")),j3 (.int (1+c%8)),j3 (.int (c/8%(1+c%8))),j3 (.ref p),j3 (.int (0+(k:Int))),j3 (.str (S ((dY j).map (jK c k)))),b1,L]) #[2,b,d,2] ?_ ?_
  .rintro j a r y ⟨rfl,b1,L,rfl⟩;show#[1,3,#[8,8],1,3,.inl #[8,8],1,3,.inr #[by show -(2 ^ 64)<0+(j:Int);lia,by show 0+(j:Int)<2 ^ 64;lia],3,1,3,.inl #[8,8],5,2,.inr #[1,3,.inl #[by show -(2 ^ 64)<2*(0+(k:Int));lia,by show 2*(0+(k:Int))<2 ^ 64;lia],3,4]];let V:0<=BO c k j%26:=jA _ x8;let e:BO c k j%26<26:=k_ _ x8;let z:(⟨#[97+(BO c k j%26).toNat]⟩:Str).Z=1:=rfl;show#[5,1,3,(by show(0:Int)<26;decide),_,3,xL,akG V e,3,4,2,j3 (.int (0+(j:Int))),j3 (.int (BO c k j)),4]
   .rw[ew,aM,jg];show j+1<=sizeLine;show-n2 (el qI)
   rw[aew,<-kU,<-apS];rfl
  rintro a r ⟨rfl,b1,L,rfl⟩;show#[1,.inl #[2,_,aI.of aQ],1,p,3,aQ,el (by rw[xe,WM];lia),4,6,_,1];rw[Oi];unfold vt;rw[aew];unfold c1;rw[eb];rfl
 rintro a t ⟨rfl,g,l,b,d,rfl⟩;show#[1,q p _ N (bT N) aQ]
abbrev JS:Stmt:=top 125
abbrev ap8:List Str:=["_law_cell","_law_names","_law_base","_law_n","_law_many","_law_first","_law_last"]
def IP:cJ ap8 yp (b_ JS):=({})
def amM{f:Addr}(F:cp K "_law_letter" "_law_letter" JS f fd)(B:fc mg):-aH a9 1 f fd yp Ō:=by
 show-F.ok IP (λ_ A _ s H N Q E L h=>?_);let#[c,b,a,d,2,g,t,r,q]:=h;show#[_,(a7 (cE 3 IP.aA (br ha (br vx (ae 0) a8) a8))
  (a7 (cE 4 IP.aA (dp hI B.len g_ (aj (ae 1) aw)))
  (a7 (cE 5 IP.aA (br ha (ae 3) (ae 4)))
  (a7 (cE 6 IP.aA (br ha (br h9 (br h9 (ae 5) a8) (br ha (br nk (ae 3) (ae 4)) (br Ae (ae 4) a8))) (ae 4)))
  (a_ (cc (h_ (aj (cn fG (ae 1) (ae 5)) (aj (br h9 (ae 2) (br ha (br nk (ae 3) a8) a8)) (aj (cn fG (ae 1) (ae 6)) aw)))))))))),4]
 ac_rfl
 let n:=xe d;let b1:0<=pV d.length c:=jA _ qI;let p:pV d.length c<d.Z:=k_ _ qI;let m:0<=lend d.length c:=jA _ qI;let l:lend d.length c<d.Z:=k_ _ qI;show#[1,3,.inr #[8,8],3,(by show(0:Int)<10000000000037;decide),4];show#[1,a,1,.inl (aI.of g),4];rw[n];show#[5,3,(by show(0:Int)<(d.Z:Int);lia),4];show#[1,3,5,3,#[by show(0:Int)<(d.Z:Int);lia,by show(d.Z:Int)<1073741824;lia],1,3,3,(by show(0:Int)<(d.Z:Int)-1;lia),3,1,3,(by show(0:Int)<(d.Z:Int);lia),4];show#[5,a,_,3,aI.of g,Jl (k:=pV d.length c) b1 p,5,3,#[8,8],3,(by show(0:Int)<31;decide),3,5,a,_,3,aI.of g,Jl (k:=lend d.length c) m l,sz_,q]
abbrev Am:Stmt:=top 15
abbrev Eb:Stmt:=top 16
abbrev An:Stmt:=top 17
abbrev zW:Stmt:=top 19
abbrev JT:Stmt:=top 51
abbrev JU:Stmt:=top 52
abbrev JV:Stmt:=top 53
abbrev JW:Stmt:=top 54
def Ü:cJ iQ iQ (b_ Am):=({})
def ak0{f:Addr}(F:cp K "is_whole" "is_whole" Am f fd)(B:fc mg)(KT:ι K):-aH a9 1 f fd iQ Ο:=by
 show-F.ok Ü (λ_ A _ s H b Q E a h=>?_);let#[i,2,q]:=h;show#[_,(a_ (cc (jn (dp sG B.isinstance jj (aj (ae 0) (aj (q_ xo B.int Ew) aw))) (oF (ġ (dp sG B.isinstance jj (aj (ae 0) (aj (q_ xo B.bool Ξ) aw)))))))),4]
 ac_rfl
 show#[1,6,6,1,#[2,.int _,IL _ _],1,jr ?_];show#[1,6,6,1,#[2,.int _,KT.UD],1,q]
def ZD:cJ uP uP (b_ Eb):=({})
def ajr{f:Addr}(F:cp K "is_whole_within" "is_whole_within" Eb f fd)(k:bU K mg "is_whole" Am iQ j e)(l:-aH a9 1 j e iQ Ο):-aH a9 2 f fd uP Zf:=by
 show-F.ok ZD (λ_ A _ s H m Q E g h=>?_);let#[i,a,b,2,c,d,q]:=h;show#[_,(a_ (cc (jn (c2 l k g.mono b9 (aj (ae 0) aw)) (oF (N2 qu qu (ae 1) (ae 0) (ae 2)))))),4]
 ac_rfl
 show#[5,1,jr ?_];show#[5,3,1,d1 (cw c) #[1,3,xF (cw d) q]]
def Ý:cJ rR rR (b_ An):=({})
def ak1{f:Addr}(F:cp K "is_tuple_of" "is_tuple_of" An f fd)(B:fc mg):-aH a9 1 f fd rR Ρ:=by
 show-F.ok Ý (λ_ A _ s H d Q E c h=>?_);let#[r,g,n,2,a,b,q]:=h;show#[_,(a_ (cc (jn (dp sG B.isinstance jj (aj (ae 0) (aj (q_ xo B.tuple DV) aw))) (oF (l7 nB (dp hI B.len g_ (aj (ae 0) aw)) (ae 1) (eK _)))))),4]
 ac_rfl
 show#[1,6,6,1,#[2,.tup a,IL _ _],1,jr ?_];show#[1,r,1,.inr (cj.of a),1,2,xF (cw (fe V.int b)) q]
def ZE:cJ rS rS (b_ zW):=({})
def ajs{f:Addr}(F:cp K "are_unlike_houses" "are_unlike_houses" zW f fd):-aH a9 1 f fd rS (Zg K):=by
 show-F.ok ZE (λ_ A _ s H m Q E l h=>?_);let#[a,c,x,y,2,b,d,g,k,q]:=h;show#[_,(a_ (cc (jn (l7 N0 (ae 1) (ae 0) xo) (jn (l7 N0 (ae 2) (ae 0) xo) (oF (l7 AF (ae 1) (ae 2) (eK _))))))),4]
 ac_rfl
 show#[5,a,1,.inl b,2,HQ c,1,d1 (Ou d) ?_];show#[5,a,1,.inl b,2,HQ c,1,d1 (Ou g) ?_];show#[5,2,xF ?_ q];rw[c9 (λz=>k (V.str.inj z))];rfl
def aof:cJ iQ iQ (b_ JT):=({})
def amg{f:Addr}(F:cp K "is_name" "is_name" JT f fd)(B:fc mg)(u:FE mg):-aH a9 1 f fd iQ Į:=by
 show-F.ok aof (λ_ A _ s H T Q E G h=>?_);let#[l,2,a,q]:=h;show#[_,(a7 (er (mB.pt (AJ (j2 (kp (dp sG B.isinstance jj (aj (ae 0) (aj (q_ xo B.str mO) aw))))) (Ac (j2 (DQ qu qu a8 (dp V1 B.len g_ (aj (ae 0) aw)) (w4 xo u.aik)))))) (a_ (cc i2)) eB)
  (a_ (cc (dp (DR rfl) B.B5 Et (aj (mc (N':=["sign"]) (cs:=[jp]) rfl (Ķ (ae 0)) rfl xL rfl xL (ia (λp e=>bt e (dU))) rfl
   (.own .nil)
   (λC O y I M=>#[(dV 0 (by show(["sign"]:bE).Nodup;decide+kernel)),jm,(N2 N1 N1 cz (ae 0) cz)])) aw))))),4]
 ac_rfl
 let V:=ew l;let o:(S l).Z<=sizeLine:=n2 (el (by rw[V];have:=a.2.1;lia));let b:(1:Int)<=((S l).Z:Int):=by have:=a.1;lia
 let g:((S l).Z:Int)<=8:=by have:=a.2.1;lia
 show#[1,6,6,1,#[2,.str _,IL _ _],1,iN ?_];show#[5,o,3,1,d1 (cw b) #[3,1,AQ g ?_]];dsimp only[uk,uy,JN,pP,kT];refine zV (J:=EX (S l)) (H1:=H) (xs:=signs (S l)) (rest:=[]) (λR h=>#[5,h]) rfl (ĵ _) (el ?_) (λ_=>.bo q4) (λi x L R c z j=>?_) (λD H' b N m=>?_)
 .rw[Iv,aM];have:=a.2.1
  lia
 .rw[Iv]at c;let#[k,t,2]:=bQ.mp (dm c);let d:=a.2.2 k t;let r:(!decide ((S [k]).cps.G<(cU "a").cps.G))=q4:=by rw[axM];exact(Je k 97).trans (cw d.1)
  let n:(!decide ((cU "z").cps.G<(S [k]).cps.G))=q4:=by rw[axQ];exact(Je 122 k).trans (cw d.2)
  show#[1,3,1,d1 r #[3,xF n (j L (aD.refl _))]]
 show#[D,h5 (signs (S l)).length q4,2,aI.of (by rw[N,XW]),xF (XX _) (q H' m)]
def aog:cJ ["things"] ["things"] (b_ JU):=({})
def amh{f:Addr}(F:cp K "are_houses" "are_houses" JU f fd)(B:fc mg)(z:FE mg)(r:bU K mg "is_name" JT iQ j e)(L:-aH a9 1 j e iQ Į):
  -aH a9 2 f fd ["things"] į:=by
 show-F.ok aog (λ_ A _ s H vs Q E V h=>?_);let#[a,b,2,c,g,q]:=h;show#[_,(a7 (er (mB.pt (AJ (j2 (kp (dp sG B.isinstance jj (aj (ae 0) (aj (q_ xo B.list xd) aw))))) (Ac (fQ AY (dp hI B.len g_ (aj (ae 0) aw)) (w4 xo z.aif) (eK _))))) (a_ (cc i2)) eB)
  (a_ (cc (jn (dp (DR rfl) B.B5 Et (aj (mc (N':=iQ) (cs:=[jp]) rfl (h7 (ae 0)) rfl xL rfl xL (ia (λp d=>bt d (dU))) rfl
   (.own .nil)
   (λC Z I X Y=>#[(dV 0 (by show(iQ:bE).Nodup;decide+kernel)),jm,(c2 L r V.mono b9 (aj (ae 0) aw))])) aw)) (oF (l7 nB (dp afw B.len g_ (aj (hS (akI rfl) B.axU anU (aj (ae 0) aw)) aw)) (dp hI B.len g_ (aj (ae 0) aw)) (eK _))))))),4]
 ac_rfl
 let o:=xe b;let U:=g.bX;show#[1,6,6,1,#[2,.lst c,IL _ _],1,iN ?_];show#[1,a,1,.inl (aI.of c),3,1,eM (c9 qI) ?_];dsimp only[uk,uy,JN,pP,kT];refine zV (J:=kE K a) (H1:=H) (xs:=c1 b) (rest:=[]) (λR h=>#[1,a,2,#[_,aI.of c],h]) rfl (pB (aI.of c)) (el qI) (λ_=>.bo q4) (λi x O R y M u=>?_) (λD H' T N k=>?_)
 .let#[l,t,2]:=bQ.mp (dm y);show#[1,l,2,g.nm l t,λH' G=>u H' G]
 show#[D,h5 (c1 b).length q4,2,aI.of (by rw[N,XW]),1,d1 (XX _) ?_];let n:=k _ _ c;show#[1,a,b.map S,2,aI.of (by rw[n,O8]),(by rw[aM];lia),λp d=>?_];let m:aD H' (upd H' p (Kp P w p (qG (λi=>(b.map S).getD i n7) (b.map S).Z))):=bT d;show#[p,1,aQ,1,a,1,.inl (aI.of (m _ _ n)),2,xF (cw ?_) (q _ (k.trans m))];rw[Zb _ _ (amD g.aA),aM,o]
def aoh:cJ qL qL (b_ JV):=({})
def ami{f:Addr}(F:cp K "is_road" "is_road" JV f fd)(l:FE mg)(N:bU K mg "is_tuple_of" An rR f1 e)(o:-aH a9 1 f1 e rR Ρ)(L:bU K mg "are_unlike_houses" zW rS f2 i)(u:-aH a9 1 f2 i rS (Zg K))(m:bU K mg "is_whole_within" Eb uP cV j)(g:-aH a9 2 cV j uP Zf):
  -aH a9 3 f fd qL (ļ K):=by
 show-F.ok aoh (λ_ A _ s H x Q E c h=>?_);let#[a,r,k,d,2,t,p,ok,b,q]:=h;show#[_,(a_ (cc (jn (c2 o N c.mono b9 (aj (ae 1) (aj a8 aw))) (jn (c2 u L c.mono b9 (aj (ae 0) (aj (cn ey (ae 1) a8) (aj (cn ey (ae 1) a8) aw)))) (jn (c2 g m c.mono b9 (aj (cn ey (ae 1) a8) (aj a8 (aj (w4 xo l.aim) aw)))) (oF (c2 g m c.mono b9 (aj (cn ey (ae 1) a8) (aj a8 (aj (w4 xo l.aij) aw)))))))))),4]
 ac_rfl
 let n:aI K H a ((k.map S).map V.str):=by rwa[<-O8]
 show#[1,r,_,1,b,7,jr ?_];show#[5,r,_,3,cj.of b,7,r,_,3,cj.of b,2,a,k.map S,_,1,n,vz ok.a,vz ok.b,apO p ok.a ok.b ok.ne,1,jr ?_];show#[1,r,_,3,cj.of b,2,6,1,ok.t.1,ok.t.2,1,jr ?_];show#[1,r,_,3,cj.of b,2,6,1,ok.m.1,ok.m.2,q]
def aoA:cJ Br Br (b_ JW):=({})
def amj{f:Addr}(F:cp K "are_roads" "are_roads" JW f fd)(B:fc mg)(M:FE mg)(l:bU K mg "is_road" JV qL j e)(m:-aH a9 3 j e qL (ļ K)):
  -aH a9 4 f fd Br (Ľ K):=by
 show-F.ok aoA (λ_ A _ s H vs Q E o h=>?_);let#[a,b,I,rs,ds,2,L,t,c,z,Y,q]:=h;show#[_,(a7 (er (mB.pt (AJ (j2 (kp (dp sG B.isinstance jj (aj (ae 1) (aj (q_ xo B.list xd) aw))))) (Ac (fQ AY (dp hI B.len g_ (aj (ae 1) aw)) (w4 xo M.aii) (eK _))))) (a_ (cc i2)) eB)
  (a_ (cc (dp (DR rfl) B.B5 Et (aj (mc (N':=["thing","houses"]) (cs:=[jp,j3 0]) rfl (h7 (ae 1)) rfl xL rfl xL (ia (gK.mpr #[2,(λp u=>bt u (dU))])) rfl
   (.own (.mF rfl (.inl rfl) (.inl rfl) rfl .nil))
   (λC s3 T Z da=>#[(dV 0 (by show(["thing","houses"]:bE).Nodup;decide+kernel)),jm,(c2 m l o.mono b9 (aj (ae 1) (aj (ae 0) aw)))])) aw))))),4]
 ac_rfl
 let X:=eW rs;show#[1,6,6,1,#[2,.lst c,IL _ _],1,iN ?_];show#[1,b,1,.inl (aI.of c),3,1,eM (c9 qI) ?_];dsimp only[uk,uy,JN,pP,kT];refine zV (J:=kE K b) (H1:=H) (xs:=aT rs) (rest:=[j3 (.ref a)]) (λR h=>#[1,b,2,#[_,aI.of c],h]) rfl (pB (aI.of c)) (el qI) (λ_=>.bo q4) (λi x N R g k O=>?_) (λD H' U V n=>?_)
 .unfold aT at g;rw[cR]at g;let#[r,y,2]:=e6.mp g;let#[d,_,ok,G]:=z.get y;show#[5,a,r,I,d,2,k.seq L,t,ok,k _ _ G,O N (aD.refl _)]
 show#[D,h5 (aT rs).length q4,2,aI.of (by rw[V,XW]),xF (XX _) (q H' n)]
abbrev AH:Stmt:=ij (top 57) 0
abbrev w5:Stmt:=ij (top 57) 1
abbrev zX:Stmt:=ij (top 57) 2
def aoB:cJ qM qM (b_ AH):=({})
def amk{f:Addr}(F:cp K "__init__" "Net.__init__" AH f fd)(B:fc mg)(n:uB K C)(Z:bU K mg "are_houses" JU ["things"] z u)(V2:-aH a9 2 z u ["things"] į)(Y:bU K mg "are_roads" JW Br D y)(WN:-aH a9 4 D y Br (Ľ K)):
  -aH a9 5 f fd qM (IM K C):=by
 show-F.ok aoB (λ_ A _ s H vs Q E R h=>?_);let#[x,i,a,b,r,rs,ds,2,j,N,X,l,de,bX,q]:=h;show#[_,(a7 (er (j2 (kp (c2 V2 Z R.mono b9 (aj (ae 1) aw)))) (a_ zN) eB)
  (a7 (er (j2 (kp (c2 WN Y R.mono b9 (aj (ae 1) (aj (ae 2) aw))))) (a_ zN) eB)
  (a7 (oG (ae 0) (hS CJ B.list xd (aj (ae 1) aw)) rfl)
  (a_ (oG (ae 0) (hS CJ B.list xd (aj (ae 2) aw)) rfl))))),4]
 ac_rfl
 show#[1,a,r,2,N,X,λH1 t=>#[1,iN ?_]];show#[5,a,b,r,rs,ds,2,aI.of (t _ _ N),X.aA,t _ _ l,de.same t,bX,λV s2=>#[1,iN ?_]];let k:=t.trans s2;show#[1,a,1,.inl (aI.of (k _ _ N)),λg O=>?_];let s3:aD V (upd V g (.lst (c1 r))):=bT O;let p:=k.trans s3;let M:x≠g:=dj (k _ _ j) O;show#[1,x,C,i,1,p _ _ j,n.cl,n.Hz,x8,4];let I:b≠x:=λe=>by rw[e,j]at l;cases l
 let G:upd (upd V g (.lst (c1 r))) x (.ins C i (lL "kept_houses" (.ref g) [])) b=j3 (.lst (aT rs)):=by rw[aR I];show-p _ _ l
 show#[1,b,1,.inl (aI.of G),λm d=>?_];let L:m≠x:=λe=>by rw[e,aQ]at d;cases d
 let U:m≠g:=λe=>by rw[e,aR M.J,aQ]at d;cases d
 show#[1,x,C,i,1,(by rw[aR L.J,aQ]),n.cl,n.hh,(by show 1<1000;decide),4];show-q _ g m (λc o J T=>?_) (by rw[aQ];rfl) ?_ ?_ ?_ ?_
 .rw[aR J];have:c≠m:=λe=>by rw[<-e,aR J,p _ _ T]at d;cases d
  rw[aR this,aR J];show-p _ _ T
 .rw[aR M.J,aR U.J,aR M.J,aQ]
 .rw[aR L,aQ]
 .exact k.free O
 rw[aR L,aR U]at d;show-k.free d
def ajt:cJ gx gx (b_ w5):=({})
def ak2:cJ gx gx (b_ zX):=({})
def aho{f:Addr}(F:cp K "houses" "Net.houses" w5 f fd)(B:fc mg)(a:uB K C):-aH a9 1 f fd gx (zB C):=by
 show-F.ok ajt (λ_ A _ s H l Q E g h=>?_);let#[x,d,k,m,p,2,n,q]:=h;let#[b,c]:=n.ins;show#[_,(a_ (cc (hS CJ B.list xd (aj (eX (ae 0)) aw)))),4]
 ac_rfl
 show#[1,x,C,b,_,1,c,a.cl,a.Hz,2,d,1,.inl (aI.of n.GW),q]
def aju{f:Addr}(F:cp K "roads" "Net.roads" zX f fd)(B:fc mg)(a:uB K C):-aH a9 1 f fd gx (DW C):=by
 show-F.ok ak2 (λ_ A _ s H l Q E g h=>?_);let#[x,k,d,m,p,2,n,q]:=h;let#[b,c]:=n.ins;show#[_,(a_ (cc (hS CJ B.list xd (aj (eX (ae 0)) aw)))),4]
 ac_rfl
 show#[1,x,C,b,_,1,c,a.cl,a.hh,2,d,1,.inl (aI.of n.sZ),q]
end
def JY:nx (iJ P w) X hO:=(λ_ _ _ _ _ _ _ h=>by let#[6,6,6,6,_,h]:=h;show-h.elim)
def aml{wi:eV}{K:TE}{a:aq.St}{k:ag}{Q:aX}{J:fF}{c:aV}(M:∀R:fF->ag->Prop,R J k->wi h H R)(E:hX cs h=jp::a)(O:p' J k c)(B:c.Z<sizeLine)(f:aq.V->List aq.V)(L:∀(i:Nat)(x:aq.V)(g:ag)(R:aX),c[i]?=j3 x->aD k g->(∀r l,aD g l->l r=j3 (.tup (f x))->R (.ref r) l)->K (j3 x::a) g R)(N:∀(D:Addr)(H':ag)(rs:bS),k D=jp->H' D=j3 (.lst (aT rs))->eG H' rs (c.map f)->aD k H'->Q (.ref D) H'):kD wi cs (hW 0) pR K h H Q:=by
 show-M _ λD bR=>?_;show#[λi m V j H'=>m=c.Z-i/\i<=c.Z/\(∃rs,V=aT rs/\eG H' rs ((c.take i).map f))/\(∃o,j=o::a)/\aD k H'/\H' D=j3 (.lst V),#[c.Z,by simp,eu _,#[[],2,.nil],#[jp,E],λb o e=>?_,aQ],4]
 .rwa[aR (dj e bR)]
 rintro i m V j H' ⟨rfl,G,⟨rs,rfl,t⟩,⟨o,rfl⟩,n,w⟩;let#[C,I,P]:=O H' n;let T:=t.len;rw[aM,jh,Bz G]at T;show#[w,p6 (by rw[eW];lia) B,4];by_cases A:i<c.Z
 .refine .inr #[I i A,λx g y=>?_];let#[2,q]:=P i x g A y;let s:c.take (i+1)=c.take i++[x]:=by rw[p5,q];rfl
  show K (j3 x::a) g _;show-L i x g _ q n λr l p u=>#[p _ _ w,c.Z-(i+1),9,2,A,#[rs++[r],tY rs r,4],#[1],λb U e=>?_,aQ]
  .rw[s,eb];show-eG.upd (Paired.snoc (F:=λr d=>l r=j3 (.tup d)) u (t.same p)) (p _ _ w) (by intro d z;cases z)
  rw[aR (dj e bR)];show-p _ _ (n _ _ e)
 let e:i=c.Z:=by lia
 subst e;rw[n1]at t;show-.inl #[C,N D H' rs bR w t n]
theorem ZF{K:aL}{wi:eV}{l:TE}{rest:aq.St}{Hs:ag}{Q:aX}{xs:aV}(V:∀R:fF->ag->Prop,(∀p,Hs p=jp->R (kE K p) (upd Hs p (.lst xs)))->wi e H R)(N:hX cs e=jp::rest)(w:xs.Z<sizeLine)(f:aq.V->List aq.V)(c:∀(i:Nat)(x:aq.V)(a:ag)(R:aX),xs[i]?=j3 x->aD Hs a->(∀r b,aD a b->b r=j3 (.tup (f x))->R (.ref r) b)->l (j3 x::rest) a R)(d:∀(D:Addr)(H':ag)(rs:bS),H' D=j3 (.lst (aT rs))->eG H' rs (xs.map f)->aD Hs H'->Q (.ref D) H'):kD wi cs (hW 0) pR l e H Q:=
 V _ λp g=>aml (wi:=λ_ _ R=>R (kE K p) (upd Hs p (.lst xs))) (H:=Hs) (λR h=>h) N (pB (aI.of aQ)) w f (λi x a R L n k=>c i x a R L ((bT g).trans n) k) λD H' rs _ t m A=>d D H' rs t m ((bT g).trans A)
def amm(x y:Str):ki (.str x) (.str y)=decide (x=y):=by
 by_cases h:x=y
 .subst h;rw[cw rfl];simp[ki]
 rw[c9 h];simp[ki,h]
def amn{a:bb}{k:Nat}(h:k<a.Z):inD (.str (S (a.getD k []))) (bR a)=q4:=by
 unfold inD bR;rw[tw];let hm:a.getD k []∈a:=by rw[dB,cQ h];show-nZ h
 show#[_,bQ.mpr #[_,bQ.mpr #[_,hm,2],2],by rw[amm];exact cw rfl]
def One(H:ag)(l:Addr)(d:aV):Prop:=∃t,H l=j3 (.lst [.ref t])/\H t=j3 (.tup d)
def One.same(o:One H l d)(s:aD H H'):One H' l d:=(let⟨t,a,b⟩:=o;#[t,s _ _ a,s _ _ b])
def One.upd{H:ag}(o:One H l d)(bR:H D=j3 (.lst xs))(n:l≠D):One (aq.upd H D (.lst e)) l d:=by let#[t,a,b]:=o;show#[t,by rwa[aR n],by rw[aR (gP b bR (by intro z;cases z))];show-b]
theorem afg{c d:Type}{F G:c->d->Prop}:∀{l:List c}{m:List d},bV F l m->(∀a∈l,∀b,F a b->G a b)->bV G l m
 |_,_,.nil,_=>.nil
 |_,_,.cons r t,h=>.cons (h _ (.head _) _ r) (afg t λa f b=>h a (.tail _ f) b)
def aAr{U:eV}{C:TE}{c:aq.St}{p:ag}{Q:aX}{J:fF}{n:aV}(hw:∀R:fF->ag->Prop,R J p->U P H R)(fX:hX cs P=jp::c)(jc:p' J p n)(au:n.Z<sizeLine)(f:Nat->List aq.V)(E:∀(i:Nat)(x:aq.V)(A:ag)(R:aX),n[i]?=j3 x->aD p A->(∀l j,A l=jp->aD A j->One j l (f i)->R (.ref l) j)->C (j3 x::c) A R)(G:∀(D:Addr)(H':ag)(g:bS),p D=jp->H' D=j3 (.lst (aT g))->bV (One H') g ((dY n.Z).map f)->g.Nodup->(∀l∈g,p l=jp/\l≠D)->aD p H'->Q (.ref D) H'):kD U cs (hW 0) pR C P H Q:=by
 show-hw _ λD bR=>?_;show#[λi m M T H'=>m=n.Z-i/\i<=n.Z/\(∃g,M=aT g/\bV (One H') g ((dY i).map f)/\g.Nodup/\∀l∈g,p l=jp/\l≠D)/\(∃o,T=o::c)/\aD p H'/\H' D=j3 (.lst M),#[n.Z,by simp,eu _,#[[],2,.nil,p4,λl h=>bt h dU],#[jp,by rw[fX]],λb o e=>?_,aQ],4]
 .rwa[aR (dj e bR)]
 rintro i m M T H' ⟨rfl,hi,⟨g,rfl,s,O,I⟩,⟨o,rfl⟩,N,K⟩;let#[ea,hu,k7]:=jc H' N;let ln:=lU s;rw[aM,jg]at ln;show#[K,p6 (by rw[eW];lia) au,4];by_cases B:i<n.Z
 .refine .inr #[hu i B,λx A y=>?_];let#[2,ex]:=k7 i x A B y;show C (j3 x::c) A _;show-E i x A _ ex N λl j L q Z=>#[q _ _ K,n.Z-(i+1),9,2,B,#[g++[l],tY g l,4,4,4],#[1],λb ob e=>?_,aQ]
  .rw[E_,eb];let u:l≠D:=λz=>by rw[z,K]at L;cases L
   show-Paired.snoc (F:=One (aq.upd j D _)) (Z.upd (q _ _ K) u) (afg s λa w b r=>(r.same q).upd (q _ _ K) (I a w).2)
  .rw[JK];show#[O,kG.mpr #[dU,p4],λa w b Y e=>?_];rw[e4.mp Y]at e;let#[k,X,d7]:=yb w;let#[d,_,t,V,_]:=bV.get s (i:=k) (x:=a) (by rw[cQ X,d7]);rw[e,L]at V;cases V
  .intro a w;rcases gU.mp w with w|w
   .exact I a w
   rw[e4.mp w];show#[4,λz=>by rw[z,K]at L;cases L];cases e:p l with
   |none=>rfl
   |some o=>rw[N _ _ e]at L;cases L
  rw[aR (dj e bR)];show-q _ _ (N _ _ e)
 let e:i=n.Z:=by lia
 subst e;show-.inl #[ea,G D H' g bR K s O I N]
def vu{A:eV}{k:TE}{rest:aq.St}{H1:ag}{Q:aX}{J:fF}{xs:aV}(q:∀R:fF->ag->Prop,R J H1->A h H R)(V:hX cs h=jp::rest)(s:p' J H1 xs)(K:xs.Z<sizeLine)(f:Nat->aq.V)(l:∀(i:Nat)(x:aq.V)(a:ag)(R:aX),xs[i]?=j3 x->aD H1 a->(∀g,aD a g->R (f i) g)->k (j3 x::rest) a R)(p:∀(D:Addr)(H':ag),H1 D=jp->H' D=j3 (.lst ((dY xs.Z).map f))->aD H1 H'->Q (.ref D) H'):kD A cs (hW 0) pR k h H Q:=by
 show-q _ λD bR=>?_;show#[λi m r t H'=>m=xs.Z-i/\i<=xs.Z/\r=(dY i).map f/\(∃o,t=o::rest)/\aD H1 H'/\H' D=j3 (.lst r),#[xs.Z,by simp,eu _,2,#[jp,by rw[V]],λb o e=>?_,aQ],4]
 .rwa[aR (dj e bR)]
 rintro i m r t H' ⟨rfl,z,rfl,⟨o,rfl⟩,c,n⟩;let#[L,j,u]:=s H' c;show#[n,p6 (by rw[aM,jg];lia) K,4];by_cases d:i<xs.Z
 .refine .inr #[j i d,λx a y=>?_];let#[2,N]:=u i x a d y;show k (j3 x::rest) a _;show-l i x a _ N c λg w=>#[w _ _ n,xs.Z-(i+1),9,2,d,4,#[1],λb B e=>?_,aQ]
  .rw[E_,eb];rfl
  rw[aR (dj e bR)];show-w _ _ (c _ _ e)
 let e:i=xs.Z:=by lia
 subst e;show-.inl #[L,p D H' bR n c]
end dP
namespace b4
open PySem PySem.Spec PyProof.Rows aq
def oQ{c:Type}(a:List c)(lo b:Option Int)(st:Int):List c:=
 (sliceRange (ug lo b (j3 st) a.Z).1 (ug lo b (j3 st) a.Z).2.1 (ug lo b (j3 st) a.Z).2.2).filterMap (a[·]?)
theorem Xt{a:aV}{c:dR}(h:cI a c):∀b:List Nat,cI (b.filterMap (a[·]?)) (b.filterMap (c[·]?))
 |[]=>.nil
 |i::r=>by
  cases e:a[i]? with
  |none=>
   rw[ahL e,ahL (h.none_of e)];show-Xt h r
  |some x=>
   let#[u,d,en]:=h.get e;rw[ahM e,ahM d];show-.cons en (Xt h r)
def YU{c d:Type}(f:c->d)(b:List c)(lo a:Option Int)(st:Int):oQ (b.map f) lo a st=(oQ b lo a st).map f:=by unfold oQ;rw[aM,List.map_filterMap];congr 1;funext i;show-cR
def YV{m:Type}(a:List m)(lo b:Nat):(oQ a (j3 (lo:Int)) (j3 (b:Int)) 2).Z<=(b-lo+1)/2:=by
 unfold oQ;show-dQ (List.length_filterMap_le _ _) ?_;unfold sliceRange;rw[aM,jg];let d:∀k:Nat,max 0 (min (k:Int) a.Z)=((min k a.Z:Nat):Int):=λk=>by rw[eD.R6,agx (agw.mpr #[PB _,PB _])]
 let c:∀k:Nat,¬((k:Int)<0):=λk=>ZJ.mpr (PB k);let g:(ug (j3 (lo:Int)) (j3 (b:Int)) (j3 2) a.Z).1=((min lo a.Z:Nat):Int):=by rw[<-d];simp[ug,c]
 let f:(ug (j3 (lo:Int)) (j3 (b:Int)) (j3 2) a.Z).2.1=((min b a.Z:Nat):Int):=by rw[<-d];simp[ug,c]
 let l:(ug (j3 (lo:Int)) (j3 (b:Int)) (j3 2) a.Z).2.2=2:=rfl;rw[g,f,l];rw[a' x8];let k:min b a.Z<=min lo a.Z+(b-lo):=by
  rcases aiy lo a.Z with h|h
  .rw[Bz h];show-dQ (Î _ _) qI
  rw[Í h];show-dQ (BA _ _) (Qa _ _)
 generalize min b a.Z=u at k⊢;generalize min lo a.Z=v at k⊢;generalize b-lo=z at k⊢;clear g f l c d;split<;>lia
theorem PM{K:aL}(h:cj K H1 a xs)(k:∀H',aD H1 H'->cj K H' a xs):p' (xY K a) H1 xs:=λH' b=>
 #[#[xs,k H' b,b7 _],λi c=>#[xs,xs[i],k H' b,by simp[c]],λi x d _ y=>#[y.1,y.2 xs (k H' b)]]
section
variable{X:bA}{e:Expr}{bO:TE}{pos dI:Pos}{lo hi:Option Expr}{dv oS:f6}
def arc(K:aL)(bO:TE)(dv oS:f6)(m:TE):TE:=λb H Q=>bO b H λx f=>dv b f λl n=>oS b n λu g=>m b g λk c=>∃a d i,x=.ref a/\k=.int i/\i≠0/\aI K c a d/\
 ∀p,c p=jp->Q (.ref p) (upd c p (.lst (oQ d l u i)))
def YW{st:Expr}(he:bq X e bO)(M:BF X lo dv)(Y:BF X hi oS)(D:bq X st E):bq X (.Subscript e (.Slice lo hi (j3 st) dI) pos) (arc X.K bO dv oS E):=by
 intro c s m H Q I h;show-Qy (bL (he c s m H _ I h) λv s1 g=>?_);let#[x,j,F,Z,P]:=g;show-wpAny_Slice (bL (M c s1 m j _ F P) λK s2 g=>?_);let#[l,G,O,w,T]:=g;show-bL (Y c s2 m G _ O T) λL s3 g=>?_;let#[u,C,U,pu,j_]:=g;rw[evalPart_some];show-bL (D c s3 m C _ U j_) λcx d g=>?_;let#[k,dx,k',zR,y]:=g;let#[a,N,i,2,2,p,J,q]:=y;cases Z;let#[t,2]:=zR;let A:Inv X c m dx {d with heap:=d.heap.push {cls:=.type "slice",data:=.fields (List.toArray [K,L,.int i t])}}:=k'.kept (t':=d.toks) λb ob q=>dO _ q;let#[f,r,pl,g]:=A.list J;let n:=r.Z;let R:aO (ba X.prog X.w) X.A (wJ (.ref a) (.ref d.L)) (ir X c m Q) X.dw {d with heap:=d.heap.push {cls:=.type "slice",data:=.fields (List.toArray [K,L,.int i t])}}:=by
  show-ayM pl.isList (agl ..) w pu (.int i t) (by intro z;show-p (gk z)) ?_ (by rw[f']<;>lia);let V:Wn f.toArray l u (j3 i)=(oQ f l u i).toArray:=by unfold Wn oQ;rw[f'];simp only[List.getElem?_toArray]
  let rs:cI (oQ N l u i) (oQ f l u i):=by unfold oQ;rw[n];show-Xt r _
  let B:(oQ N l u i).Z<=sizeLine:=by
   have:=slicePick_size_le f.toArray l u (j3 i);rw[V,f',f']at this;rw[rs.Z]
   lia
  rw[V];show#[.ref _,_,A.laid (t':=d.toks) (o:=.lst (oQ N l u i)) (λb ob q=>dO _ q) (b7 _) ?_,2,q _ (A.bu.fresh (b7 _))];show#[B,_,0,rs,gJ _ rfl]
 show aO (ba X.prog X.w) X.A (WA e (.Slice lo hi (j3 st) dI) (.ref a) (.ref d.L)) (ir X c m Q) X.dw {d with heap:=d.heap.push {cls:=.type "slice",data:=.fields (List.toArray [K,L,.int i t])}};show-tail_any (ops:=[.ref a,.ref d.L]) pl.isList.typeIs ael.lookup R (by with_unfolding_all rfl)
theorem MZ(a:gz):∀j,M1 (λi=>a.getD i 0) j=(a.take j).sum
 |0=>rfl
 |j+1=>by
  show M1 _ j+a.getD j 0=_;rw[MZ a j,p5,ah2];congr 1;rw[dB];cases a[j]? with
  |none=>rfl
  |some x=>show x=x+0;lia
def aoC:iW "sum"=j3 (.builtin "sum"):=by left
def ů:iW "min"=j3 (.builtin "min"):=by left
def ap9:iW "max"=j3 (.builtin "max"):=by left
def akT(F:X.calm=q4):ks X (.builtin "sum") (λD H Q=>∃(p:Addr)(c:gz),D=[.ref p]/\aI X.K H p (c.map V.int)/\(∀x∈c,0<=x)/\c.sum<2 ^ 63/\Q (.int c.sum) H):=by
 intro C s aa H D us Q I r h;let#[p,c,2,G,A,hm,q]:=h;let#[u,2,en]:=vals1 r;cases en;let#[d,y,pl,hz]:=I.list G;let f:c.Z=d.Z:=by have:=y.Z;rwa [aM]at this
 let#[o,n,B,_]:=id pl;let T:p≠s.L:=e8 (dE B);let M:X.A.in1.handled=jp:=I.ok.hd F;let g:∀(l:gz),(∀x∈l,0<=x)->0<=l.sum:=λl=>by
  induction l with
  |nil=>intro _;show-rL _
  |cons a r E=>
   intro h;rw[mx];have:=h a (.head _);have:=E λx m=>h x (.tail _ m)
   lia
 let ip:∀j,0<=(c.take j).sum/\(c.take j).sum<=c.sum:=λj=>by
  let e:c.sum=(c.take j).sum+(c.drop j).sum:=by rw[<-ah2,Ζ]
  have:=g (c.take j) λx m=>A x (uO m);have:=g (c.drop j) λx m=>A x (E9 m)
  lia
 show-call_sum_walk (Ej pl.isList ?_);show#[s.L,[s.L,p],[s.L],d.toArray.size,6,λi=>c.getD i 0,2,Ko M _ p T d.toArray,#[#[_,gJ _ rfl,2,2],pl.isList.push _],4,4,4,λh' Z t' k=>?_]
 .intro b t;let O:p<s.L:=dE B;let eC:(s.heap.push ({cls:=.type "list_iterator",data:=.fields (List.toArray [cM p,mU 0])}:Obj)).objs.size=s.L+1:=by simp[Heap.push]
  simp only[et,dU,or_false]at t;let R:b<s.L+1:=by
   rcases t with h|h<;>rw[h]
   .exact yw _
   show-wa O
  show-Nat.lt_of_lt_of_eq R ?_;simp[Heap.push]
 .intro i v P;let K:d[i]?=j3 v:=by simpa using P
  let hi:i<d.Z:=(fU.mp K).1;let t:(c.map V.int)[i]?=j3 (V.int (c.getD i 0)):=by rw[cR,cQ (by lia:i<c.Z)];simp[dB,f▸hi]
  let#[u',N,J]:=y.get t;rw[K]at N;cases N;show-J
 .intro j w;rw[f',<-f]at w;let t1:=ip j;let dT:=ip (j+1);let Y:=MZ c j;let L:=MZ c (j+1);let b2:M1 (λi=>c.getD i 0) (j+1)=M1 (λi=>c.getD i 0) j+c.getD j 0:=rfl;let ai:0<=c.getD j 0:=by rw[dB,cQ w];show-A _ (nZ w)
  show#[#[4,4],4,4]
  .show -(2 ^ 63)<=c.getD j 0
   lia
  .show c.getD j 0<2 ^ 63
   lia
  .rw[L]
   lia
  rw[L]
  lia
 let e:M1 (λi=>c.getD i 0) d.toArray.size=c.sum:=by rw[MZ,f',<-f,n1]
 rw[e];show#[.int c.sum,H,I.kept λb U z=>k b U (by simpa using e8 (dE z)) (dO _ z),#[1],q]
end
end b4
namespace dP
open PySem aq b4 cm
def kV{a:Type}{l:List a}{i:Nat}{x d:a}(e:l[i]?=j3 x):l.getD i d=x:=by rw[dB,e];rfl
def range_getD{b d:Type}(g:b->d)(e1:b)(a:List b):((dY a.Z).map λi=>g (a.getD i e1))=a.map g:=by
 apply x_
 .simp
 intro i c f;simp only[aM,jg]at c;simp[dB,c]
structure Step where
 left:Int
 ath:Option Int
 gC:Str
 due:Int
abbrev dF:= List (List Step)
def atg:Option Int->aq.V
 |none=>.cf
 |some i=>.int i
def H_(s:Step):List aq.V:=[.int s.left,atg s.ath,.str s.gC,.int s.due]
def Jo(n g st:Addr):List (Str×aq.V):=[("net",.ref n),("goals",.ref g),("steps",.ref st)]
def hU(H:ag)(l:Addr)(b:List Step):Prop:=∃a,H l=j3 (.lst (aT a))/\eG H a (b.map H_)
structure WalkAt(C:Addr)(H:ag)(x n g st:Addr)(ay:bE)(ls:bS)(sss:dF):Prop where
 ins:∃al,H x=j3 (.ins C al (Jo n g st))
 goals:H g=j3 (.lst (ay.map V.str))
 steps:H st=j3 (.lst (aT ls))
 each:bV (hU H) ls sss
structure rf(K:aL)(C:Addr):Prop where
 cl:fw K C
 nn:c7 K (.ref C) "net"=j3 jp
 pI:c7 K (.ref C) "goals"=j3 jp
 ns:c7 K (.ref C) "steps"=j3 jp
inductive Ļ(C:Addr)(vs:aV)(H:ag)(Q:aX)(fq:bM):Prop where
 |mk(x n g st:Addr)(ay:bE)(ls:bS)(sss:dF)(k:Nat)(y:Str)(_:vs=[.ref x,.int k])(_:WalkAt C H x n g st ay ls sss)(_:ay[k]?=j3 y)(_:Q (.str y) H)
inductive Ov(C:Addr)(vs:aV)(H:ag)(Q:aX)(fq:bM):Prop where
 |mk(x n g st:Addr)(ay:bE)(ls:bS)(sss:dF)(k:Nat)(ss:List Step)(s:Step)(_:vs=[.ref x,.int k])(_:WalkAt C H x n g st ay ls sss)(_:sss[k]?=j3 (ss++[s]))(_:Q (.str s.gC) H)
inductive Iw(C:Addr)(vs:aV)(H:ag)(Q:aX)(fq:bM):Prop where
 |mk(x n g st:Addr)(ay:bE)(ls:bS)(sss:dF)(k:Nat)(ss:List Step)(s:Step)(_:vs=[.ref x,.int k])(_:WalkAt C H x n g st ay ls sss)(_:sss[k]?=j3 (ss++[s]))(_:Q (.int s.due) H)
def Do{a:aV}:aq.hp (a++[v]) (-1)=j3 v:=by
 unfold aq.hp aq.t5;rw[c0,a4 x8,a' (by show -((a.Z+1:Nat):Int)<=-1;lia)];show(a++[v])[((-1:Int)+((a.Z+1:Nat):Int)).toNat]?=_;let e:((-1:Int)+((a.Z+1:Nat):Int)).toNat=a.Z:=by lia
 rw[e];simp
section
variable{P:cq}{w:bW}{K:aL}{mg:b5}{base:Heap}
abbrev Eo:Stmt:=ij (top 34) 4
def amo:cJ eA eA (b_ Eo):=({})
def Þ{H:ag}{st:Addr}{f:bS}{c:dF}{k:Nat}{b:List Step}{s:Step}(W:WalkAt C H x n g st o f c)(e:c[k]?=j3 (b++[s])):
  ∃l a t,f[k]?=j3 l/\H l=j3 (.lst (aT (a++[t])))/\H t=j3 (.tup (H_ s)):=by
 let q:=lU W.each;let#[j,_]:=fU.mp e;obtain⟨l,A⟩:∃l,f[k]?=j3 l:=#[_,cQ qI]
 let#[i,r,a,N,p]:=bV.get W.each A;rw[e]at r;cases r;let lt:=p.len;rw[aM,c0]at lt;simp only[ej,kf]at lt;obtain⟨t,m⟩:∃t,a[b.Z]?=j3 t:=#[_,cQ qI]
 let#[d,cG,V]:=bV.get p m;rw[eb,τ (by rw[aM];lia),aM,aiE]at cG;cases cG;show#[l,a.take b.Z,t,A,4,V];let L:a=a.take b.Z++[t]:=by
  let this:=(Ζ b.length a).symm;let h:a.drop b.Z=[t]:=by rw[PV (by lia:b.Z<a.Z)];rw[cQ (by lia:b.Z<a.Z)]at m;cases m;rw[List.drop_eq_nil_of_le qI]
  rwa[h]at this
 rwa[<-L]
def UV{f:Addr}(F:cp K "last_house" "Walk.last_house" Eo f fd)(a:rf K C):-aH a9 1 f fd eA (Ov C):=by
 show-F.ok amo (λ_ A _ s H y Q E e h=>?_);let#[x,n,g,st,i,j,N,k,u,o,2,W,r,q]:=h;let#[c,d]:=W.ins;let#[l,V,t,L,m,p]:=Þ W r;show#[_,(a_ (cc (cn ey (cn fG (cn fG (eX (ae 0)) (ae 1)) (AK Aa a8)) a8))),4]
 ac_rfl
 let b:aq.hp (aT (V++[t])) (-1)=j3 (.ref t):=by unfold aT;rw[eb];show-Do
 show#[1,x,C,c,_,1,d,a.cl,a.ns,7,st,_,3,aI.of W.steps,jG (by unfold aT;rw[cR,L];rfl),1,l,_,3,aI.of m,b,t,_,3,cj.of p,2,q]
abbrev Ao:Stmt:=ij (top 34) 5
def amq:cJ eA eA (b_ Ao):=({})
def akU{f:Addr}(F:cp K "last_turn" "Walk.last_turn" Ao f fd)(a:rf K C):-aH a9 1 f fd eA (Iw C):=by
 show-F.ok amq (λ_ A _ s H y Q E e h=>?_);let#[x,n,g,st,i,j,N,k,u,o,2,W,r,q]:=h;let#[c,d]:=W.ins;let#[l,V,t,L,m,p]:=Þ W r;show#[_,(a_ (cc (cn ey (cn fG (cn fG (eX (ae 0)) (ae 1)) (AK Aa a8)) a8))),4]
 ac_rfl
 let b:aq.hp (aT (V++[t])) (-1)=j3 (.ref t):=by unfold aT;rw[eb];show-Do
 show#[1,x,C,c,_,1,d,a.cl,a.ns,7,st,_,3,aI.of W.steps,jG (by unfold aT;rw[cR,L];rfl),1,l,_,3,aI.of m,b,t,_,3,cj.of p,2,q]
def um(s:Step)(g:Str):aq.V:=if s.gC=g then .int s.due else .cf
inductive Ow(C:Addr)(vs:aV)(H:ag)(Q:aX)(fq:bM):Prop where
 |mk(x n g st:Addr)(ay:bE)(ls:bS)(sss:dF)(k:Nat)(ss:List Step)(s:Step)(y:Str)(_:vs=[.ref x,.int k])(_:WalkAt C H x n g st ay ls sss)(_:sss[k]?=j3 (ss++[s]))(_:ay[k]?=j3 y)(_:Q (um s y) H)
abbrev Ep:Stmt:=ij (top 34) 6
def amr:cJ eA eA (b_ Ep):=({})
def akR{f:Addr}(F:cp K "home_turn" "Walk.home_turn" Ep f fd)(p:rf K C)(j:dn K C "last_house" "Walk.last_house" Eo eA f1 z)(u:-aH a9 1 f1 z eA (Ov C))(e:dn K C "last_turn" "Walk.last_turn" Ao eA f2 B)(G:-aH a9 1 f2 B eA (Iw C)):-aH a9 2 f fd eA (Ow C):=by
 let N:=p.cl;show-F.ok amr (λ_ A _ s H I Q E t h=>?_);let#[x,n,g,st,m,i,a,k,o,r,y,2,W,L,D,q]:=h;let#[c,l]:=W.ins;show#[_,(a7 (er (fQ AF (gp (ae 0) N j.eO u t.mono j.bd .nil b9 (aj (ae 1) aw)) (cn fG (eX (ae 0)) (ae 1)) (eK _)) (a_ (cc iZ)) eB)
  (a_ (cc (gp (ae 0) N e.eO G t.mono e.bd .nil b9 (aj (ae 1) aw))))),4]
 ac_rfl
 let d:aq.hp (m.map V.str) (k:Int)=j3 (.str y):=jG (by rw[cR,D];rfl);show#[1,x,c,1,l,7,x,n,g,st,m,i,a,k,o,r,2,W,L,4];show#[1,x,C,c,_,1,l,p.cl,p.pI,7,g,_,3,aI.of W.goals,d,7,4];unfold um at q;by_cases b:r.gC=y
 .rw[a' b]at q;show-eM (by rw[b];simp) #[1,x,c,1,l,7,x,n,g,st,m,i,a,k,o,r,2,W,L,q]
 rw[a4 b]at q;show-d1 (by simp[b]) q
def q'(d:u0):List aq.V:=[.str d.1,.int d.2.1,.str d.2.2]
def kS(d:u0):List Step:=[#[d.2.1,jp,d.1,d.2.1]]
inductive QH(C:Addr)(vs:aV)(H:ag)(Q:aX)(fq:bM):Prop where
 |mk(x al n e':Addr)(rs:bS)(ds:kl)(_:vs=[.ref x,.ref n,.ref e'])(_:H x=j3 (.ins C al []))(_:H e'=j3 (.lst (aT rs)))(_:eG H rs (ds.map q'))(_:rs.Z<=100)(_:∀(H':ag)(g st:Addr)(iD:bS),SameBut x H H'->WalkAt C H' x n g st (ds.map λd=>d.2.2) iD (ds.map kS)->H g=jp->H st=jp->iD.Nodup->(∀l∈iD,H l=jp/\l≠st/\l≠g)->g≠st->Q .cf H')
abbrev FF:Stmt:=ij (top 34) 0
inductive ĺ(C:Addr)(vs:aV)(H:ag)(Q:aX)(fq:bM):Prop where
 |mk(x al n g st r:Addr)(ay:bE)(ls:bS)(d:u0)(_:vs=[.ref x,.ref r])(_:H x=j3 (.ins C al (Jo n g st)))(_:H g=j3 (.lst (ay.map V.str)))(_:H st=j3 (.lst (aT ls)))(_:g≠st)(_:H r=j3 (.tup (q' d)))(_:ay.Z<=100)(_:ls.Z<=100)(_:∀(H':ag)(l t:Addr),(∀b o,b≠g->b≠st->H b=j3 o->H' b=j3 o)->H' g=j3 (.lst ((ay++[d.2.2]).map V.str))->H' st=j3 (.lst (aT (ls++[l])))->H l=jp->H t=jp->H' l=j3 (.lst [.ref t])->H' t=j3 (.tup (H_ ⟨d.2.1,jp,d.1,d.2.1⟩))->Q .cf H')
abbrev JZ:Stmt:=ij (top 34) 1
def aoD:cJ Bs Bs (b_ JZ):=({})
def ams{f:Addr}(F:cp K "take_in" "Walk.take_in" JZ f fd)(u:rf K C):-aH a9 1 f fd Bs (ĺ C):=by
 show-F.ok aoD (λ_ A _ s H vs Q E ao h=>?_);let#[x,J,n,g,st,r,k,ls,d,2,i,j,D,c,y,T,eQ,q]:=h;show#[_,(a7 (gL (i3 o' p7 p8 oo (eX (ae 0)) (aj (cn ey (ae 1) a8) aw)))
  (a_ (gL (i3 o' p7 p8 oo (eX (ae 0)) (aj (eY (aj (h_ (aj (cn ey (ae 1) a8) (aj iZ (aj (cn ey (ae 1) a8) (aj (cn ey (ae 1) a8) aw))))) aw)) aw))))),4]
 ac_rfl
 let zH:x≠g:=aq.gP i j (by intro z;cases z);let Dv:x≠st:=aq.gP i D (by intro z;cases z);let B:r≠g:=aq.gP y j (by intro z;cases z);let X:r≠st:=aq.gP y D (by intro z;cases z);show#[1,x,C,J,_,1,i,u.cl,u.pI,2,.inl #[2,_,aI.of j],1,r,_,3,cj.of y,2,g,3,j,el (by rw[aM];lia),4];let O:upd H g (.lst (k.map V.str++[V.str d.2.2])) x=_:=(aR zH).trans i;let L:upd H g (.lst (k.map V.str++[V.str d.2.2])) st=_:=(aR c.J).trans D;let G:upd H g (.lst (k.map V.str++[V.str d.2.2])) r=_:=(aR B).trans y;show#[1,x,C,J,_,1,O,u.cl,u.ns,2,.inl #[2,_,aI.of L],4];show#[1,r,_,3,cj.of G,7,r,_,3,cj.of G,7,r,_,3,cj.of G,2,sz_,λt a=>#[sz_,λl m=>?_]];let N:∀{b},upd H g (.lst (k.map V.str++[V.str d.2.2])) b=jp->H b=jp/\b≠g:=λ{b}e=>by
  let M:b≠g:=λz=>by rw[z,aQ]at e;cases e
  rw[aR M]at e;show#[e,M]
 let I:l≠t:=λz=>by rw[z,aQ]at m;cases m
 let p:=m;rw[aR I]at p;let jq:=(bT (o:=.lst [.ref t]) m) _ _ ((bT (o:=.tup (H_ #[d.2.1,jp,d.1,d.2.1])) a) _ _ L);let pJ:t≠st:=λz=>by rw[z,L]at a;cases a
 let R:l≠st:=λz=>by rw[z,L]at p;cases p
 show#[st,3,jq,el (by rw[eW];lia),4];show-q _ l t (λb o Y Z e=>?_) ?_ ?_ (N p).1 (N a).1 ?_ ?_
 .let U:upd H g (.lst (k.map V.str++[V.str d.2.2])) b=j3 o:=by rwa[aR Y]
  rw[aR Z];exact(bT m) _ _ ((bT a) _ _ U)
 .rw[aR c,aR (N p).2.symm,aR (N a).2.symm,aQ,eb];rfl
 .rw[aQ,tY]
 .rw[aR R,aQ]
 rw[aR pJ,aR I.J,aQ];rfl
def Ű:cJ ["self","net","letters","letter"] yk (b_ FF):=({})
inductive ard(C:Addr)(H:ag)(x al n g st e':Addr)(ds:kl)(j:Nat)(aa:aq.St)(cY:ag):Prop where
 |mk(hk:ji)(iD:bS)(_:aa=[j3 (.ref x),j3 (.ref n),j3 (.ref e'),hk])(_:∀b o,b≠x->H b=j3 o->cY b=j3 o)(_:cY x=j3 (.ins C al (Jo n g st)))(_:cY g=j3 (.lst (((ds.take j).map λd=>d.2.2).map V.str)))(_:cY st=j3 (.lst (aT iD)))(_:bV (hU cY) iD ((ds.take j).map kS))(_:iD.Nodup)(_:∀l∈iD,H l=jp/\l≠st/\l≠g)
def aoE{f:Addr}(F:cp K "__init__" "Walk.__init__" FF f fd)(m:rf K C)(y':dn K C "take_in" "Walk.take_in" JZ Bs f1 cW)(azb:-aH a9 1 f1 cW Bs (ĺ C)):-aH a9 2 f fd yk (QH C):=by
 let h8:=m.cl;show-F.ok Ű (λ_ A _ s H vs Q E ao h=>?_);let#[x,k,n,e',rs,ds,2,ar,U,cN,bX,q]:=h;show#[_,(a7 (oG (ae 0) (ae 1) rfl)
  (a7 (oG (ae 0) (eY aw) rfl)
  (a7 (oG (ae 0) (eY aw) rfl)
  (a_ (kq kH rfl (h7 (ae 2)) (dV 3 Ű.aA)
   (a_ (gL (gp (ae 0) h8 y'.eO azb ao.mono y'.bd .nil b9 (aj (ae 3) aw))))))))),4]
 ac_rfl
 show#[5,x,C,k,1,ar,m.cl,m.nn,(by show 0<1000;decide),4];let Y:e'≠x:=aq.gP U ar (by intro z;cases z);show#[sz_,λg pI=>?_];let X:g≠x:=λz=>by rw[z,aQ]at pI;cases pI
 let I:=pI;rw[aR X]at I;show#[1,x,C,k,1,(by rw[aR X.J,aQ]),m.cl,m.pI,(by show 1<1000;decide),sz_,λst c=>?_];let J:st≠x:=λz=>by rw[z,aQ]at c;cases c
 rw[aR J]at c;let Z:st≠g:=λz=>by rw[z,aQ]at c;cases c
 rw[aR Z,aR J]at c;show#[1,x,C,k,1,(by rw[aR J.J,aQ]),m.cl,m.ns,(by show 2<1000;decide),4];show#[1,e',2,#[_,aI.of (xs:=aT rs) ?_],4]
 .rwa[aR Y,aR (dj U c),aR Y,aR (dj U I),aR Y]
 let t9:=eW rs;let awg:rs.Z=ds.Z:=by have:=lU cN;rwa[aM]at this
 refine q6 (K:=K) (a:=e') (xs:=aT rs) (ard C H x k n g st e' ds)
  #[jp,[],2,λb o L e=>?_,aQ,4,4,.nil,p4,λl O=>bt O dU] (λj aa B _⟨_,_,_,h,_,_,_,_,_,_⟩=>aI.of (h _ _ Y U)) ?_ ?_
 .rwa[aR L,aR (dj e c),aR L,aR (dj e I),aR L]
 .rw[aR X,aR Z.J,aR X,aQ];rfl
 .rw[aR J,aQ];rfl
 .rintro j z aa B fy ⟨hk,iD,rfl,R,u,N,V,D,aA,fr⟩;unfold aT at fy;rw[cR]at fy;let#[r,dH,2]:=e6.mp fy;let#[y,dt,cd]:=bV.get cN dH;rw[cR]at dt;let#[d,cG,2]:=e6.mp dt;let aDT:=(fU.mp cG).1;let hf:=lU D;rw[aM,jh]at hf;let aP:ds.take (j+1)=ds.take j++[d]:=by rw[p5,cG];rfl
  show#[1,x,k,1,u,7,x,k,n,g,st,r,_,iD,d,2,u,N,V,Z.J,R _ _ (aq.gP cd ar (by intro z;cases z)) cd,(by rw[aM,jh];lia),qI,4];intro H' l t c6 avb zo G fl TR avO;let awN:∀{o},B l=j3 o->False:=λ{o}e=>by rw[G]at e;cases e
  let T:∀{b},B b=jp->H b=jp:=λ{b}e=>by
   by_cases M:b=x
   .rw[M,u]at e;cases e
   cases aC:H b with
   |none=>rfl
   |some o=>rw[R _ _ M aC]at e;cases e
  show#[_,iD++[l],2,λb o L e=>?_,c6 _ _ X.symm J.symm u,4,zo,4,4,4]
  .exact c6 _ _ (λz=>by rw[z,I]at e;cases e) (λz=>by rw[z,c]at e;cases e) (R _ _ L e)
  .rw[avb,aP];simp only[eb,e7,Bl]
  .rw[aP,eb];show-Paired.snoc #[[t],TR,.cons avO .nil] ?_;let go:∀{ms:bS}{z':dF},bV (hU B) ms z'->(∀l∈ms,l≠st/\l≠g)->bV (hU H') ms z':=λ{ms z'}p=>by
    induction p with
    |nil=>exactλ_=>.nil
    |cons r t a3=>
     refineλh=>.cons ?_ (a3 λl O=>h l (.tail _ O))
     let#[ts,ai,ak]:=r;show#[ts,c6 _ _ (h _ (.head _)).2 (h _ (.head _)).1 ai,bV.kv ak λa b e=>c6 _ _ (aq.gP e N (by intro z;cases z)) (aq.gP e V (by intro z;cases z)) e]
   show-go D λl O=>(fr l O).2
  .rw[JK];show#[aA,kG.mpr #[dU,p4],λa aB b M=>?_];rw[e4]at M;subst M;rintro rfl;let#[i,hi,e]:=yb aB;let#[6,ts,ai,_]:=bV.get D (fU.mpr #[hi,e]);show-awN ai
  intro eC ig;rw[gU,e4]at ig;rcases ig with h|rfl
  .exact fr _ h
  show#[T G,λz=>(by rw[z]at G;rw[G]at V;cases V),λz=>(by rw[z]at G;rw[G]at N;cases N)]
 rintro aa B ⟨hk,iD,rfl,R,u,N,V,D,aA,fr⟩;rw[t9,awg,n1]at N D;show-q B g st iD (λb o L e=>R b o L e) #[#[k,u],N,V,D] I c aA fr Z.J
abbrev Ap:Stmt:=ij (top 57) 3
def Æ:cJ eA eA (b_ Ap):=({})
def akS{f:Addr}(F:cp K "road" "Net.road" Ap f fd)(B:fc mg)(c:uB K C)(t:vQ i e o bm)(r:Exc K mg "NoRoad" R bm e):
  -aH (fE P w) 1 f fd eA (Ι C R):=by
 show-ra F Æ (λ_ A _ s H u Q E V h=>?_);let#[x,j,m,y,N,k,2,n,q,p]:=h;let#[g,l]:=n.ins;show#[_,(a7 (er (j2 (DQ qu xD a8 (ae 1) (dp hI B.len g_ (aj (eX (ae 0)) aw)))) (a_ (DT t r rfl (aj cz aw))) eB)
  (a_ (cc (cn fG (eX (ae 0)) (ae 1))))),4]
 ac_rfl
 show#[1,3,1,4];by_cases b:0<=k
 .refine d1 (cw b) #[1,x,C,g,_,1,l,c.cl,c.hh,2,m,1,.inl (aI.of n.sZ),3,1,4];by_cases a:k<N.Z
  .let#[v,L,d]:=q #[b,a];show-AQ a ?_;show#[1,x,C,g,_,1,l,c.cl,c.hh,7,m,_,3,aI.of n.sZ,L,d]
  show-d1 (by rw[c9 a];rfl) ?_;show#[by show 1<=sizeLine;decide,p λz=>a z.2]
 show-eM (c9 b) #[1,4];show-jr #[by show 1<=sizeLine;decide,p λz=>b z.1]
end
end dP
namespace b4
open PySem PySem.Spec PyProof.Rows aq PySem.W
def iF{b:Type}(lt:jW):KasT b->b
 |.ret a=>a
 |.ask i j k=>iF lt (k (lt i j))
def mQ{c:Type}(n:Nat)(P:c->Prop):KasT c->Prop
 |.ret a=>P a
 |.ask i j k=>i<n/\j<n/\∀b,mQ n P (k b)
theorem Ec{c g:Type}{n:Nat}{P:c->Prop}{R:g->Prop}{f:c->KasT g}(d:∀a,P a->mQ n R (f a)):∀t:KasT c,mQ n P t->mQ n R (t.bind f)
 |.ret a,h=>d a h
 |.ask i j k,h=>#[h.1,h.2.1,λb=>Ec d (k b) (h.2.2 b)]
def s8{a:Type}{n:Nat}{P:a->Prop}{c:Prop}[Decidable c]{s t:KasT a}(b:c->mQ n P s)(d:¬c->mQ n P t):mQ n P (if c then s else t):=by
 by_cases h:c
 .rw[a' h];show-b h
 rw[a4 h];show-d h
theorem Ç{c:Type}{b:Nat->Nat->(Bool->aS->Prop)->aS->Prop}{lt:jW}{n:Nat}{P:c->Prop}{Q:c->aS->Prop}(d:∀i j C,i<n->j<n->C (lt i j) s->b i j C s):
  ∀t:KasT c,mQ n P t->(P (iF lt t)->Q (iF lt t) s)->t.kasWp b Q s
 |.ret a,p,h=>h p
 |.ask i j k,p,h=>d i j _ p.1 p.2.1 (Ç d (k (lt i j)) (p.2.2 _) h)
theorem N5{a:Type}{lt:jW}{n:Nat}{P:a->Prop}:∀t:KasT a,mQ n P t->P (iF lt t)
 |.ret _,p=>p
 |.ask i j k,p=>N5 (k (lt i j)) (p.2.2 _)
def fb(n:Nat)(p:m8):Prop:=p.Perm (Bm (dY n))
def fb.lt{n:Nat}{p:m8}(h:fb n p){x:Nat}(a:x∈p):x<n:=by
 have:=h.mem_iff.mp a;have:x∈dY n:=by simpa using this
 show-kF.mp this
def fb.list{n:Nat}{p:m8}(h:fb n p):p.toList.Perm (dY n):=by have:=Array.perm_iff_toList_perm.mp h;simpa using this
def fb.at{n:Nat}{p:m8}(h:fb n p)(b:0<n)(k:Nat):p.getD k 0<n:=by
 by_cases a:k<p.size
 .let e:p.getD k 0=p[k]:=by simp[xK,a]
  rw[e];show-h.lt (Array.getElem_mem a)
 let e:p.getD k 0=0:=by simp[xK,a]
 rwa[e]
def fb.perm{n:Nat}{q:m8}(h:fb n p)(e:q.Perm p):fb n q:=(Array.Perm.trans e h)
def fb.rev{n:Nat}(h:fb n p)(i j:Nat):fb n (Hb p i j):=(h.perm (mirror_perm ..))
def fb.abh{n:Nat}(h:fb n p)(i j:Nat):fb n (bubble p i j):=(h.perm (bubble_perm ..))
section
variable{n:Nat}
theorem QI(a:0<n)(h:fb n p):∀f k,mQ n (λ_=>True) (kas_asc p f k)
 |0,_=>trivial
 |f+1,k=>#[h.at a _,h.at a _,λb=>s8 (λ_=>trivial) λ_=>QI a h f (k+1)]
theorem Jp(a:0<n):∀(f:Nat)(p:m8)(k q:Nat),fb n p->mQ n (λr=>fb n r.1) (Ha f p k q)
 |0,p,k,q,h=>h
 |f+1,p,k,q,h=>#[h.at a _,h.at a _,λb=>s8 (λ_=>s8 (λ_=>Jp a f _ _ _ (h.rev _ _)) λ_=>Jp a f _ _ _ h)
   λ_=>#[h.at a _,h.at a _,λb=>s8 (λ_=>h) λ_=>Jp a f _ _ _ h]]
def È(b:0<n)(h:fb n p)(k m:Nat):mQ n (λr=>fb n r.2) (Hc k m p):=by unfold Hc;show-Ec (P:=λ_=>True) (λa _=>?_) _ (QI b (h.rev _ _) _ _);show-h.rev _ _
theorem afo(a:0<n)(h:fb n p)(k m:Nat):mQ n (λr=>fb n r.2) (adj k m p):=
 Ec (λr b=>s8 (λ_=>È a (fb.rev b _ _) _ _) λ_=>È a b _ _) _ (Jp a _ _ _ _ h)
def amt(a:0<n)(h:fb n p)(m:Nat):mQ n (λr=>fb n r.2) (UL m p):=by unfold UL;show-Ec (P:=λ_=>True) (λk _=>?_) _ (QI a h _ _);show-s8 (λ_=>h) λ_=>s8 (λ_=>#[h.at a _,h.at a _,λb=>s8 (λ_=>h) λ_=>afo a (h.rev _ _) _ _]) λ_=>afo a h _ _
theorem Pg(a:0<n)(h:fb n p)(k:Nat):∀f l r,mQ n (λ_=>True) (C3 p k f l r)
 |0,_,_=>trivial
 |f+1,l,r=>s8 (λ_=>trivial) λ_=>#[h.at a _,h.at a _,λb=>s8 (λ_=>Pg a h k f _ _) λ_=>Pg a h k f _ _]
theorem QJ(a:0<n):∀(f:Nat)(p:m8)(k:Nat),fb n p->mQ n (fb n) (UK f p k)
 |0,p,k,h=>h
 |f+1,p,k,h=>Ec (λl _=>QJ a f _ _ (h.abh _ _)) _ (Pg a h k _ _ _)
def PN(b:0<n):mQ n (fb n) (C4 n):=by let c:fb n (Bm (dY n)):=afr _;unfold C4;show-Ec (P:=λr=>fb n r.2) (λr a=>?_) _ (amt b c n);show-s8 (λ_=>QJ b _ _ _ a) λ_=>a
end
def s9(lt:jW)(n:Nat):List Nat:=if n<2 then dY n else(iF lt (C4 n)).toList
def hY{a:Type}(d:a)(lt:jW)(b:List a):List a:=(s9 lt b.Z).map λi=>b.getD i d
def N6{lt:jW}{n i:Nat}(h:i∈s9 lt n):i<n:=by
 unfold s9 at h;split at h
 .exact kF.mp h
 rename_i a;show-fb.lt (N5 (lt:=lt) (C4 n) (PN qI)) (by simpa using h)
def Xb(lt:jW)(n:Nat):(s9 lt n).Perm (dY n):=by
 unfold s9;split
 .exact List.Perm.refl _
 show-fb.list (N5 (lt:=lt) (C4 n) (PN qI))
def YY{b:Type}(d:b)(lt:jW)(a:List b):(hY d lt a).Perm a:=by
 let e:a=(dY a.Z).map λi=>a.getD i d:=by
  apply x_
  .simp
  intro i c f;simp[dB,c]
 let p:=(Xb lt a.Z).map λi=>a.getD i d;rwa[<-e]at p
def X0{b:Type}(d:b)(lt:jW)(a:List b):(hY d lt a).Z=a.Z:=((YY d lt a).length_eq)
def Xv{lt:jW}(h:cI xs us):cI (hY .cf lt xs) (hY .none lt us):=by
 unfold hY;rw[h.Z];have:∀a:List Nat,(∀i∈a,i<xs.Z)->cI (a.map λi=>xs.getD i .cf) (a.map λi=>us.getD i .none):=λa=>by
  induction a with
  |nil=>intro _;show-.nil
  |cons i r e=>
   intro b;show-.cons ?_ (e λj g=>b j (.tail _ g));let f:i<xs.Z:=b i (.head _);let c:xs[i]?=j3 xs[i]:=cQ f;let#[u,d,en]:=h.get c;show RelV (xs[i]?.getD .cf) (us[i]?.getD .none);rwa[c,d]
 show-this _ λi b=>by rw[h.Z];show-N6 b
def alb{b:Type}(d:b)(lt:jW){a:List b}(h:a.Z<2):hY d lt a=a:=by
 unfold hY s9;rw[a' h];apply x_
 .simp
 intro i f c;simp[dB,c]
def vX(a:Addr)(h c:Heap):Prop:=∀b o,b≠a->h.get? b=j3 o->c.get? b=j3 o
section
variable{prog:cq}{w:bW}{A:ee}{E:cC}{s:aS}{vs:dR}{κ:BZ}{lt:jW}
def É{e:Nat}{R:PySem.Fin->aS->Prop}(aW:s.heap.get? a=j3 (kC "list" vs.toArray e))(u:vs.Z<64)(J:2<=vs.Z->∀t:aS,vX a s.heap t.Q->∀Q:BZ->aS->Prop,Q κ t->aO (ba prog w) A (UO vs.toArray) Q (λ_ _=>False) t)(U:2<=vs.Z->∀t:aS,vX a s.heap t.Q->∀i j C,i<vs.Z->j<vs.Z->C (lt i j) t->G_ prog w A κ vs i j C t)(h:∀D c,vX a s.heap D->D.get? a=j3 (kC "list" (Bm (hY fW lt vs)) c)->R (.done (.ret .none)) {s with heap:=D}):
  aO (ba prog w) A (Builtin.«list.sort» #[[.ref a],[]]) R E s:=by
 let d:=aut aW λ_=>(#[]:lY)
 obtain⟨z,N⟩:∃k,(s.heap.update a (BC λ_=>(#[]:lY))).get? a=j3 (kC "list" #[] k):=#[_,d]
 let gj:vX a s.heap (s.heap.update a (BC λ_=>(#[]:lY))):=λb o K q=>(Zm _ _ _ _ K).trans q;let r:∀k,k<64->k<=sizeLine:=λk J=>by rw[vA];lia
 rw[list_sort_plain];show-ax (listItems_at aW rfl (ax (listUpdate_at aW rfl ?_ (by rw[f'];show-r _ u) (eu _))));show-ax (seqEpoch_at N rfl (ax (ae0 ?_ (r _ u))));show-ax (aeZ (nQ ?_) (eu _));dsimp only;generalize M:((s.heap.update a (BC λ_=>(#[]:lY))).push (kC "tuple" vs.toArray 0)).push (kC "list" #[] 0)=g;let H:g.get? a=j3 (kC "list" #[] z):=by rw[<-M];show-dO _ (dO _ N)
 let F:vX a s.heap g:=λb o K q=>by rw[<-M];show-dO _ (dO _ (gj b o K q))
 let m:∀(x:Unit×SortSt)(f:dR),(arrOf x.2).map (·.2)=f.toArray->failedOf x.2=jp->f.Z<64->f=hY fW lt vs->
   aO (ba prog w) A (do
    let V <-seqEpoch a
    azn (.ref a) λ_=>(arrOf x.2).map (·.2)
    match failedOf x.2 with
    |some dH=>do
     rule "list.sort.comparison-raised"
     throw dH
     if(V !=z)=q4 then do
      rule "list.sort.modified"
      axy "ValueError" "list modified during sort"
      ret fW
     else ret fW
    |_=>
     if(V !=z)=q4 then do
      rule "list.sort.modified"
      axy "ValueError" "list modified during sort"
      ret fW
     else ret fW) R E {s with heap:=g}:=λx f I Y O mI=>by
  show-ax (seqEpoch_at H rfl (ax (listUpdate_at H rfl ?_ (eu _) ?_)))
  .rw[Y];dsimp only;rw[a4 xg];obtain⟨c,X⟩:∃c,(g.update a (BC λ_=>(arrOf x.2).map (·.2))).get? a=j3 (kC "list" ((arrOf x.2).map (·.2)) c):=#[_,aut H λ_=>(arrOf x.2).map (·.2)]
   show-bk (h _ c (λb o K q=>(Zm _ _ _ _ K).trans (F b o K q)) ?_);rw[X,I,mI]
  rw[I,f'];have:=r _ O
  lia
 by_cases n:(vs.toArray.size<2)
 .rw[a' n,a' n];let L:vs.Z<2:=by rwa[f']at n
  show-ax (bk (ax (bk ?_)));refine m ((),SortSt.mk' general' (vs.toArray.zip vs.toArray) #[] 7 jp) vs ?_ rfl u (alb _ _ L).symm;show(vs.toArray.zip vs.toArray).map (·.2)=vs.toArray;apply I2.mp;simp only[Array.toList_map,Array.toList_zip];show-List.map_snd_zip (b7 _)
 rw[a4 n,a4 n];let L:2<=vs.Z:=by rw[f']at n;lia
 show-ax (fC (J L {s with heap:=g} F (λy l=>y=κ/\l={s with heap:=g}) #[2,2]) ?_ λ_ _ x=>x.elim);rintro y l ⟨rfl,rfl⟩;show-ax (fC (kat_run (κ:=y) (Q:=λst l=>l={s with heap:=g}/\(arrOf st).map (·.2)=Bm (hY fW lt vs)/\failedOf st=jp/\(hY fW lt vs).Z=vs.Z)
  (G:=λp l=>l={s with heap:=g}/\p=iF lt (C4 vs.Z)) rfl L u (λp st l P T iT lj=>?_) (Ç (λi j C hi Z fh=>U L _ F i j C hi Z fh) _ (PN qI) λ_=>#[2,2])) ?_ λ_ _ x=>x)
 .let#[b1,B]:=lj;let e:hY fW lt vs=p.toList.map λi=>vs.getD i fW:=by unfold hY s9;rw[a4 qI,B]
  show#[b1,4,iT,4]
  .rw[e];exact kat_snds rfl T
  rw[e,aM,I1,P]
 rintro⟨⟨⟩,st⟩ l ⟨rfl,B,n',rZ⟩;exact m ((),st) _ B n' qI rfl
def pS(h a:Heap):Prop:=∀b o,h.get? b=j3 o->a.get? b=j3 o
def YZ{Q:cC}(L:s.heap.IsList l vs.toArray)(u:vs.Z<64)(t:2<=vs.Z->∀a:aS,pS s.heap a.Q->∀Q:BZ->aS->Prop,Q κ a->aO (ba prog w) A.in1.in1 (UO vs.toArray) Q (λ_ _=>False) a)(r:2<=vs.Z->∀a:aS,pS s.heap a.Q->∀i j C,i<vs.Z->j<vs.Z->C (lt i j) a->G_ prog w A.in1.in1 κ vs i j C a)(h:∀D d c,s.L<=D->pS s.heap d->d.get? D=j3 (kC "list" (Bm (hY fW lt vs)) c)->Q (.ref D) {s with heap:=d}):
  aO (ba prog w) A (call (.builtin "sorted") ([.ref l]:dR)) Q E s:=by
 let f:vs.Z<=sizeLine:=by rw[vA];lia
 show-afS kind_sorted plain_sorted entry_sorted (args_sorted1 (.ref l)) ?_;unfold Builtin.«sorted»;show-ax (m:=checkCount "sorted" 1 1 _) (bk (ax (collect_list L ?_ f)));show-ax (aeZ ?_ f);generalize p:(s.heap.push (kC "list" #[] 0)).update s.heap.objs.size (BC (·++vs.toArray))=G;let n:G.Y=s.L+1:=by rw[<-p,Heap.size_update,size_push']
 let V:pS s.heap G:=λb o q=>by let K:=e8 (dE q);rw[<-p,Zm _ _ _ _ K];show-dO _ q
 show aO _ _ _ _ _ {s with heap:=G.push (kC "list" vs.toArray 0)};let bR:(G.push (kC "list" vs.toArray 0)).get? G.Y=j3 (kC "list" vs.toArray 0):=gJ _ rfl;let e:pS s.heap (G.push (kC "list" vs.toArray 0)):=λb o q=>dO _ (V b o q);let g:∀d,vX G.objs.size (G.push (kC "list" vs.toArray 0)) d->pS s.heap d:=λd x b o q=>x b o (e8 (by rw[n];show-wa (dE q))) (e b o q);show-ax (nQ (nP ax3 #[_,bR,2] atJ ?_ (as5 _)));show-É (s:={s with heap:=G.push (kC "list" vs.toArray 0)}) (κ:=κ) (lt:=lt) bR u (λk a x=>t k a (g _ x)) (λk a x=>r k a (g _ x)) λd c x N=>?_;show#[1,bk #[1,h _ d c (by rw[n];show-Fo _) (g _ x) N]]
def lexLt:List bD->List bD->Bool
 |.inl a::r,.inl b::q=>if a=b then lexLt r q else decide (a<b)
 |.inr a::r,.inr b::q=>if a=b then lexLt r q else decide (a.cps.G<b.cps.G)
 |_,_=>q9
def mb:List bD->List Bool:=v9 λk=>match k with
 |.inl _=>q4
 |.inr _=>q9
def ald(a b:Int):ki (.int a) (.int b)=decide (a=b):=by
 by_cases h:a=b
 .subst h;rw[cw rfl];simp[ki]
 rw[c9 h];simp[ki,h]
def ZL(x y:Str):ki (.str x) (.str y)=decide (x=y):=by
 by_cases h:x=y
 .subst h;rw[cw rfl];simp[ki]
 rw[c9 h];simp[ki,h]
end
section
variable{prog:cq}{w:bW}{A:ee}{E:cC}{s:aS}
theorem X1{Q:Bool->aS->Prop}:∀(d e:List bD)(c f:dR)(i:Nat),cI (d.map di) c->cI (e.map di) f->mb d=mb e->Q (lexLt d e) s->KatLex prog w A q4 q9 Q (c.zip f) i s
 |[],e,c,f,i,v1,v2,hs,h=>by
  cases v1;let k:e=[]:=by
   cases e with
   |nil=>rfl
   |cons _ _=>cases hs
  subst k;show-kat_nil h
 |.inl a::r,[],_,_,_,_,_,hs,_=>by cases hs
 |.inr a::r,[],_,_,_,_,_,hs,_=>by cases hs
 |.inl a::r,.inr b::q,_,_,_,_,_,hs,_=>by simp[mb]at hs
 |.inr a::r,.inl b::q,_,_,_,_,_,hs,_=>by simp[mb]at hs
 |.inl a::r,.inl b::q,_,_,i,.cons j t1,.cons o x,hs,h=>by
  let#[t,2]:=j;let#[u,2]:=o;let g:mb r=mb q:=by simpa[mb]using hs
  unfold lexLt at h;show-kat_cons (keq_flat (d:=.int a) (e:=.int b) (λ_=>.int a t) (λ_=>.int b u) prog w _ _ ?_);rw[ald];by_cases e:a=b
  .rw[a' e]at h;rw[cw e];show-kat_yes (X1 r q _ _ _ t1 x g h)
  rw[a4 e]at h;rw[c9 e];show-kat_no ?_;cases i with
  |zero=>show-oneLt_int h
  |succ i=>show-kat_one _ _ (lt_int h)
 |.inr a::r,.inr b::q,_,_,i,.cons j t1,.cons o x,hs,h=>by
  let#[t,2]:=j;let#[u,2]:=o;let g:mb r=mb q:=by simpa[mb]using hs
  unfold lexLt at h;show-kat_cons (keq_flat (d:=.str a) (e:=.str b) (λ_=>.str a t) (λ_=>.str b u) prog w _ _ ?_);rw[ZL];by_cases e:a=b
  .rw[a' e]at h;rw[cw e];show-kat_yes (X1 r q _ _ _ t1 x g h)
  rw[a4 e]at h;rw[c9 e];show-kat_no ?_;cases i with
  |zero=>show-oneLt_str h
  |succ i=>show-kat_one _ _ (lt_str h)
def qj(ds:List (List bD))(i j:Nat):Bool:=lexLt (ds.getD i []) (ds.getD j [])
theorem HT:∀{a:bS}{b:dR},cI (a.map V.ref) b->b=a.map cM
 |[],_,.nil=>rfl
 |t::a,_,.cons r q=>by cases r;rw[HT q];rfl
def adg:bD->Bool
 |.inl _=>q4
 |.inr _=>q9
def aeD(b:Bool):Value:=if b=q4 then .type "int" else .type "str"
end
theorem Ř{H:ag}(ok:gw P w H h)(x:pS h ai){b:Bool}:∀{c:bS}{ds:List (List bD)},bV (λr d=>H r=j3 (.tup (d.map di))) c ds->(∀d∈ds,∃r,mb d=b::r)->
  ∃a,KatTups ai (c.map cM) a/\a.Z=c.Z/\∀v∈a,∃k:bD,adg k=b/\RelV (di k) v
 |[],[],_,_=>#[[],KatTups.nil,2,λ_ h=>bt h dU]
 |t::c,d::ds,.cons r q,hd=>by
  let#[a,V,i,j]:=Ř ok x q λA K=>hd A (.tail _ K);let#[z,g]:=hd d (.head _);let#[_,L,p,o,aW,l,n,N]:=ok t _ r;cases d with
  |nil=>cases g
  |cons k d=>
   cases p with
   |cons s y=>
    rename_i f u;show#[f::a,KatTups.cons (x _ _ aW) l N xg V,by simp[i],λv m=>?_];rcases et.mp m with rfl|e
    .show#[k,4,s];have:mb (k::d)=adg k::mb d:=by cases k<;>rfl
     rw[this]at g;exact(Bh g).1
    show-j v e
 |[],d::ds,h,_=>nomatch h
 |t::c,[],h,_=>nomatch h
section
variable{X:bA}
def NO:iW "sorted"=j3 (.builtin "sorted"):=by left
def aeM:ks X (.builtin "sorted") (λxs H Q=>∃(p:Addr)(f:bS)(ds:List (List bD))(b:Bool)(rk:List Bool),xs=[.ref p]/\aI X.K H p (f.map V.ref)/\bV (λr d=>H r=j3 (.tup (d.map di))) f ds/\f.Z<64/\(∀d∈ds,mb d=b::rk)/\
  ∀l,H l=jp->Q (.ref l) (upd H l (.lst (hY .cf (qj ds) (f.map V.ref))))):=by
 intro pins s aa H xs us Q I r h;let#[p,f,ds,b,rk,2,bf,G,tQ,zp,q]:=h;let#[u,2,en]:=vals1 r;cases en;let#[g,F,pl,hz]:=I.list bf;let z:=F.Z;rw[aM]at z;obtain rfl:=HT F;let aBO:f.Z=ds.Z:=lU G;let K:∀i,i<f.Z->∃d g,(f.map cM).getD i fW=.ref f[i]!/\ds.getD i []=d/\mb d=b::rk/\cI (d.map di) g/\o5 s.heap f[i]! g.toArray:=λi L=>by
  let O:f[i]?=j3 f[i]:=cQ L;let M:ds[i]?=j3 ds[i]:=cQ qI;let R:f[i]! =f[i]:=by simp[L]
  let az:H f[i]=j3 (.tup (ds[i].map di)):=by
   have:∀{l:bS}{m:List (List bD)}{k:Nat}{x:Addr}{y:List bD},bV (λr d=>H r=j3 (.tup (d.map di))) l m->l[k]?=j3 x->m[k]?=j3 y->H x=j3 (.tup (y.map di)):=λ{l m k x y}P=>by
    induction P generalizing k with
    |nil=>intro h;simp at h
    |cons a t a3=>
     cases k with
     |zero=>intro A w;simp at A w;subst A;subst w;show-a
     |succ k=>intro A w;simp at A w;show-a3 A w
   show-this G O M
  let#[_,g,v1,t1]:=I.bu _ _ az;show#[ds[i],g,4,4,zp _ (nZ _),v1,4]
  .rw[dB,cR,O,R];rfl
  .rw[dB,M];rfl
  rwa[R]
 show-YZ (κ:=tuples' q4) (lt:=qj ds) pl.isList (by rwa[aM]) (λw s1 x uW dh=>?_) (λw s1 x i j C L U fh=>?_) λD h' c N x av=>?_
 .let#[fs,k1,k2,k3]:=Ř I.bu x G λd hd=>#[rk,zp d hd]
  rw[aM]at w;show-kat_kind (T:=aeD b) k1 qI (λv bc=>?_) (by cases b<;>decide+kernel) ?_
  .let#[k,d7,xl]:=k3 v bc;subst d7;cases k with
   |inl i=>let#[t,2]:=xl;exact Η rfl
   |inr i=>let#[t,2]:=xl;exact Η rfl
  let e:(aeD b !=wm "tuple")=q4:=by cases b<;>decide+kernel
  rwa[e]
 .rw[aM]at L U;let#[d,g,a1,a2,Y,Z,o,aW,_,n,j5]:=K i L;let#[J,B,b1,dg,n',rZ,cF,lC,_,fj,E]:=K j U;unfold G_;rw[a1,b1];let eg:=Z.Z;let eC:=rZ.Z;rw[aM]at eg eC;let i5:d.Z=J.Z:=by let e:=fe rN (Y.trans n'.J);simpa[mb]using e
  show-kat_lt (b:=q4) (x _ _ aW) j5 (x _ _ lC) E ?_;rw[c9 (by rw[f',f'];lia)];show-X1 d J g B 0 Z rZ (Y.trans n'.J) ?_;have:qj ds i j=lexLt d J:=by unfold qj;rw[a2,dg]
  rwa[<-this]
 show#[.ref D,_,I.laid (a:=D) (o:=.lst (hY .cf (qj ds) (f.map V.ref))) (t':=s.toks) (λb o q=>x b o q) N ?_,2,q D (I.bu.fresh N)];show#[4,_,c,Xv F,av];rw[X0,aM,vA]
 lia
def nV(h:Heap)(d:Addr)(b:Array pY)(a:Nat):Prop:=∃o,h.get? d=j3 o/\o.ExactDict/\o.data=.dict b a
end
section
variable{prog:cq}{w:bW}{A:ee}{E:cC}{s:aS}{it d:Addr}{i ep:Nat}{es:Array pY}{ok gX:Value}
def amu{Q:Option Value->aS->Prop}(a:xU s.heap it d i es.size ep ok gX)(X:nV s.heap d es ep)(Y:i<es.size)(U:∀K,ZN K it d (i+1) es.size ep es[i].key es[i].val s.L->K.get? s.L=j3 {cls:=.type "tuple",data:=.seq (List.toArray [es[i].key,es[i].val])}->
   (∀b o,b≠it->s.heap.get? b=j3 o->K.get? b=j3 o)->Q (j3 (.ref s.L)) {s with heap:=K}):aO (ba prog w) A (ky (.ref it)) Q E s:=by
 let#[G,n,k,m,os]:=s;let#[o,aW,_,R]:=X;let g:Ī #[G,n,k,m,os] (.ref it) "dict_itemiterator":=#[_,a,2]
 let Z:¬((cM d==fW)=q4):=gZ;let own:I4 "dict_itemiterator"=q4:=by decide
 let H:it<G.Y:=dE a;unfold ky;show-ax (Au (xB (name:=cU "__next__") g F.slot_dict_itemiterator_next (nP F.slot_dict_itemiterator_next g F.entry_dict_itemiterator_next ?_ (F.args_dict_itemiterator_next_1 _))));show-ax (bk (ax (ax ?_)))
 first
 |show-ax (Xl g (bk (ax (Aw a rfl ?_))))
 |show-ax (Xn g (bk (ax (Aw a rfl ?_))))
 simp only[own,if_true];change aO _ _ (ite ((cM d==fW)=q4) _ _) _ _ _;rw[a4 Z];show-ax (bk (ax (Av aW R ?_)));rw[a4 xg];show-ax (bk (ax (ID aW R ?_)));rw[a4 xg];show-bk ?_;simp only[show¬((i:Int)<0)from by lia,if_false,jf,ON Y];show-ax ?_
 first
 |show-ax (Xl g (bk (ax (Xi g ?_))))
 |show-ax (Xn g (bk (ax (Xi g ?_))))
 show aO _ _ (D7 (.ref it) 3 (mU ((i:Int)+1)) >>=_) _ _ #[G,n,k,m,os];show-ax (vL a xg λc r t=>?_);let t:jT it G c:=t;let r:xU c it d (i+1) es.size ep ok gX:=by
  let z:((i+1:Nat):Int)=(i:Int)+1:=by lia
  unfold xU;rw[z];simpa[mU]using r
 let J:Ī #[c,n,k,m,os] (.ref it) "dict_itemiterator":=#[_,r,2]
 show-ax (nQ (ax (Xi J (ax (Xi J ?_)))));show aO _ _ (afH (.ref it) 6 es[i].key es[i].val) _ _ #[c,n,k,m,os];simp only[afH];show-ax (ae0 ?_);let O:c.Y=G.Y:=t.1;let l:xU (c.push {cls:=.type "tuple",data:=.seq (List.toArray [es[i].key,es[i].val])}) it d (i+1) es.size ep ok gX:=dO _ r;let P:(c.push {cls:=.type "tuple",data:=.seq (List.toArray [es[i].key,es[i].val])}).get? G.Y=j3 {cls:=.type "tuple",data:=.seq (List.toArray [es[i].key,es[i].val])}:=by rw[<-O];exact gJ _ rfl
 let T:∀b u,b≠it->G.get? b=j3 u->(c.push {cls:=.type "tuple",data:=.seq (List.toArray [es[i].key,es[i].val])}).get? b=j3 u:=λb u f q=>dO _ (t.extBut b u f q);show aO _ _ (afG (.ref it) >>=_) _ _ #[c.push {cls:=.type "tuple",data:=.seq (List.toArray [es[i].key,es[i].val])},n,k,m,os];rw[O];generalize c.push {cls:=.type "tuple",data:=.seq (List.toArray [es[i].key,es[i].val])}=M at l P T⊢;show-ax ?_;unfold afG;show-ax (kb l rfl (x:=.none) rfl (bk ?_));simp only[if_true];show-ax (kb l rfl (x:=ok) rfl (ax (kb l rfl (x:=gX) rfl ?_)));show-ax (vL l xg λV y I=>?_);let I:jT it M V:=I;let y:xU V it d (i+1) es.size ep es[i].key gX:=y;show-ax (vL y xg λe B L=>?_);let L:jT it V e:=L;let B:xU e it d (i+1) es.size ep es[i].key es[i].val:=B;show-ax (vL B xg λh C N=>?_);let N:jT it e h:=N;let C:ZN h it d (i+1) es.size ep es[i].key es[i].val G.Y:=C;show-ax (vL C xg λp D j=>?_);let j:jT it h p:=j;let D:ZN p it d (i+1) es.size ep es[i].key es[i].val G.Y:=D;let all:∀b u,b≠it->M.get? b=j3 u->p.get? b=j3 u:=λb u f q=>j.extBut b u f (N.extBut b u f (L.extBut b u f (I.extBut b u f q)));show-ax (Ax (bk (bk #[1,bk (U p D (all _ _ (wb H) P) λb u f q=>all b u f (T b u f q))])))
def ama{Q:Option Value->aS->Prop}(n:A.handled=jp)(c:xU s.heap it d i es.size ep ok gX)(p:nV s.heap d es ep)(r:es.size<=i)(l:∀g,Py it s.heap g->Q jp {s with heap:=g}):
  aO (ba prog w) A (ky (.ref it)) Q E s:=by
 let#[o,aW,_,k]:=p;let f:s.TypeIs (.ref it) "dict_itemiterator":=#[_,c,2]
 let K:¬((cM d==fW)=q4):=gZ;let own:I4 "dict_itemiterator"=q4:=by decide
 unfold ky;show-ax (Au (xB (name:=cU "__next__") f F.slot_dict_itemiterator_next (nP F.slot_dict_itemiterator_next f F.entry_dict_itemiterator_next ?_ (F.args_dict_itemiterator_next_1 _))));show-ax (bk (ax (ax ?_)))
 first
 |show-ax (Xl f (bk (ax (Aw c rfl ?_))))
 |show-ax (Xn f (bk (ax (Aw c rfl ?_))))
 simp only[own,if_true];change aO _ _ (ite ((cM d==fW)=q4) _ _) _ _ _;rw[a4 K];show-ax (bk (ax (Av aW k ?_)));rw[a4 xg];show-ax (bk (ax (ID aW k ?_)));rw[a4 xg];show-bk ?_;simp only[show¬((i:Int)<0)from by lia,if_false,jf,I0 r];show-ax ?_
 first
 |show-ax (Xl f (bk ?_))
 |show-ax (Xn f (bk ?_))
 change aO _ _ (D7 (.ref it) 2 fW >>=_) _ _ s;show-ax (Ek c rfl xg ?_);change aO _ _ (Hy (.type "StopIteration") [] >>=_) _ _ _;show-ax ?_;simp only[Hy,newTuple];show-ax (pW ?_ (by size_fits));show-ax (m:=Gl _ _) (IE (a:=fW) (by first|rfl|(simp only[Gl];rfl)) (pW ?_ (by size_fits)));let t:A.in1.handled=jp:=n;simp only[raiseNew];show-ax (aeV ?_);rw[t];show-ax (bk (Xk ?_));show-ax (Xh (b:=q4) (T:="StopIteration") #[_,gJ _ rfl,2] adi ?_);show-bk (l _ (Pz (Pz (agn (Ba ..)) _) _))
def ale{Q:cC}(b:s.heap.IsItemsView v d)(l:nV s.heap d es ep)(g:Q (.ref s.L) {s with heap:=s.heap.push {cls:=.type "dict_itemiterator",data:=.fields (List.toArray [.none,.bool q9,.ref d,.int 0 0,.int es.size 0,.int ep 0,.none,.none])}}):aO (ba prog w) A (HM (.ref v)) Q E s:=by
 let#[m,f,_,k]:=id b;let#[o,aW,_,c]:=l;let n:¬((cM d==fW)=q4):=gZ;let own:I4 "dict_itemiterator"=q4:=by decide
 let a:=b.typeIs;show-ae3 a F.slot_dict_items_iter (nP F.slot_dict_items_iter a F.entry_dict_items_iter ?_ (F.args_dict_items_iter_1 _));unfold Builtin.«dict_items.__iter__» azj;show-ax (bk (ax ?_));show-ax (kb f k (x:=.ref d) rfl (bk (ax ?_)));unfold azk;show-ax (Av aW c (ax (ID aW c ?_)));simp only[own,if_true];show-pW ?_ (by simp only[vA,sizeOk,afF,c0,f',ej,kf];lia);show-bk #[1,"dict_itemiterator",_,#[_,gJ _ rfl,2],F.slot_dict_itemiterator_next.lookup,4];simpa[mU,afF]using g
def ahp{Q:cC}(g:(d==kY)=q9)(f:nV s.heap d es ep)(c:Q (.ref s.L) {s with heap:=s.heap.push {cls:=.type "dict_items",data:=.fields #[.ref d]}}):
  aO (ba prog w) A (call (.builtin "dict.items") ([.ref d]:dR)) Q E s:=by
 let#[o,aW,b,k]:=f;let a:s.TypeIs (.ref d) "dict":=#[o,aW,b.1]
 show-nP F.slot_dict_items a F.entry_dict_items ?_ (F.args_dict_items_1 _);unfold Builtin.«dict.items»;show-ax ?_;unfold azi;show-ax (ae1 a ?_);show aO _ _ (pure d) _ _ s;show-bk ?_;change aO _ _ (OW d >>=_) _ _ s;unfold OW;rw[a4 (by rw[g];show-gZ)];show-ax (bk (ax (pW (bk #[1,c]))))
end
section
variable{X:bA}{pins:dJ}{aa:aq.St}{H:ag}{s:aS}{a:Addr}{u u':hP}
def Jq(I:Inv X pins aa H s)(k:H a=j3 u)(B:∀f,u≠.tup f)(h:∀y,u≠.own y)(l:e9 X.prog X.w (upd H a u') s.heap a u')(i:∀f,X.g9 a≠j3 (.tup f))(j:∀o v,X.g9 a≠j3 (.fp o v))(N:∀g,X.g9 a≠j3 (.s_ g)):Inv X pins aa (upd H a u') s:=by
 let d:∀{b:Addr},H b=jp->upd H a u' b=jp:=λ{b}e=>by rw[aR (λz=>by rw[z,k]at e;cases e)];show-e
 show#[I.ok,I.os,I.bare,#[I.base.keep,I.base.slot,λb o e n A=>d (I.base.free b o e n A),I.base.there,λb f e=>?_,λb o v e=>?_,λb g e=>?_],I.loc,I.cell,d I.free,λx c e=>d (I.pj x c e),λp K=>?_,λb o e=>?_,I.len]
 .rw[aR (λz=>by rw[z]at e;show-i f e)];show-I.base.hE b f e
 .rw[aR (λz=>by rw[z]at e;show-j o v e)];show-I.base.i0 b o v e
 .rw[aR (λz=>by rw[z]at e;show-N g e)];show-I.base.jx b g e
 .let#[t,w,r,L,V]:=I.pin p K;show#[t,d w,r,L,V]
 by_cases m:b=a
 .subst m;rw[aQ]at e;cases e;show-l
 rw[aR m]at e;refine(I.bu b o e).pO (λc v _ q=>q) (λc q=>?_) λc f q=>?_
 .rw[aR (λz=>by rw[z,k]at q;show-h _ (gk q))];show-q
 rw[aR (λz=>by rw[z,k]at q;show-B _ (gk q))];show-q
inductive aya(bO:TE)(aa:aq.St)(H:ag)(Q:aX):Prop where
 |mk(a:_)(kvs:_)(_:H a=j3 (.c3 kvs))(_:∀o,bO aa (upd H a (.fp o (.c3 kvs))) λv H'=>H' a=j3 (.fp o (.c3 kvs))/\Q v (upd H' a (.c3 kvs)))
def aqa(U:bq X e M):bq X e (aya M):=by
 intro pins s aa H Q I h;let#[a,d,f,h]:=h;let V:∀g,X.g9 a≠j3 (.tup g):=λg z=>by have:=I.base.hE a g z;rw[f]at this;cases this
 let i:∀o v,X.g9 a≠j3 (.fp o v):=λo v z=>by have:=I.base.i0 a o v z;rw[f]at this;cases this
 let N:∀A,X.g9 a≠j3 (.s_ A):=λA z=>by let#[m,e]:=I.base.jx a A z;rw[f]at e;cases e
 let#[z,y,g,r,o,T,R,e,c]:=I.bu a _ f;let B:∀{H':ag}{b:Addr}{K:aV},H b=j3 (.tup K)->upd H a (.fp o (.c3 d)) b=j3 (.tup K):=λ{H' b K}q=>by rw[aR (λw=>by rw[w,f]at q;cases q)];show-q
 let G:Inv X pins aa (upd H a (.fp o (.c3 d))) s:=Jq I f (by intro _ w;cases w) (by intro _ w;cases w) #[e,z,y,g,bV.kv r λp q w=>#[w.1,B (H':=H) w.2.1,w.2.2],o,T,R,e,c] V i N;show-bL (U pins s aa _ _ G (h o)) λv s1 Z=>?_;let#[x,j,L,O,n,J]:=Z;let#[aE,F,nS,k,P,jP,D,C,E,Y]:=L.bu a _ n;show#[x,upd j a (.c3 d),Jq L (u':=.c3 d) n (by intro _ w;cases w) (by intro _ w;cases w) #[F,nS,k,bV.kv P λp q w=>#[w.1,4,w.2.2],jP,D,C,E,Y] V i N,O,J];let l:=w.2.1;rw[aR (λt=>by rw[t,n]at l;cases l)];show-l
end
def PD(a:Addr)(o:Obj)(c:List (List bD×V)):fF:=
 #[λi H=>H a=j3 (.fp o (.c3 c))/\i<c.Z,λi H v H'=>∃p b k x,H p=jp/\v=.ref p/\c[i]?=j3 (k,x)/\H b=j3 (.tup (k.map di))/\H'=upd H p (.tup [.ref b,x]),λi H=>H a=j3 (.fp o (.c3 c))/\c.Z<=i]
def Ph{H:ag}{h:Heap}{o:Obj}{d:List (List bD×V)}(ok:gw P w H h)(C:H a=j3 (.fp o (.c3 d))):h.get? a=j3 o/\(a==kY)=q9/\o.ExactDict/\∃c g,o.data=.dict c g/\c.size=d.Z/\
  ∀(i:Nat)(k:List bD)(x:V),d[i]?=j3 (k,x)->∃b v,(∃n:i<c.size,c[i].key=.ref b/\c[i].val=v)/\H b=j3 (.tup (k.map di))/\RelV x v:=by
 let#[L,_,y,u,r,J,c,g,A,E,I,e,_]:=ok a _ C;rw[L]at A;cases A;let O:d.Z=u.Z:=lU r;let M:c.size=u.Z:=by have:=fe rN e;simpa using this
 show#[L,y,E,c,g,I,9,λi k x n=>?_];let lt:i<d.Z:=(fU.mp n).1;let f:∀{l:List (List bD×V)}{m:List (List bD×Addr×Value)}{j:Nat}{p:List bD×V},bV (λ(p:List bD×V)(q:List bD×Addr×Value)=>p.1=q.1/\H q.2.1=j3 (.tup (p.1.map di))/\RelV p.2 q.2.2) l m->l[j]?=j3 p->∃q,m[j]?=j3 q/\p.1=q.1/\H q.2.1=j3 (.tup (p.1.map di))/\RelV p.2 q.2.2:=λ{l m j p}R=>by
  induction R generalizing j with
  |nil=>intro h;simp at h
  |cons a t z=>
   cases j with
   |zero=>intro h;simp at h;subst h;show#[1,a]
   |succ j=>intro h;simp at h;simpa using z h
 let#[q,F,_,D,B]:=f r n;let s:i<c.size:=by lia
 let K:c[i]=F_ (xw (iY P w)) q:=by
  let N:c.G[i]?=j3 (F_ (xw (iY P w)) q):=by rw[e,cR,F];rfl
  let G:c.G[i]?=j3 c[i]:=by simp[s]
  rw[G]at N;show-gk N
 show#[q.2.1,q.2.2,#[s,by rw[K];rfl,by rw[K];rfl],D,B]
def ahg{K:aL}{k:Nat}{o:Obj}{n:List (List bD×V)}{es:Array pY}{Z:Nat}(a d:Addr)(L:o.data=.dict es Z):
  Turn P w K (.Tuple elts k pos) (PD a o n) [d] d (λi h=>∃x y,xU h d a i es.size Z x y)where
 mem:=by simp
 obj:=λi h st b m=>by
  let#[x,y,f]:=st;let q:b=d:=by simpa using m
  subst q;show#[_,f,λv z=>by
   let D:O7 _=ER v:=z;cases D]
 keep:=λi h h' st c4=>by let#[x,y,f]:=st;show#[x,y,c4 d xg _ f]
 item:=by
  intro X G O J U i g s T H E I A st C;subst G O J;let#[x0,B,f]:=st;let#[j,hi]:=C;let#[M,_,c_,tJ,qX,p,ay,ge]:=Ph I.bu j;rw[L]at p;cases p;obtain⟨l,yZ⟩:∃q,n[i]?=j3 q:=#[_,cQ hi]
  let#[b,v,#[sq,d7,ev],m,cA]:=ge i l.1 l.2 yZ;let#[F,f1,f2,Y,f4,fz]:=A d xg;show-amu f #[o,M,c_,L] sq λai aW jJ aN=>#[1,4]
  show-wpAny_letOwnedTupleGo_items aW λt wU N=>?_;let N:jT d ai t:=N;rw[d7,ev]at jJ;let hn:H s.L=jp:=I.fresh;let r:d<s.L:=dE f;let sX:∀c u,c∉[d]->s.heap.get? c=j3 u->t.get? c=j3 u:=λc u Q q=>by let R:c≠d:=λz=>Q (by simp[z]);exact(N.2 c R).trans (aN c u R q)
  let zd:t.get? s.L=j3 {cls:=.type "tuple",data:=.seq (List.toArray [.ref b,v])}:=(N.2 _ (wb r)).trans jJ;show#[.ref s.L,upd H s.heap.objs.size (.tup [.ref b,l.2]),4,2,#[s.L,b,l.1,l.2,hn,2,yZ,m,2],#[6,wU],λc Q=>?_]
  .show Inv X g T (upd H s.heap.objs.size (.tup [.ref b,l.2])) {s with heap:=t,gens:=s.gens,drawn:=s.drawn,toks:=s.toks};show-XU I A sX zd (.cons rfl (.cons cA .nil))
  let D:c=d:=by simpa using Q
  subst D;rwa[aR (e8 r)]
 done:=by intro X G O J U i g s T H E I A st C;subst G O J;let#[x0,B,f]:=st;let#[j,hi]:=C;let#[M,_,c_,tJ,qX,p,ay,ge]:=Ph I.bu j;rw[L]at p;cases p;let#[F,f1,f2,Y,f4,fz]:=A d xg;exact ama (I.ok.hd U) f #[o,M,c_,L] qI λh' dW=>#[2,I.turned (t':=s.toks) (λb o m e=>dW b o m e) F f1 Y f4 fz]
 self:=λ_ _ _ _ _ st h=>by let#[x,y,f]:=st;show-PySem.W.kcp_self f h
section
variable{X:bA}{elts:hy}{k:Nat}{z9:Pos}
def aoF(f:TE):eV:=λd H R=>f d H λx c=>∃a o b,x=.ref a/\c a=j3 (.fp o (.c3 b))/\R (PD a o b) c
def alf{w A:Pos}(aW:bq X o y)(V:yK o "items" X.env (eval o X.env)=eval o X.env:=by rfl)(N:(w.endLine==A.line)=q4:=by rfl):
  m6 X (.Tuple elts k z9) (.Call (.Attribute o "items" w) [] [] A) (aoF y):=by
 intro f s t H R I h;show-wpAny_Call_method0_late V N (bL (aW f s t H _ I h) λv c C=>?_);let#[x,p,r,u,a,l,D,B,i,q]:=C;subst B;cases u;let#[g,L,c_,es,ep,n,E,F]:=Ph r.bu i;show#["dict","dict.items",Qn,PySem.F.slot_dict_items,PySem.F.type_dict_items,#[l,g,c_.1],λb e=>?_,I' rfl (PySem.evalArgs_none ?_)]
 .cases e;show#[l,g,c_.2.1]
 show-ahp L #[l,g,c_,n] ?_;let K:∀b o,c.heap.get? b=j3 o->(c.heap.push {cls:=.type "dict_items",data:=.fields #[.ref a]}).get? b=j3 o:=λb o e=>dO _ e;show-ale (d:=a) (es:=es) (ep:=ep) #[_,gJ _ rfl,2,2] #[l,K _ _ g,c_,n] ?_;let m:Inv X f t p {c with heap:=c.heap.push {cls:=.type "dict_items",data:=.fields #[.ref a]}}:=r.kept (t':=c.toks) K;show#[(c.heap.push {cls:=.type "dict_items",data:=.fields #[.ref a]}).objs.size,[(c.heap.push {cls:=.type "dict_items",data:=.fields #[.ref a]}).objs.size],6,p,2,m.kept (t':=c.toks) λb o e=>dO _ e,ahg a _ n,#[.none,.none,gJ _ rfl],λb j=>?_,q];let z:b=(c.heap.push {cls:=.type "dict_items",data:=.fields #[.ref a]}).objs.size:=by simpa using j
 subst z;show-m.tN (b7 _) (m.bu.fresh (b7 _))
end
section
variable{prog:cq}{w:bW}{A:ee}{E:cC}{s:aS}{it d:Addr}{i ep:Nat}{es:Array pY}
def ř{Q:Option Value->aS->Prop}(b:s.heap.IsKeyIter it d i es.size ep)(p:nV s.heap d es ep)(r:i<es.size)(n:∀g,g.IsKeyIter it d (i+1) es.size ep->jT it s.heap g->Q (j3 es[i].key) {s with heap:=g}):aO (ba prog w) A (ky (.ref it)) Q E s:=by
 let#[m,f,l,c]:=id b;let#[o,aW,_,k]:=p;let a:=b.typeIs;let t:¬((cM d==fW)=q4):=gZ;let own:I4 "dict_keyiterator"=q9:=by decide
 unfold ky;show-ax (Au (xB (name:=cU "__next__") a F.slot_dict_keyiterator_next (nP F.slot_dict_keyiterator_next a F.entry_dict_keyiterator_next ?_ (F.args_dict_keyiterator_next_1 _))));show-ax (bk (ax (ax ?_)))
 first
 |show-ax (Xm a (bk (ax (Aw f c ?_))))
 |show-ax (Xo a (bk (ax (Aw f c ?_))))
 simp only[own,AP,if_false];change aO _ _ (ite ((cM d==fW)=q4) _ _) _ _ s;rw[a4 t];show-ax (bk (ax (Av aW k ?_)));rw[a4 xg];show-ax (bk (ax (ID aW k ?_)));rw[a4 xg];show-bk ?_;simp only[show¬((i:Int)<0)from by lia,if_false,jf,ON r];show-ax ?_
 first
 |show-ax (Xm a (bk (ax (aeW a ?_))))
 |show-ax (Xo a (bk (ax (aeW a ?_))))
 change aO _ _ (D7 (.ref it) 1 (mU ((i:Int)+1)) >>=_) _ _ s;show-ax (Ek f c xg ?_);let next:(s.heap.update it (BB (·.setIfInBounds 1 (mU ((i:Int)+1))))).IsKeyIter it d (i+1) es.size ep:=
  #[_,xT _ f (è (Fs c _)),(aiL ..).trans l,by simp[Fs c,mU]]
 show-ax (nQ (ax (aeW (s:={s with heap:=s.heap.update it (BB (·.setIfInBounds 1 (mU ((i:Int)+1))))}) next.typeIs ?_)));show-bk (bk #[1,bk (n _ next (Ba ..))])
def Ê{Q:Option Value->aS->Prop}(t:A.handled=jp)(f:s.heap.IsKeyIter it d i es.size ep)(K:nV s.heap d es ep)(L:es.size<=i)(r:∀l,Py it s.heap l->Q jp {s with heap:=l}):
  aO (ba prog w) A (ky (cM it)) Q E s:=by
 let#[p,k,e,g]:=id f;let#[o,aW,_,n]:=K;let c:=f.typeIs;let V:¬((cM d==fW)=q4):=gZ;let own:I4 "dict_keyiterator"=q9:=by decide
 unfold ky;show-ax (Au (xB (name:=cU "__next__") c F.slot_dict_keyiterator_next (nP F.slot_dict_keyiterator_next c F.entry_dict_keyiterator_next ?_ (F.args_dict_keyiterator_next_1 _))));show-ax (bk (ax (ax ?_)))
 first
 |show-ax (Xm c (bk (ax (Aw k g ?_))))
 |show-ax (Xo c (bk (ax (Aw k g ?_))))
 simp only[own,AP,if_false];change aO _ _ (ite ((cM d==fW)=q4) _ _) _ _ s;rw[a4 V];show-ax (bk (ax (Av aW n ?_)));rw[a4 xg];show-ax (bk (ax (ID aW n ?_)));rw[a4 xg];show-bk ?_;simp only[show¬((i:Int)<0)from by lia,if_false,jf,I0 L];show-ax ?_
 first
 |show-ax (Xm c (bk ?_))
 |show-ax (Xo c (bk ?_))
 change aO _ _ (D7 (.ref it) 0 fW >>=_) _ _ s;show-ax (Ek k g xg ?_);change aO _ _ (Hy (.type "StopIteration") [] >>=_) _ _ _;show-ax ?_;simp only[Hy,newTuple];show-ax (pW ?_ (by size_fits));show-ax (m:=Gl _ _) (IE (a:=fW) (by first|rfl|(simp only[Gl];rfl)) (pW ?_ (by size_fits)));let N:A.in1.handled=jp:=t;simp only[raiseNew];show-ax (aeV ?_);rw[N];show-ax (bk (Xk ?_));show-ax (Xh (b:=q4) (T:="StopIteration") #[_,gJ _ rfl,2] adi ?_);show-bk (r _ (Pz (Pz (agn (Ba ..)) _) _))
def Ä{Q:cC}(k:(d==kY)=q9)(g:nV s.heap d es ep)(f:Q (.ref s.L) {s with heap:=s.heap.push {cls:=.type "dict_keyiterator",data:=.fields (List.toArray [.ref d,.int 0 0,.int es.size 0,.int ep 0])}}):aO (ba prog w) A (HM (.ref d)) Q E s:=by
 let#[o,aW,c,b]:=g;let a:s.TypeIs (.ref d) "dict":=#[o,aW,c.1]
 show-ae3 a F.slot_dict_iter (nP F.slot_dict_iter a F.entry_dict_iter ?_ (F.args_dict_iter_1 _));unfold Builtin.«dict.__iter__» azg;show-ax (ax (ae1 a ?_));change aO _ _ (pure (cM d)) _ _ s;show-bk ?_;change aO _ _ (OW d >>=_) _ _ s;unfold OW;rw[a4 (by rw[k];show-gZ)];show-ax (bk (ax (Av aW b (ax (ID aW b ?_)))));show-ax (pW ?_);show-bk #[1,"dict_keyiterator",_,#[_,gJ _ rfl,2],F.slot_dict_keyiterator_next.lookup,4];simpa[mU]using f
def uD{a:Type}[DecidableEq a](b:List (a×V))(k:a):List (a×V):=b.filter λp=>decide (p.1≠k)
end
theorem Y0{b d:Type}[DecidableEq b]{k:b}:∀{l:List (b×d)}{j:Nat}{v:d},(l.map (·.1)).Nodup->l[j]?=j3 (k,v)->l.eraseIdx j=l.filter λp=>decide (p.1≠k)
 |[],j,v,_,h=>by simp at h
 |p::r,0,v,aA,h=>by simp only[PY,Qh]at h;subst h;rw[e7,kG]at aA;rw[List.eraseIdx_zero,List.tail_cons,tx];rw[a4 xg];symm;rw[PX];intro q f;let a:q.1≠k:=λz=>aA.1 (bQ.mpr #[q,f,z]);show-cw a
 |p::r,j+1,v,aA,h=>by
  rw[e7,kG]at aA;let c:r[j]?=j3 (k,v):=by simpa using h
  rw[List.eraseIdx_cons_succ,tx,Y0 aA.2 c];let a:p.1≠k:=λz=>aA.1 (by rw[z];show-bQ.mpr #[_,dm c,2]);rw[a' (cw a)]
section
variable{prog:cq}{w:bW}{K:Type}[DecidableEq K]{knd:HeapKind prog w K}{A:ee}{E:cC}{s:aS}
def agF{b:List (K×Addr×Value)}{k:K}{Q:Option pY->aS->Prop}(L:knd.room A)(r:knd.is s.heap k a)(hm:s.heap.DictOfH knd d b)(hz:b.Z<=sizeLine)(V:(∀(j:Nat)(p:Addr×Value),b[j]?≠j3 (k,p))->Q jp {s with toks:=s.toks+knd.draws k})(e:∀(j:Nat)(p:Addr×Value),b[j]?=j3 (k,p)->∀n,n.DictOfH knd d (b.eraseIdx j)->jT d s.heap n->Q (j3 (F_ knd (k,p))) {s with heap:=n,toks:=s.toks+knd.draws k}):
  aO (ba prog w) A (afE d (.ref a)) Q E s:=by
 let#[o,c,B,aW,y,f,g,t,N]:=hm;let hsz:c.size=b.Z:=axW g;unfold afE
 try with_reducible show-nQ ?_
 show-ax (knd.pyHash L r (ax (wpAny_dictFind_heap (s:={s with toks:=s.toks+knd.draws k}) L r aW f g t N (λz=>?_) λj p m=>?_)))
 .exact bk (V z)
 let D:j<b.Z:=(fU.mp m).1;let C:c[j]?=j3 (F_ knd (k,p)):=by
  let q:c.G[j]?=j3 (F_ knd (k,p)):=by rw[g,cR,m];rfl
  simpa using q
 show-ax (Av (s:={s with toks:=s.toks+knd.draws k}) aW f ?_);rw[C];show-ax (wpAny_updateDictKeys (hz:=by lia) (s:={s with toks:=s.toks+knd.draws k}) aW f (bk (e j p m _ #[6,B+1,xT _ aW (Obj.isFreed_of_dict (aiM f _)),y.mapDictKeys _,aiM f _,4,4,4] (Ba ..))))
 .let h:(c.eraseIdxIfInBounds j).toList=c.toList.eraseIdx j:=by let#[l]:=c;simp
  rw[h,g];apply PW;intro i;simp only[List.getElem?_eraseIdx,cR];split<;>rfl
 .intro x u;show-knd.keeps (t x (List.mem_of_mem_eraseIdx u)) aW f (Ba ..)
 show-List.Nodup.sublist ((List.eraseIdx_sublist b j).map _) N
def amb{b:List (K×Addr×Value)}{k:K}{Q:cC}(n:(d==kY)=q9)(i:knd.room A.in1)(L:knd.is s.heap k a)(hm:s.heap.DictOfH knd d b)(y:b.Z<=sizeLine)(l:(∀(j:Nat)(p:Addr×Value),b[j]?≠j3 (k,p))->∀t,Q r {s with toks:=t})(N:∀(j:Nat)(p:Addr×Value),b[j]?=j3 (k,p)->∀c t,c.DictOfH knd d (b.eraseIdx j)->jT d s.heap c->Q p.2 {s with heap:=c,toks:=t}):
  aO (ba prog w) A (call (.builtin "dict.pop") [.ref d,.ref a,r]) Q E s:=by
 let#[o,g,D,aW,V,u,x,C,G]:=id hm;let m:s.TypeIs (.ref d) "dict":=#[o,aW,V.1]
 show-nP F.slot_dict_pop m F.entry_dict_pop ?_ (F.args_dict_pop_3 _ _ _);unfold Builtin.«dict.pop» azh;show-ax (ax (ae1 m ?_));change aO _ _ (pure (d,cM a,j3 r)) _ _ s;show-bk ?_;dsimp only;rw[a4 (by simp[keyPart])];show-ax (Av aW u (ax (bk ?_)));let hsz:g.size=b.Z:=axW x;by_cases f:g.isEmpty=q4
 .rw[a' f];let B:b=[]:=by
   have:g.size=0:=by simpa[Array.isEmpty]using f
   show-χ.mp qI
  show-ax (vJ (ax (bk ?_)));rw[a' (show(jp:Option pY).isNone=q4 from rfl)];show-ax (ayS n (ax (vJ (bk #[1,4]))));show-l (λj p=>by rw[B];simp) s.toks
 rw[a4 f];show-ax (agF i L hm y (λh=>?_) λj p e c q z=>?_)
 .rw[a' (show(jp:Option pY).isNone=q4 from rfl)];show-ax (ayS n (ax (vJ (bk #[1,l h _]))))
 rw[a4 xg];show-ax (Ax (bk #[1,N j p e c _ q z]))
end
section
variable{X:bA}{o e f:Expr}{eS ty kZ:TE}{fP gq:Pos}
def aoG(eS ty kZ:TE):TE:=λg H Q=>eS g H λx l=>∃a,x=.ref a/\EV l a/\ty g l λy m=>kZ g m λz d=>∃c k b,y=.ref b/\d a=j3 (.c3 c)/\d b=j3 (.tup (k.map di))/\Q ((c8 c k).getD z) (upd d a (.c3 (uD c k)))
def alg(cL:X.A.units+1<cLine)(aW:bq X o eS)(he:bq X e ty)(bG:bq X f kZ)(m:M2 X o "pop" fP e f gq):bq X (.Call (.Attribute o "pop" fP) [e,f] [] gq) (aoG eS ty kZ):=by
 intro r s G H Q I h;show-aeQ m.base m.bX m.line Qn PySem.F.slot_dict_pop PySem.F.type_dict_pop (bL (aW r s G H _ I h) λu s1 B=>?_);let#[x,H1,U,bw,a,ex,d,bN]:=B;subst ex;obtain rfl:u=cM a:=bw;let#[t1,dT,_]:=PK U d;show#[t1,dT,4];rw[m.trees];refine I' rfl (I_ (EP (bL (he r s1 G H1 _ U bN) λnw s2 B=>?_)));let#[y,ah,bI,cB,c']:=B;show-EP (bL (bG r s2 G ah _ bI c') λabR s3 B=>?_);let#[z,A,E,D0,g,k,b,dt,D,dW,q]:=B;show-O3 ?_;subst dt;obtain rfl:nw=cM b:=cB;let#[o1,hs,F,n,dd]:=Ŭ E.bu D;let J:F.Z<=sizeLine:=by rwa[<-lU n]
 let oI:g.map (·.1)=F.map (·.1):=by
  have:∀{l:List (List bD×V)}{m:List (List bD×Addr×Value)},KT A l m->l.map (·.1)=m.map (·.1):=λ{l m}R=>by
   induction R with
   |nil=>rfl
   |cons a t i=>rw[e7,e7,i,a.1]
  show-this n
 let T:(g.map (·.1)).Nodup:=by let#[6,6,6,6,P]:=id dd;rwa[oI]
 let C:∀{l:List (List bD×V)}{m:List (List bD×Addr×Value)}{j:Nat}{q:List bD×Addr×Value},KT A l m->m[j]?=j3 q->∃p,l[j]?=j3 p/\p.1=q.1/\RelV p.2 q.2.2:=λ{l m j q}R=>by
  induction R generalizing j with
  |nil=>intro h;simp at h
  |cons a t i=>
   cases j with
   |zero=>intro h;simp at h;subst h;show#[1,a.1,a.2.2]
   |succ j=>intro h;simp at h;simpa using i h
 show-amb (knd:=xw (iY X.prog X.w)) hs (NM cL) (Er E.bu dW) dd J (λbj t=>?_) λj p bg h' t qc sA=>?_
 .let v0:c8 g k=jp:=by
   let r0:=KT.val n k;rw[atKey_none_of_get bj]at r0;cases K:c8 g k with
   |none=>rfl
   |some v=>rw[K]at r0;show-r0.elim
  let MT:uD g k=g:=by
   unfold uD;rw[PX];intro p az;have:(g.any λcx=>decide (cx.1=k))=q9:=by rw[q7,v0];rfl
   let ih:p.1≠k:=λz=>by rw[ahB]at this;show-this p az (cw z)
   show-cw ih
  rw[v0,MT]at q;let cD:upd A a (.c3 g)=A:=by
   funext c;by_cases Z:c=a
   .rw[Z,aQ,D]
   rw[aR Z]
  rw[cD]at q;show#[z,A,E.tok t,D0,q]
 let#[O,T9,d7,aEj]:=C n bg;let P:(F.map (·.1)).Nodup:=oI▸T;let N:=KT.val n k;rw[atKey_of_get P bg]at N;obtain⟨L,K,cA⟩:∃L,c8 g k=j3 L/\RelV L p.2:=by
  cases K:c8 g k with
  |none=>rw[K]at N;show-N.elim
  |some L=>rw[K]at N;show#[L,2,N]
 let ep:uD g k=g.eraseIdx j:=(Y0 T (v:=O.2) (by rw[T9,show O=(k,O.2)from BG d7 rfl])).symm;rw[K,ep]at q;let dH:∀{l:List (List bD×V)}{m:List (List bD×Addr×Value)}(j:Nat),KT A l m->KT A (l.eraseIdx j) (m.eraseIdx j):=λ{l m}j R=>by
  induction R generalizing j with
  |nil=>show-.nil
  |cons a t i=>
   cases j with
   |zero=>show-t
   |succ j=>show-.cons a (i j)
 let#[ob,es,qX,Y,ak,a6,b8,_,dC]:=qc;show#[L,_,Iu (t':=t) (ob:=.c3 (g.eraseIdx j)) E (by rw[D];show-n8) sA #[ob,Y] #[4,hs,F.eraseIdx j,bV.kv (dH j n) λp q w=>#[w.1,4,w.2.2],ob,es,qX,Y,ak,a6,b8,dC],cA,q]
 .exact dQ (List.length_eraseIdx_le ..) o1
 let M:=w.2.1;rw[aR (λy=>by rw[y,D]at M;cases M)];show-M
def aoH(eS ty kZ:TE):TE:=λd H Q=>eS d H λx g=>∃a,x=.ref a/\EV g a/\ty d g λy l=>kZ d l λz c=>∃b k,y=di k/\c a=j3 (.cZ b)/\b.Z<sizeLine/\
 (∀v,c8 b k=j3 v->Q v c)/\(c8 b k=jp->Q z (upd c a (.cZ (gh b k z))))
def alh(aW:bq X o eS)(he:bq X e ty)(D:bq X f kZ)(m:M2 X o "setdefault" fP e f gq):bq X (.Call (.Attribute o "setdefault" fP) [e,f] [] gq) (aoH eS ty kZ):=by
 intro c s n H Q I h;show-aeQ m.base m.bX m.line Qn aiY PySem.F.type_dict_setdefault (bL (aW c s n H _ I h) λu s1 g=>?_);let#[x,i,A,M,a,U,d,F]:=g;subst U;obtain rfl:u=cM a:=M;let#[t1,R,_]:=PK A d;show#[t1,R,4];rw[m.trees];refine I' rfl (I_ (EP (bL (he c s1 n i _ A F) λnw s2 g=>?_)));let#[y,B,E,P,O]:=g;show-EP (bL (D c s2 n B _ E O) λp s3 g=>?_);let#[z,j,r,t,b,k,T,w,lk,q,Z]:=g;show-O3 ?_;subst T;let#[o1,L,V,l,K]:=JO r.bu w;let g:V.Z<=sizeLine:=by rwa[<-l.Z]
 let r0:=l.val k;show-abj aiY K.typeIs PySem.F.entry_dict_setdefault (PySem.F.args_dict_setdefault_3 _ _ _) (kt_meets_setdefault (iY X.prog X.w) a (AG P) L p) #[V,K,g,λv G=>?_,λhn Y N sA=>?_]
 .rw[G]at r0;cases ev:c8 b k with
  |none=>rw[ev]at r0;show-r0.elim
  |some v1=>
   rw[ev]at r0;show#[v1,j,r.tok _,r0,q v1 ev]
 let v0:c8 b k=jp:=by
  rw[hn]at r0;cases ev:c8 b k with
  |none=>rfl
  |some v=>rw[ev]at r0;show-r0.elim
 let C:(gh b k z).Z<=sizeLine:=by have:=MY b k z;lia
 let wU:∃q,Y.get? a=j3 q:=let⟨q,_,_,J,_⟩:=N;#[q,J]
 show#[z,_,Iu (ob:=.cZ (gh b k z)) r (by rw[w];show-n8) sA wU (PI C L (l.put k t) N),t,Z v0]
end
section
variable{prog:cq}{w:bW}{A:ee}{E:cC}{s:aS}{d:Addr}{ep:Nat}{es:Array pY}
def nV.lt{h:Heap}(x:nV h d es ep):d<h.Y:=(let⟨_,aW,_⟩:=x;dE aW)
def nV.at'{h a:Heap}(x:nV h d es ep)(k:∀o,h.get? d=j3 o->a.get? d=j3 o):nV a d es ep:=(let⟨o,aW,r⟩:=x;#[o,k o aW,r])
theorem ahh(n:A.handled=jp)(I:Addr)(r:d≠I):Walks prog w A I [I,d] [I] es.size (λi v=>∃e,es[i]?=j3 e/\v=e.key) (λi h=>h.IsKeyIter I d i es.size ep/\nV h d es ep)where
 sub:=λb a=>by simp at a;simp[a]
 frame:=λ_ _ _ st g=>#[st.1.at λo e=>g I xg o e,st.2.at' λo e=>g d xg o e]
 item:=λi s Q E l st c=>by refine ř st.1 st.2 l λf p k=>c _ f s.toks #[es[i],by simp[l],2] #[p,st.2.at' λo e=>(k.2 d r).trans e] λb o a e=>(k.2 b (λz=>a (by simp[z]))).trans e
 done:=λs Q E st c=>Ê n st.1 st.2 (b7 _) λf m=>c f s.toks λb o a e=>m b o (λz=>a (by simp[z])) e
 self:=λ_ _ _ _ st c=>wpAny_pyIter_keyiter st.1 c
theorem ali(lo:(d==kY)=q9):KdlSrc prog w "dict" d d es.size (λi v=>∃e,es[i]?=j3 e/\v=e.key) (λh=>nV h d es ep)where
 type:=λ_ hm=>let⟨o,aW,a,_⟩:=hm;#[o,aW,a.1]
 there:=λ_ hm=>#[hm.lt,hm.lt]
 keep:=λ_ _ hm c=>hm.at' λo e=>c d (.inl rfl) o e
 notList:=by decide
 notTuple:=by decide
 hint:=λ_ _ _ _ hm b=>kdl_hint_dict (let⟨o,aW,a,_⟩:=hm;#[o,aW,a.1]) b
 iter:=λ_ s f hm=>#[6,(λ_ _ b=>Ä lo hm b),ahh f _ (e8 hm.lt),#[#[_,gJ _ rfl,2,2],hm.at' λo e=>dO _ e]]
def ahi{a:dR}{κ:BZ}{lt:jW}{Q:cC}(lo:(d==kY)=q9)(M:A.handled=jp)(hm:nV s.heap d es ep)(V:a=es.toList.map (·.key))(R:a.Z<64)(G:2<=a.Z->∀k:aS,pS s.heap k.Q->∀Q:BZ->aS->Prop,Q κ k->aO (ba prog w) A.in1.in1 (UO a.toArray) Q (λ_ _=>False) k)(y:2<=a.Z->∀k:aS,pS s.heap k.Q->∀i j C,i<a.Z->j<a.Z->C (lt i j) k->G_ prog w A.in1.in1 κ a i j C k)(h:∀f D g t c,pS s.heap f->f.Y<=D->pS f g->g.get? D=j3 (kC "list" (Bm (hY fW lt a)) c)->Q (.ref D) {s with heap:=g,toks:=t}):
  aO (ba prog w) A (call (.builtin "sorted") ([.ref d]:dR)) Q E s:=by
 let p:a.Z<=sizeLine:=by rw[vA];lia
 let P:es.size=a.Z:=by rw[V,aM,I1]
 show-afS kind_sorted plain_sorted entry_sorted (args_sorted1 (.ref d)) ?_;unfold Builtin.«sorted»;show-ax (m:=checkCount "sorted" 1 1 _) (bk ?_);show-ax (kdu_collect (A:=A.in1) (ali (ep:=ep) (es:=es) lo) M hm (by rwa[P]) λf H l L r=>?_);let F:l.G=a:=by
  apply PW;intro j;rw[V,cR];by_cases J:j<es.size
  .let n:j<l.size:=by rwa[r.1]
   let#[e,B,z]:=r.2 j l[j] (by simp[n]);rw[OO,OO,B,ON n];show-fe j3 z
  rw[OO,OO,I0 (by rw[r.1];lia),I0 qI];rfl
 rw[F];show-ax (aeZ ?_ p);let bR:(f.push (kC "list" a.toArray 0)).get? f.Y=j3 (kC "list" a.toArray 0):=gJ _ rfl;let O:pS s.heap (f.push (kC "list" a.toArray 0)):=λb o q=>dO _ (L b o q);let N:∀g,vX f.objs.size (f.push (kC "list" a.toArray 0)) g->pS s.heap g:=λg x b o q=>x b o (e8 (dE (L b o q))) (O b o q);let u:∀g,vX f.objs.size (f.push (kC "list" a.toArray 0)) g->pS f g:=λg x b o q=>x b o (e8 (dE q)) (dO _ q);show-ax (nQ (nP ax3 #[_,bR,2] atJ ?_ (as5 _)));show-É (s:={s with heap:=f.push (kC "list" a.toArray 0),toks:=H}) (κ:=κ) (lt:=lt) bR R (λK k x=>G K k (N _ x)) (λK k x=>y K k (N _ x)) λg c x I=>?_;show#[1,bk #[1,h f _ g _ c L (b7 _) (u _ x) I]]
end
section
variable{prog:cq}{w:bW}{A:ee}{E:cC}{s:aS}
def amc{c f d g:Int}{Q:cC}(e:o5 s.heap a (List.toArray [.int c t1,.int f o]))(j:o5 s.heap b (List.toArray [.int d q,.int g u]))(i:A.units<cLine)(h:Q (.bool (if c=d then decide (f<=g)else decide (c<=d))) s):aO (ba prog w) A (jl .LtE (.ref a) (.ref b)) Q E s:=by
 let#[r,k,p,B,n]:=e;let#[y,N,m,C,x]:=j;let V:s.TypeIs (.ref a) "tuple":=#[r,k,p]
 let L:s.TypeIs (.ref b) "tuple":=#[y,N,m]
 show aO _ _ (richCompare .LtE (.ref a) (.ref b)) _ _ _;show-wpAny_richCompare_same_room (op:=.LtE) V L F.slot_tuple_le (nP F.slot_tuple_le V F.entry_tuple_le ?_ (F.args_tuple_le_2 _ _)) i;show aO _ _ (G6 (.ref b) (.type "tuple") >>=_) _ _ s;show-ax (Xh L isSubtype_tuple_tuple ?_);simp only[Yl,AP,if_false];show-ax (ayX k n ?_);show-ax (ayX N x ?_);show-ax ?_;simp only[List.zip_cons_cons,List.zip_nil_left,JH,σ];show-ax (ax (aeT ?_));by_cases l:c=d
 .rw[a' l]at h;let b1:(c==d)=q4:=by simp[l]
  rw[b1];simp only[Yl,AP,if_false];show-bk (ax (ax (aeT ?_)));by_cases K:f=g
  .let t:(f==g)=q4:=by simp[K]
   rw[t];simp only[Yl,AP,if_false];show-bk (bk ?_);show-bk #[1,(λz=>nomatch z),4];rwa[cw qI]at h
  let t:(f==g)=q9:=by simp[K]
  rw[t];simp only[afC,if_true];show-ax (vJ (ax ?_));show aO _ _ (jl .LtE (qS f o) (qS g u)) _ _ _;show-le_int (ax (bk (bk (bk (bk #[1,(λz=>nomatch z),h])))))
 rw[a4 l]at h;let b1:(c==d)=q9:=by simp[l]
 rw[b1];simp only[afC,if_true];show-ax (vJ (ax ?_));show aO _ _ (jl .LtE (qS c t1) (qS d q)) _ _ _;show-le_int (ax (bk (bk (bk (bk #[1,(λz=>nomatch z),h])))))
end
section
variable{X:bA}
def aoI(w:X.A.units<cLine):g5 X (jl .LtE) (λx y H Q=>∃a b f k g l,x=.ref a/\y=.ref b/\cj X.K H a [.int f,.int k]/\cj X.K H b [.int g,.int l]/\Q (.bo (if f=g then decide (k<=l)else decide (f<=g))) H):=by
 intro m s L H x y v u Q I r t h;let#[a,b,f,k,g,l,2,2,n,p,q]:=h;cases r;cases t;let#[N,c,K,_]:=I.tuple n;let#[V,d,A,_]:=I.tuple p;cases c with
 |cons o c=>
  cases c with
  |cons j c=>
   cases c;cases d with
   |cons e d=>
    cases d with
    |cons i d=>
     cases d;let#[1]:=o;let#[1]:=j;let#[1]:=e;let#[1]:=i;show-amc K A w (xm I q rfl)
end
end b4
namespace dP
open PySem aq b4 cm
abbrev hx:=Int×Nat
abbrev pa:= List (hx×List Nat)
def qy:cm.fV:=#[0,0,0,0]
def rA(a:bb)(ds:b0)(r:Nat):Str:=S (a.getD (ds.getD r qy).a [])
def ru(a:bb)(ds:b0)(r:Nat):Str:=S (a.getD (ds.getD r qy).b [])
def nG(ds:b0)(r:Nat):Int:=(ds.getD r qy).t
def kX(ds:b0)(r:Nat):Int:=(ds.getD r qy).m
def stepK(a:bb)(ds:b0)(k:hx):Step:=#[k.1,j3 k.2,ru a ds k.2,k.1+nG ds k.2]
def lG(st:Step)(c:bB)(a:dF):List (List Step):=a.mapIdx λi b=>if i∈c then b++[st]else b
def DH(st:Step)(b:bB)(a:dF):(lG st b a).Z=a.Z:=by unfold lG;rw[List.length_mapIdx]
def t2(st:Step)(b:bB)(a:dF)(i:Nat):(lG st b a)[i]?=(a[i]?).map λc=>if i∈b then c++[st]else c:=by unfold lG;rw[List.getElem?_mapIdx]
def ajv(st:Step)(a:dF):lG st [] a=a:=by apply PW;intro i;rw[t2];simp
def ahj(st:Step){b:bB}{n:Nat}(h:n∉b){a:dF}{d:List Step}(e:a[n]?=j3 d):lG st (b++[n]) a=(lG st b a).set n (d++[st]):=by
 apply PW;intro i;rw[t2,List.getElem?_set,t2,DH];by_cases c:n=i
 .subst c;let f:=(fU.mp e).1;rw[a' rfl,a' f,e];simp
 rw[a4 c];have:(i∈b++[n])↔i∈b:=by rw[gU,e4];show#[λz=>z.elim id λw=>bt w.symm c,.inl]
 simp only[this]
def mask(H:ag)(a:bS):ag:=λb=>if b∈a then jp else H b
def nq{H:ag}{a:bS}{b:Addr}(e:H b=j3 o)(n:b∉a):mask H a b=j3 o:=by unfold mask;rwa[a4 n]
def Ox{a:bS}{b:Addr}(h:b∈a):mask H a b=jp:=(a' h)
theorem Xw(H:ag)(a:bS):aD (mask H a) H:=λb o e=>by
 unfold mask at e;split at e
 .cases e
 show-e
def lH(H:ag)(a:Addr)(b:hx×List Nat):Prop:=∃c,H a=j3 (.tup [.int b.1.1,.int b.1.2,.ref c])/\H c=j3 (.tup (b.2.map λn:Nat=>V.int n))
def lH.same{b:hx×List Nat}(h:lH H a b)(d:aD H H'):lH H' a b:=(let⟨c,f,g⟩:=h;#[c,d _ _ f,d _ _ g])
structure qo(C:Addr)(H:ag)(x n g st:Addr)(ay:bE)(ls:bS):Prop where
 ins:∃al,H x=j3 (.ins C al (Jo n g st))
 goals:H g=j3 (.lst (ay.map V.str))
 steps:H st=j3 (.lst (aT ls))
theorem qo.same{st:Addr}(h:qo C H x n g st i ls)(a:aD H H'):qo C H' x n g st i ls:=
 let⟨b,e⟩:=h.ins;#[#[b,a _ _ e],a _ _ h.goals,a _ _ h.steps]
def qo.at_{st:Addr}(h:qo C H x n g st j ls)(e:bV (hU H) ls i):WalkAt C H x n g st j ls i:=(#[h.ins,h.goals,h.steps,e])
def hU.same{d:List Step}(h:hU H l d)(c:aD H H'):hU H' l d:=(let⟨f,a,b⟩:=h;#[f,c _ _ a,b.same c])
def NP(h:bV (hU H) ls i)(a:aD H H'):bV (hU H') ls i:=(bV.kv h λ_ _ e=>e.same a)
theorem WalkAt.same{st:Addr}(h:WalkAt C H x n g st j ls i)(a:aD H H'):WalkAt C H' x n g st j ls i:=
 let⟨b,e⟩:=h.ins;#[#[b,a _ _ e],a _ _ h.goals,a _ _ h.steps,NP h.each a]
theorem ZM{w:List Step}(f:hU H' l w)(d:∀k K,k≠l->hU H k K->hU H' k K):∀{c:bS}{b:dF}{n:Nat},bV (hU H) c b->c.Nodup->c[n]?=j3 l->bV (hU H') c (b.set n w)
 |_,_,n,.nil,_,e=>by simp at e
 |a::c,s0::b,0,.cons r t,aA,e=>by
  simp only[PY,Qh]at e;subst e;rw[kG]at aA;show-.cons f ?_;have:∀{g:bS}{m:dF},bV (hU H) g m->a∉g->bV (hU H') g m:=λ{g m}p=>by
   induction p with
   |nil=>exactλ_=>.nil
   |cons r t i=>exactλh=>.cons (d _ _ (λz=>h (by rw[z];show-.head _)) r) (i λz=>h (.tail _ z))
  show-this t aA.1
 |a::c,s0::b,n+1,.cons r t,aA,e=>by
  rw[kG]at aA;let A:c[n]?=j3 l:=by simpa using e
  show-.cons (d _ _ (λz=>aA.1 (by rw[z];show-dm A)) r) (ZM f d t aA.2 A)
section
variable{P:cq}{w:bW}{K:aL}{mg:b5}{base:Heap}
inductive Pa(C:Addr)(vs:aV)(H:ag)(Q:aX)(fq:bM):Prop where
 |mk(x bp bl:Addr)(xs ys:aV)(k:Int)(v:aq.V)(_:vs=[.ref x,.int k])(_:iC C H x bp bl xs ys)(_:0<=k)(_:k<ys.Z)(_:aq.hp ys k=j3 v)(_:Q v H)
def alj{f:Addr}(F:cp K "road" "Net.road" Ap f fd)(B:fc mg)(a:uB K C):-aH a9 1 f fd eA (Pa C):=by
 show-F.ok Æ (λ_ A _ s H t Q E p h=>?_);let#[x,r,d,L,N,k,v,2,n,m,g,l,q]:=h;let#[b,c]:=n.ins;show#[_,(a7 (er (j2 (DQ qu xD a8 (ae 1) (dp hI B.len g_ (aj (eX (ae 0)) aw)))) (a_ zN) eB)
  (a_ (cc (cn fG (eX (ae 0)) (ae 1))))),4]
 ac_rfl
 show#[1,3,1,4];show-d1 (cw m) #[1,x,C,b,_,1,c,a.cl,a.hh,2,d,1,.inl (aI.of n.sZ),3,1,4];show-AQ g ?_;show#[1,x,C,b,_,1,c,a.cl,a.hh,7,d,_,3,aI.of n.sZ,l,q]
inductive PG(C CN:Addr)(vs:aV)(H:ag)(Q:aX)(fq:bM):Prop where
 |mk(h3:ag)(x n g st bp bl hT:Addr)(ay:bE)(ls rs:bS)(sss:dF)(hs:bb)(ds:b0)(b:hx×List Nat)(_:vs=[.ref x,.ref hT])(_:aD h3 H)(_:qo C h3 x n g st ay ls)(_:bV (hU H) ls sss)(_:ls.Nodup)(_:(∀l∈ls,h3 l=jp))(_:iC CN h3 n bp bl (c1 hs) (aT rs))(_:gG h3 hs rs ds)(_:lH h3 hT b)(_:b.1.2<ds.Z)(_:b.2.Nodup)(_:(∀i∈b.2,i<sss.Z))(_:(∀ss∈sss,ss.Z<=100))(_:∀H',aD h3 H'->bV (hU H') ls (lG (stepK hs ds b.1) b.2 sss)->Q .cf H')
abbrev EY:Stmt:=ij (top 34) 2
def PH:cJ ["self","bag","road","number"] yo (b_ EY):=({})
inductive arf(h3:ag)(x hT r:Addr)(ls:bS)(hs:bb)(ds:b0)(b:hx×List Nat)(sss:dF)(j:Nat)(aa:aq.St)(cY:ag):Prop where
 |mk(hk:ji)(_:aa=[j3 (.ref x),j3 (.ref hT),j3 (.ref r),hk])(_:aD h3 cY)(_:bV (hU cY) ls (lG (stepK hs ds b.1) (b.2.take j) sss))
def amd{f:Addr}(F:cp K "send" "Walk.send" EY f fd)(O:rf K C)(eZ:fw K X)(nd:dn K X "road" "Net.road" Ap eA f1 cW)(HG:-aH a9 1 f1 cW eA (Pa X)):
  -aH a9 2 f fd yo (PG C X):=by
 show-F.ok PH (λ_ A _ s H vs Q E ao h=>?_);let#[h3,x,n,g,st,bp,bl,u,ay,ls,rs,L,p,ds,b,2,k,W,J,aA,fr,N,R,auT,sz,G,b6,bX,q]:=h;let#[al,ar]:=W.ins;let#[fR,hn]:=N.ins;let#[c,j4,i1]:=auT;let eH:=R.len;show#[_,(a7 (cE 2 PH.aA (gp (eX (ae 0)) eZ nd.eO HG ao.mono nd.bd .nil b9 (aj (cn ey (ae 1) a8) aw)))
  (a_ (kq kH rfl (IV (cn ey (ae 1) a8)) (dV 3 PH.aA)
   (a_ (gL (i3 o' p7 p8 oo (cn fG (eX (ae 0)) (ae 3)) (aj (h_ (aj (cn ey (ae 1) a8) (aj (cn ey (ae 1) a8) (aj (cn ey (ae 2) a8) (aj (br h9 (cn ey (ae 1) a8) (cn ey (ae 2) a8)) aw))))) aw))))))),4]
 ac_rfl
 obtain⟨r,dH⟩:∃r,rs[b.1.2]?=j3 r:=#[_,cQ qI]
 let#[d,cG,_,hd]:=R.get dH;let cD:ds.getD b.1.2 qy=d:=kV cG;show#[1,x,C,al,_,1,k _ _ ar,O.cl,O.nn,2,n,fR,1,k _ _ hn,7,u,_,3,cj.of (k _ _ j4),2,n,bp,bl,6,_,1,N.same k,qI,(by have:=eW rs;lia),(jG (by unfold aT;rw[cR,dH];rfl)),4];show#[1,u,_,3,cj.of (k _ _ j4),2,c,2,4];show#[#[_,cj.of (k _ _ i1)],4];let Sk:kA p d=[.str (rA p ds b.1.2),.str (ru p ds b.1.2),.int (nG ds b.1.2),.int (kX ds b.1.2)]:=by unfold kA rA ru nG kX;rw[cD]
 rw[Sk]at hd;refine Χ (K:=K) (a:=c) (xs:=b.2.map λn:Nat=>V.int n) (arf h3 x u r ls p ds b L)
  #[jp,2,k,by rwa[JL,ajv]] (λj aa cY _⟨_,_,h,_⟩=>cj.of (h _ _ i1)) ?_ ?_
 .rintro j z aa cY fy ⟨hk,rfl,m,e⟩;rw[cR]at fy;let#[i,M,2]:=e6.mp fy;let hi:=b6 i (dm M);obtain⟨U,es⟩:∃U,L[i]?=j3 U:=#[_,cQ hi]
  let I:i∉b.2.take j:=λz=>by
   let bg:=(fU.mp M).1;let aC:=Ζ j b.2;rw[PV bg]at aC;rw[<-aC,JK]at G;let b2:b.2[j]=i:=by rw[cQ bg]at M;show-gk M
   exact G.2.2 i z i (by rw[b2];show-.head _) rfl
  let ga:(lG (stepK p ds b.1) (b.2.take j) L)[i]?=j3 U:=by rw[t2,es];simp[I]
  let ln:=lU e;obtain⟨l,T⟩:∃l,ls[i]?=j3 l:=#[_,cQ (by rw[DH]at ln;lia)]
  let#[aEs,B,ts,Z,cN]:=bV.get e T;rw[ga]at B;cases B;let Y:=cj.of (K:=K) (m _ _ j4);let D:=cj.of (K:=K) (m _ _ hd);let dv:=cN.len;rw[aM]at dv;let fs:=bX U (dm es);let eQ:(aT ts).Z<sizeLine:=el (by rw[eW];lia);show#[1,x,C,al,_,1,m _ _ ar,O.cl,O.ns,7,st,_,3,aI.of (m _ _ W.steps),(show aq.hp (aT ls) (i:Int)=j3 (.ref l)from jG (by unfold aT;rw[cR,T];rfl)),.inl #[2,_,aI.of Z],4];show#[1,u,_,3,Y,7,u,_,3,Y,7,r,_,3,D,7,u,_,3,Y,7,r,_,3,D,2,3,sz_,λt fl=>?_];let y:=bT (o:=.tup [V.int b.1.1,V.int b.1.2,V.str (ru p ds b.1.2),V.int (b.1.1+nG ds b.1.2)]) fl;let ig:=y _ _ Z;show#[l,3,ig,eQ,1,4,4]
  .exact hq (fr l (dm T)) (m.trans y)
  let aP:b.2.take (j+1)=b.2.take j++[i]:=by rw[p5,M];rfl
  rw[aP,ahj _ I es];show-ZM ?_ (λpE NB nl h=>?_) e aA T
  .show#[ts++[t],by rw[aQ];unfold aT;rw[eb];rfl,4];rw[eb];show-Paired.snoc ?_ ((cN.same y).upd ig (by intro d z;cases z));show upd _ l _ t=j3 (.tup (H_ (stepK p ds b.1)));rw[aR (dj Z fl).symm,aQ];rfl
  let#[jb,ai,ak]:=h;show#[jb,by rw[aR nl];show-y _ _ ai,(ak.same y).upd ig (by intro d z;cases z)]
 rintro aa cY ⟨hk,rfl,m,e⟩;show-q cY m ?_;rwa[aM,n1]at e
abbrev JP:Stmt:=ij (top 34) 3
def acl:cJ eA eA (b_ JP):=({})
def ame{f:Addr}(F:cp K "goal" "Walk.goal" JP f fd)(a:rf K C):-aH a9 1 f fd eA (Ļ C):=by
 show-F.ok acl (λ_ A _ s H t Q E m h=>?_);let#[x,n,g,st,p,r,l,k,y,2,W,d,q]:=h;let#[b,c]:=W.ins;show#[_,(a_ (cc (cn fG (eX (ae 0)) (ae 1)))),4]
 ac_rfl
 show#[1,x,C,b,_,1,c,a.cl,a.pI,7,g,_,3,aI.of W.goals,jG (by rw[cR,d];rfl),q]
end
def amf{wi:eV}{w:TE}{c:aq.St}{g:ag}{Q:aX}{J:fF}{d:aV}(P:∀R:fF->ag->Prop,R J g->wi h H R)(M:hX cs h=jp::c)(T:p' J g d)(s:d.Z<sizeLine)(F:Nat->aq.V->ag->Prop)(st:∀i v a N,aD a N->F i v a->F i v N)(z:∀i v a D f X,a D=j3 (.lst f)->F i v a->F i v (upd a D (.lst X)))(A:∀(i:Nat)(x:aq.V)(a:ag)(R:aX),d[i]?=j3 x->aD g a->(∀v k,aD a k->F i v k->R v k)->w (j3 x::c) a R)(K:∀(D:Addr)(H':ag)(L:aV),g D=jp->H' D=j3 (.lst L)->L.Z=d.Z->(∀i v,L[i]?=j3 v->F i v H')->aD g H'->Q (.ref D) H'):kD wi cs (hW 0) pR w h H Q:=by
 show-P _ λD bR=>?_;show#[λi m f V H'=>m=d.Z-i/\i<=d.Z/\(f.Z=i/\∀j v,f[j]?=j3 v->F j v H')/\(∃o,V=o::c)/\aD g H'/\H' D=j3 (.lst f),#[d.Z,by simp,eu _,#[2,λj v e=>by simp at e],#[jp,by rw[M]],λb o e=>?_,aQ],4]
 .rwa[aR (dj e bR)]
 rintro i m f V H' ⟨rfl,Y,⟨r,q⟩,⟨o,rfl⟩,l,p⟩;let#[E,O,U]:=T H' l;show#[p,p6 qI s,4];by_cases t:i<d.Z
 .refine .inr #[O i t,λx a y=>?_];let#[2,G]:=U i x a t y;show w (j3 x::c) a _;show-A i x a _ G l λv k n B=>#[n _ _ p,d.Z-(i+1),9,2,t,#[by rw[c0,r];rfl,λj u e=>?_],#[1],λb ob e=>?_,aQ]
  .refine z j u k D f _ (n _ _ p) ?_;by_cases C:j<f.Z
   .rw[JI C]at e;show-st j u _ _ n (q j u e)
   rw[τ qI]at e;let I:j=i:=by
    by_cases Z:j-f.Z=0
    .lia
    rw[PZ (by simp;lia)]at e;cases e
   subst I;rw[r,aiE]at e;cases e;show-B
  rw[aR (dj e bR)];show-n _ _ (l _ _ e)
 let e:i=d.Z:=by lia
 subst e;show-.inl #[E,K D H' f bR p r q l]
end dP
namespace cm
def mj(c:Int):Int:=c*1099087573%10000000000037
def pT(n:Nat)(c:Int):Int:=mj c%n
def t_(n:Nat)(c:Int):Int:=(pT n c+1+mj c/n%((n:Int)-1))%n
def vG(c:Int):Int:=if mj c/27000%5=0 then 1+mj c/135000%10 ^ 9 else 1+mj c/9000%3
def Mu(n:Nat)(c:Int):fV:=#[(pT n c).toNat,(t_ n c).toNat,1+mj c/1000%9,vG c]
def aoJ{n:Nat}(h:1<n)(c:Int):(Mu n c).Ok n:=by
 let b1:0<=pT n c:=jA _ qI;let t:pT n c<n:=k_ _ qI;let p:0<=t_ n c:=jA _ qI;let l:t_ n c<n:=k_ _ qI;let k:0<=mj c/n%((n:Int)-1):=jA _ qI;let g:mj c/n%((n:Int)-1)<(n:Int)-1:=k_ _ qI;let w:pT n c≠t_ n c:=by
  intro z;let b:t_ n c=(pT n c+1+mj c/n%((n:Int)-1))%n:=rfl;generalize mj c/n%((n:Int)-1)=x at k g b;by_cases d:pT n c+1+x<n
  .rw[Bb qI d]at b
   lia
  let f:(pT n c+1+x)%(n:Int)=(pT n c+1+x-n)%(n:Int):=by rw[ZK]
  rw[f,Bb qI qI]at b
  lia
 let A:0<=mj c/1000%9:=jA _ x8;let r:mj c/1000%9<9:=k_ _ x8;let m:1<=vG c/\vG c<=1000000000:=by
  unfold vG;split
  .let a:(10:Int) ^ 9=1000000000:=by decide
   rw[a]
   lia
  lia
 show#[by show(pT n c).toNat < n;lia,by show(t_ n c).toNat < n;lia,by show(pT n c).toNat≠(t_ n c).toNat;lia,by show 1<=1+_/\1+_<=9;lia,m]
end cm
namespace dP
open PySem aq b4 cm
inductive ű(vs:aV)(H:ag)(Q:aX)(fq:bM):Prop where
 |mk(c:Int)(a:Addr)(hs:bb)(_:vs=[.int c,.ref a])(_:H a=j3 (.lst (c1 hs)))(_:2<=hs.Z)(_:hs.Z<=12)(_:∀r,H r=jp->Q (.ref r) (upd H r (.tup (kA hs (Mu hs.length c)))))
def Pb{t:fo}{D:Ends}(P:Ends->Prop)(b:P D)(c:∀a,P a->t a e H):t D e H:=(c D b)
section
variable{P:cq}{w:bW}{K:aL}{mg:b5}{base:Heap}
abbrev KA:Stmt:=top 124
abbrev arh:List Str:=["_law_cell","_law_names","_law_n","_law_many","_law_first","_law_last","_law_room"]
def xJ:cJ arh yj (b_ KA):=({})
def aoK{f:Addr}(F:cp K "_law_road" "_law_road" KA f fd)(B:fc mg):-aH a9 1 f fd yj ű:=by
 show-F.ok xJ (λ_ A _ s H j Q E i h=>?_);let#[c,a,b,2,k,e,N,q]:=h;show#[_,(a7 (cE 2 xJ.aA (br ha (br vx (ae 0) a8) a8))
  (a7 (cE 3 xJ.aA (dp hI B.len g_ (aj (ae 1) aw)))
  (a7 (cE 4 xJ.aA (br ha (ae 2) (ae 3)))
  (a7 (cE 5 xJ.aA (br ha (br h9 (br h9 (ae 4) a8) (br ha (br nk (ae 2) (ae 3)) (br Ae (ae 3) a8))) (ae 3)))
  (a7 (cE 6 xJ.aA (br h9 a8 (br ha (br nk (ae 2) a8) a8)))
  (a7 (er (fQ nB (br ha (br nk (ae 2) a8) a8) a8 (eK _)) (a_ (cE 6 xJ.aA (br h9 a8 (br ha (br nk (ae 2) a8) (br ğ a8 a8))))) eB)
  (a_ (cc (h_ (aj (cn fG (ae 1) (ae 4)) (aj (cn fG (ae 1) (ae 5)) (aj (br h9 a8 (br ha (br nk (ae 2) a8) a8)) (aj (ae 6) aw))))))))))))),4]
 ac_rfl
 let r:=xe b;let b1:0<=pT b.length c:=jA _ qI;let L:pT b.length c<b.Z:=k_ _ qI;let p:0<=t_ b.length c:=jA _ qI;let n:t_ b.length c<b.Z:=k_ _ qI;show#[1,3,.inr #[8,8],3,(by show(0:Int)<10000000000037;decide),4];show#[1,a,1,.inl (aI.of k),4];rw[r];show#[5,3,(by show(0:Int)<(b.Z:Int);lia),4];show#[1,3,5,3,#[by show(0:Int)<(b.Z:Int);lia,by show(b.Z:Int)<1073741824;lia],1,3,3,(by show(0:Int)<(b.Z:Int)-1;lia),3,1,3,(by show(0:Int)<(b.Z:Int);lia),4];show#[1,3,#[8,8],3,(by show(0:Int)<3;decide),3,4];dsimp only[hW,jQ];show-Pb (t:=x3 _ _ _) (λm=>m.cX [j3 (.int c),j3 (.ref a),j3 (.int (mj c)),j3 (.int b.Z),j3 (.int (pT b.length c)),j3 (.int (t_ b.length c)),j3 (.int (vG c))] H) ?_ λm d=>?_
 .show#[5,a,_,3,aI.of k,Jl b1 L,5,a,_,3,aI.of k,Jl p n,1,3,#[8,8],3,(by show(0:Int)<9;decide),3,1,sz_,q]
 show#[1,3,#[8,8],3,(by show(0:Int)<5;decide),7,4];by_cases g:mj c/27000%5=0
 .refine d1 (by show decide (V.int (mj c/27000%5)=V.int 0)=q4;rw[g];decide) ?_;show#[1,3,#[8,8],3,#[8,8,8],3,(by show(0:Int)<10 ^ (9:Int).toNat;decide),3,4];let l:vG c=1+mj c/135000%10 ^ (9:Int).toNat:=by unfold vG;rw[a' g];rfl
  rwa[l]at d
 show-eM (by show decide (V.int (mj c/27000%5)=V.int 0)=q9;show-c9 λz=>g (V.int.inj z)) ?_;let l:vG c=1+mj c/9000%3:=by unfold vG;rw[a4 g]
 rwa[l]at d
def Oj(i j:Int):decide (V.int i=V.int j)=decide (i=j):=by
 by_cases h:i=j
 .rw[cw h,cw (fe V.int h)]
 rw[c9 h,c9 λz=>h (V.int.inj z)]
def FK(n:Int):PyData->Bool
 |.tuple ds=>decide ((ds.Z:Int)=n)
 |_=>q9
inductive TupAt(H:ag)(v:aq.V)(d:PyData):Prop where
 |mk(a:Addr)(xs:aV)(ds:gy)(_:v=.ref a)(_:d=.tuple ds)(_:H a=j3 (.tup xs))(_:xs.Z<=100)(_:gn H xs ds)
def Jj{d:PyData}(h:cO H v d)(t:isTup d=q4):TupAt H v d:=by
 cases h with
 |tup x y z=>show#[_,3,x,y,z]
 |_=>cases t
inductive ari(H:ag)(xs:aV)(e1 gc fu:PyData):Prop where
 |mk(v0 v1 v2:aq.V)(_:xs=[v0,v1,v2])(_:cO H v0 e1)(_:cO H v1 gc)(_:cO H v2 fu)
def Rm{e1 f d:PyData}(h:gn H xs [e1,f,d]):ari H xs e1 f d:=by
 cases h with
 |cons a h=>
  cases h with
  |cons b h=>
   cases h with
   |cons c h=>
    cases h;show#[6,1,a,b,c]
inductive arj(H:ag)(v:aq.V)(d:PyData):Prop where
 |mk(a:Addr)(v0 v1 v2:aq.V)(e1 gc fu:PyData)(_:v=.ref a)(_:d=.tuple [e1,gc,fu])(_:H a=j3 (.tup [v0,v1,v2]))(_:cO H v0 e1)(_:cO H v1 gc)(_:cO H v2 fu)
def æ{d:PyData}(h:cO H v d)(t:isTup d=q4)(l:∀ds,d=.tuple ds->ds.Z=3):arj H v d:=by
 let#[a,r,ds,2,2,c,_,b]:=Jj h t;let l:=l _ rfl
 match ds,l,b with
 |[e1,i,e],_,b=>
  let#[m,n,p,2,g,k,f]:=Rm b;show#[a,m,n,p,e1,i,e,2,2,c,g,k,f]
def KB{d:PyData}(h:FK 3 d=q4):isTup d=q4/\∀ds,d=.tuple ds->ds.Z=3:=by
 cases d with
 |tuple ds=>
  show#[2,λa e=>?_];cases e;let e:FK 3 (.tuple ds)=decide ((ds.Z:Int)=3):=rfl;rw[e,decide_eq_true_eq]at h;show-agA h
 |_=>cases h
def ç{f:PyData->Bool}(a:∀ds,ds.Z≠3->f (.tuple ds)=q9)(b:∀d,isTup d=q9->f d=q9){d:PyData}(h:FK 3 d=q9):f d=q9:=by
 cases d with
 |tuple ds=>show-a ds λy=>by let e:FK 3 (.tuple ds)=decide ((ds.Z:Int)=3):=rfl;rw[e,y]at h;cases h
 |_=>exact b _ rfl
inductive OH(vs:aV)(H:ag)(Q:aX)(fq:bM):Prop where
 |mk(v:aq.V)(d:PyData)(_:vs=[v])(_:cO H v d)(_:Q (.bo (mH d)) H)
inductive Y1(vs:aV)(H:ag)(Q:aX)(fq:bM):Prop where
 |mk(v:aq.V)(d:PyData)(lo hi:Int)(_:vs=[v,.int lo,.int hi])(_:cO H v d)(_:Q (.bo (Pe lo hi d)) H)
inductive OI(vs:aV)(H:ag)(Q:aX)(fq:bM):Prop where
 |mk(v:aq.V)(d:PyData)(n:Int)(_:vs=[v,.int n])(_:cO H v d)(_:Q (.bo (FK n d)) H)
inductive Xx(vs:aV)(H:ag)(Q:aX)(fq:bM):Prop where
 |mk(a:Addr)(hs:gy)(v u:aq.V)(d e:PyData)(_:vs=[.ref a,v,u])(_:cO H (.ref a) (.list hs))(_:cO H v d)(_:cO H u e)(_:d.depth<=60)(_:e.depth<=60)(_:Q (.bo (kN hs d e)) H)
def Xy{ds:gy}{d:PyData}(h:d∈ds):d.depth<=tC ds:=by
 induction ds with
 |nil=>cases h
 |cons x r e=>
  simp only[tC];rcases et.mp h with rfl|h
  .exact Nat.le_max_left _ _
  show-dQ (e h) (Nat.le_max_right _ _)
def ajw{f:Addr}(F:cp K "is_whole" "is_whole" Am f fd)(B:fc mg):-aH a9 1 f fd iQ OH:=by
 show-F.ok Ü (λ_ A _ s H c Q E a h=>?_);let#[v,d,2,h,q]:=h;show#[_,(a_ (cc (jn (dp sG B.isinstance jj (aj (ae 0) (aj (q_ xo B.int Ew) aw))) (oF (ġ (dp sG B.isinstance jj (aj (ae 0) (aj (q_ xo B.bool Ξ) aw)))))))),4]
 ac_rfl
 show#[1,6,6,1,#[2,h.ty,A0 K (anY d)],1,4];cases d with
 |int i=>show-jr #[1,6,6,1,#[2,h.ty,A0 K (Κ _)],1,q]
 |bool b=>show-jr #[1,6,6,1,#[2,h.ty,A0 K (Κ _)],1,q]
 |_=>show-iN q
def ag8{f:Addr}(F:cp K "is_whole_within" "is_whole_within" Eb f fd)(g:bU K mg "is_whole" Am iQ j e)(k:-aH a9 1 j e iQ OH):-aH a9 2 f fd uP Y1:=by
 show-F.ok ZD (λ_ A _ s H l Q E b h=>?_);let#[v,d,lo,c,2,h,q]:=h;show#[_,(a_ (cc (jn (c2 k g b.mono b9 (aj (ae 0) aw)) (oF (N2 qu qu (ae 1) (ae 0) (ae 2)))))),4]
 ac_rfl
 show#[1,v,d,2,h,1,4];cases h with
 |int i=>
  let q:Q (.bo (decide (lo<=i)&&decide (i<=c))) H:=q;show-jr #[5,3,1,4];by_cases a:lo<=i
  .rw[cw a,vO]at q;show-d1 (cw a) #[1,3,q]
  rw[c9 a,EM]at q;show-eM (c9 a) q
 |_=>show-iN q
def ajx{f:Addr}(F:cp K "is_tuple_of" "is_tuple_of" An f fd)(B:fc mg):-aH a9 1 f fd rR OI:=by
 show-F.ok Ý (λ_ A _ s H c Q E b h=>?_);let#[v,d,n,2,h,q]:=h;show#[_,(a_ (cc (jn (dp sG B.isinstance jj (aj (ae 0) (aj (q_ xo B.tuple DV) aw))) (oF (l7 nB (dp hI B.len g_ (aj (ae 0) aw)) (ae 1) (eK _)))))),4]
 ac_rfl
 show#[1,6,6,1,#[2,h.ty,A0 K (ZA d)],1,4];cases h with
 |@tup a xs ds aB z t=>
  show-jr #[1,a,1,.inr (cj.of aB),1,2,4];show Q (.bo (decide (V.int (xs.Z:Int)=V.int n))) H;rwa[Oj,t.len]
 |_=>show-iN q
def ag9{f:Addr}(F:cp K "are_unlike_houses" "are_unlike_houses" zW f fd):-aH a9 1 f fd rS Xx:=by
 show-F.ok ZE (λ_ A _ s H L Q E g h=>?_);let#[a,b,v,u,d,e,2,c,k,l,t,r,q]:=h;show#[_,(a_ (cc (jn (l7 (Ĵ (aaI g)) (ae 1) (ae 0) xo) (jn (l7 (Ĵ (aaI g)) (ae 2) (ae 0) xo) (oF (l7 (Jf g.units) (ae 1) (ae 2) (eK _))))))),4]
 ac_rfl
 let p:uR b=q4:=c.wy;let m:uZ d=q4:=Xp k.wy t x8;let n:uZ e=q4:=Xp l.wy r x8;let q:Q (.bo (inD d b&&inD e b&&!ki d e)) H:=q;show#[5,d,b,k.sb,c.sb,m,p,1,4];show if inD d b=q4 then _ else _
 cases ai:inD d b with
 |false=>
  rw[ai]at q;show-iN q
 |true=>
  rw[ai]at q;show-jr #[5,e,b,l.sb,c.sb,n,p,1,4];show if inD e b=q4 then _ else _
  cases ak:inD e b with
  |false=>
   rw[ak]at q;show-iN q
  |true=>
   rw[ak]at q;show-jr #[5,d,e,k.sb,l.sb,m,n,q]
def X7{a:bE}{x:Str}(h:x∉a):q8 (.str x) (a.map V.str)=q9:=by unfold q8;rw[xO];intro z;let#[v,c,e]:=tw.mp z;let#[y,d,2]:=bQ.mp c;let b:(y==x)=q4:=e;show-h (eq_of_beq b▸d)
def xb{a:Type}{l:List a}{i:Nat}{d x:a}(h:l[i]?=j3 x):l.getD i d=x:=by rw[dB,h];rfl
inductive Jk(C R:Addr)(vs:aV)(H:ag)(Q:aX)(E:bM):Prop where
 |mk(x bp bl:Addr)(hs:bb)(zs:aV)(h:Str)(_:vs=[.ref x,.str h])(_:iC C H x bp bl (c1 hs) zs)(_:(h∈hs.map S->Q .cf H))(_:(h∉hs.map S->E (.ref R) jp H))
abbrev A3:Stmt:=ij (top 57) 7
def aoL:cJ lT lT (b_ A3):=({})
def am4{f:Addr}(F:cp K "need_house" "Net.need_house" A3 f fd)(b:uB K C)(g:vQ i e j bm)(d:Exc K mg "NoHouse" R bm e):
  -aH (fE P w) 1 f fd lT (Jk C R):=by
 show-ra F aoL (λ_ A _ s H N Q E t h=>?_);let#[x,a,L,c,o,p,2,n,q,r]:=h;let#[k,l]:=n.ins;show#[_,(a_ (er (fQ aeJ (ae 1) (eX (ae 0)) xo) (a_ (DT g d rfl (aj cz aw))) eB)),4]
 ac_rfl
 let m:aI K H a ((c.map S).map V.str):=by rw[<-O8];show-aI.of n.GW
 show#[5,x,C,k,_,1,l,b.cl,b.Hz,2,a,1,.inl m,2,HQ _,1,4];by_cases hm:p∈c.map S
 .exact eM (by rw[Ou hm];rfl) (q hm)
 show-d1 (by rw[X7 hm];rfl) #[by show 1<=sizeLine;decide,r hm]
def ajy{b c:Type}(a:List b)(q:Nat->Bool)(g:Nat->c):(a.zipIdx.filter λz=>q z.2).map (λz=>g z.2)=((dY a.Z).filter q).map g:=by
 let e:a.zipIdx.map (·.2)=dY a.Z:=by rw[ah6,ah1]
 rw[<-e,E5,ek];rfl
def e1:cm.fV:=#[0,0,0,0]
def EB(a:bb)(ds:b0)(b:cm.fV->Nat)(h:Str):List Nat:=(dY ds.Z).filter λi=>decide (V.str (S (a.getD (b (ds.getD i e1)) []))=V.str h)
def mn(a:bb)(ds:b0)(b:cm.fV->Nat)(h:Str):List Int:=(EB a ds b h).map λi:Nat=>(i:Int)
def ajz(a:bb)(ds:b0)(b:cm.fV->Nat)(h:Str):(mn a ds b h).Z<=ds.Z:=by unfold mn EB;rw[aM];show-dQ (yc _ _) (by rw[jg];show-b7 _)
inductive QP(C R:Addr)(zQ:cm.fV->Nat)(vs:aV)(H:ag)(Q:aX)(E:bM):Prop where
 |mk(x bp bl:Addr)(hs:bb)(rs:bS)(ds:b0)(h:Str)(_:vs=[.ref x,.str h])(_:iC C H x bp bl (c1 hs) (aT rs))(_:gG H hs rs ds)(_:rs.Z<=40)(_:(h∈hs.map S->∀(p:Addr)(H':ag),H p=jp->aD H H'->H' p=j3 (.lst ((mn hs ds zQ h).map V.int))->Q (.ref p) H'))(_:(h∉hs.map S->E (.ref R) jp H))
abbrev FL:Stmt:=ij (top 57) 4
def aqb:cJ lT lT (b_ FL):=({})
def aoM{f j:Addr}(F:cp K "out_of" "Net.out_of" FL f fd)(B:fc mg)(k:uB K C)(o:dn K C "need_house" "Net.need_house" A3 lT j u)(r6:-aH (fE P w) 1 j u lT (Jk C R)):
  -aH (fE P w) 2 f fd lT (QP C R (·.a)):=by
 let X:=k.cl;show-ra F aqb (λ_ A _ s H vs Q E I h=>?_);let#[x,O,N,l,rs,ds,b,2,n,e,bX,q,Z]:=h;let#[t,L]:=n.ins;show#[_,(a7 (gL (gp (ae 0) X o.eO r6 I.mono o.bd .nil sN (aj (ae 1) aw)))
  (a_ (cc (mc (N':=["number","road","house"]) (cs:=[jp,jp,j3 1]) rfl (Ot rfl B.enumerate (aj (eX (ae 0)) aw)) rfl xL rfl xL (ia (gK.mpr #[2,(λp M=>bt M (dU))])) rfl
   (.own (.own (.mF rfl (.inl rfl) (.inl rfl) rfl .nil)))
   (λC s3 a5 bY da=>#[(It (K:=K) (n:=2) rfl rfl (iX (dV 0 (by show(["number","road","house"]:bE).Nodup;decide+kernel)) (iX (dV 1 (by show(["number","road","house"]:bE).Nodup;decide+kernel)) sM))),(Oq (fQ nB (cn (Ef (K:=K) rfl) (ae 1) a8) (ae 2) (eK _))),(ae 0)]))))),4]
 ac_rfl
 let J:=eW rs;let wR:=e.len;show#[1,x,t,1,L,7,x,O,N,l,_,b,2,n,λhm=>?_,Z];show#[1,x,C,t,_,1,L,k.cl,k.hh,2,N,2,#[_,aI.of n.sZ],4];refine Ã (rest:=[j3 (.str b)]) rfl (aI.of n.sZ) (el qI) (λi _=>decide (V.str (S (l.getD (ds.getD i e1).a []))=V.str b)) (λi _=>.int i) (λi v g R a m c=>?_) (λi v g R a _ m c=>#[1,c g (aD.refl _)]) (λD H' z G y=>q hm D H' z y ?_)
 .unfold aT at a;rw[cR]at a;let#[r,U,2]:=e6.mp a;let#[d,cG,ok,Y]:=e.get U;let T:ds.getD i e1=d:=xb cG;rw[T]at c;show#[1,r,_,3,cj.of (m _ _ Y),7,7,c g (aD.refl _)]
 rw[G,ajy (aT rs) (λi=>decide (V.str (S (l.getD (ds.getD i e1).a []))=V.str b)) (λi=>V.int i),J,wR];unfold mn;rw[ek];rfl
abbrev eo:=List (List bD×aq.V)
def gu(h g:Str):List bD:=[.inr h,.inr g]
def md(n t:Addr):List (Str×aq.V):=[("net",.ref n),("told",.ref t)]
structure mP(C CN:Addr)(H:ag)(x n t bp bl:Addr)(xs ys:aV)(kvs:eo):Prop where
 ins:∃al,H x=j3 (.ins C al (md n t))
 g7:iC CN H n bp bl xs ys
 told:H t=j3 (.c3 kvs)
theorem mP.same{t:Addr}{a:eo}(W:mP C e H x n t bp bl xs i a)(b:aD H H'):mP C e H' x n t bp bl xs i a:=
 let⟨c,h⟩:=W.ins
 #[#[c,b _ _ h],W.g7.same b,b _ _ W.told]
end
structure uo(K:aL)(C:Addr):Prop where
 cl:fw K C
 nn:c7 K (.ref C) "net"=j3 jp
 fl:c7 K (.ref C) "told"=j3 jp
inductive KC(C:Addr)(vs:aV)(H:ag)(Q:aX)(fq:bM):Prop where
 |mk(x al:Addr)(v:aq.V)(_:vs=[.ref x,v])(_:H x=j3 (.ins C al []))(_:∀t,H t=jp->Q .cf (upd (upd H t (.c3 [])) x (.ins C al [("net",v),("told",.ref t)])))
inductive KD(C CN hQ:Addr)(vs:aV)(H:ag)(Q:aX)(E:bM):Prop where
 |mk(x n t bp bl:Addr)(hs:bb)(ys:aV)(kvs:eo)(v u:aq.V)(d e:PyData)(_:vs=[.ref x,v,u])(_:mP C CN H x n t bp bl (c1 hs) ys kvs)(_:Good hs)(_:cO H v d)(_:cO H u e)(_:d.depth<=60)(_:e.depth<=60)(_:(kN (bR hs) d e=q4->∀H',aD H H'->Q .cf H'))(_:(kN (bR hs) d e=q9->∀H',aD H H'->E (.ref hQ) jp H'))
inductive Rn(C CN hQ Bx:Addr)(vs:aV)(H:ag)(Q:aX)(E:bM):Prop where
 |mk(x n t bp bl:Addr)(hs:bb)(rs:bS)(ds:b0)(kvs:eo)(h g:Str)(i:Int)(_:vs=[.ref x,.str h,.str g,.int i])(_:mP C CN H x n t bp bl (c1 hs) (aT rs) kvs)(_:Good hs)(_:gG H hs rs ds)(_:rs.Z<=40)(_:cO H (.str h) (.str h))(_:cO H (.str g) (.str g))(_:kvs.Z<sizeLine)(_:(kN (bR hs) (.str h) (.str g)=q4->i∈mn hs ds (·.a) h->∀H',aD H H'->Q .cf (upd H' t (.c3 (gh kvs (gu h g) (.int i))))))(_:(kN (bR hs) (.str h) (.str g)=q9->∀H',aD H H'->E (.ref hQ) jp H'))(_:(kN (bR hs) (.str h) (.str g)=q4->i∉mn hs ds (·.a) h->∀H',aD H H'->E (.ref Bx) jp H'))
def ajA(b:gz):(b.map V.int).all s7=q4:=by rw[tv];intro x a;let#[y,1]:=bQ.mp a;rfl
def am5{a:gz}{x:Int}(h:x∈a):q8 (.int x) (a.map V.int)=q4:=by unfold q8;rw[tw];show#[.int x,bQ.mpr #[x,h,2],by show(x==x)=q4;show-beq_self_eq_true x]
def ahb{a:gz}{x:Int}(h:x∉a):q8 (.int x) (a.map V.int)=q9:=by unfold q8;rw[xO];intro z;let#[v,c,e]:=tw.mp z;let#[y,d,2]:=bQ.mp c;let b:(y==x)=q4:=e;show-h (eq_of_beq b▸d)
def ahd{a:bb}{h g:Str}(c:kN (bR a) (.str h) (.str g)=q4):h∈a.map S/\g∈a.map S:=by unfold kN at c;simp only[hN]at c;show#[afW λn=>by rw[Ņ n]at c;show-gZ c.1.1,afW λn=>by rw[Ņ n]at c;show-gZ c.1.2]
section
variable{P:cq}{w:bW}{K:aL}{mg:b5}{base:Heap}
abbrev D5:Stmt:=ij (top 59) 0
def ark:cJ my my (b_ D5):=({})
def aqc{f:Addr}(F:cp K "__init__" "Ways.__init__" D5 f fd)(d:uo K C):-aH a9 1 f fd my (KC C):=by
 show-F.ok ark (λ_ A _ s H r Q E p h=>?_);let#[x,a,v,2,n,q]:=h;show#[_,(a7 (oG (ae 0) (ae 1) rfl)
  (a_ (oG (ae 0) akN rfl))),4]
 ac_rfl
 show#[5,x,C,a,1,n,d.cl,d.nn,(by show 0<1000;decide),4];intro t g;let l:t≠x:=λe=>by rw[e,aQ]at g;cases g
 rw[aR l]at g;show#[1,x,C,a,1,(by rw[aR (e5 l)];show-aQ),d.cl,d.fl,(by show 1<1000;decide),4];let m:upd (upd (upd H x (.ins C a [("net",v)])) t (.c3 [])) x (.ins C a [("net",v),("told",.ref t)])=upd (upd H t (.c3 [])) x (.ins C a [("net",v),("told",.ref t)]):=by
  funext b;by_cases c:b=x
  .rw[c,aQ,aQ]
  rw[aR c,aR c];by_cases k:b=t
  .rw[k,aQ,aQ]
  rw[aR k,aR k,aR c]
 show Q .cf (upd (upd (upd H x (.ins C a [("net",v)])) t (.c3 [])) x (.ins C a [("net",v),("told",.ref t)]));rw[m];show-q t g
abbrev D2:Stmt:=ij (top 59) 6
def arl:cJ fZ fZ (b_ D2):=({})
def aqd{f:Addr}(F:cp K "need_pair" "Ways.need_pair" D2 f fd)(g:uo K C)(M:fw K i)(r:vQ EG T t4 bm)(m:Exc K mg "NoHouse" R bm T)(k:dn K i "houses" "Net.houses" w5 gx f1 D)(Z:-aH a9 1 f1 D gx (zB i))(qa:bU K mg "are_unlike_houses" zW rS f2 I)(yV:-aH a9 1 f2 I rS Xx):
  -aH (fE P w) 2 f fd fZ (KD C i R):=by
 show-ra F arl (λ_ A _ s H vs Q E c h=>?_);let#[x,n,t,z,y,b,ys,Y,v,u,d,e,2,W,G,V,B,J,p,q,X]:=h;let#[L,N]:=W.ins;show#[_,(a_ (er (j2 (kp (c2 yV qa c.mono b9 (aj (sF (eX (ae 0)) M k.eO Z c.mono k.bd .nil b9) (aj (ae 1) (aj (ae 2) aw)))))) (a_ (DT r m rfl (aj cz aw))) eB)),4]
 ac_rfl
 let#[O,U]:=W.g7.ins;show#[1,x,C,L,_,1,N,g.cl,g.nn,2,n,O,1,U,2,n,z,y,_,1,W.g7,λl nl=>?_];let a:=bT (o:=.lst (c1 b)) nl;show#[5,l,bR b,v,u,d,e,2,ŭ G aQ,V.same a,B.same a,J,p,1,4];cases j:kN (bR b) d e with
 |true=>show-q j _ a
 |false=>show#[by show 1<=sizeLine;decide,X j _ a]
abbrev D4:Stmt:=ij (top 59) 1
def arn:cJ tB tB (b_ D4):=({})
def aqe{f:Addr}(F:cp K "set_way" "Ways.set_way" D4 f fd)(b:uo K C)(eZ:fw K e)(Y:vQ EG hg t4 bm)(X:Exc K mg "NoRoad" T bm hg)(O:dn K e "out_of" "Net.out_of" FL lT f1 cW)(U:-aH (fE P w) 2 f1 cW lT (QP e J (·.a)))(M:dn K C "need_pair" "Ways.need_pair" D2 fZ f2 d8)(u4:-aH (fE P w) 2 f2 d8 fZ (KD C e J)):
  -aH (fE P w) 3 f fd tB (Rn C e J T):=by
 let hb:=b.cl;show-ra F arn (λ_ A _ s H vs Q E L h=>?_);let#[x,n,t,I,D,z,rs,ds,B,a,d,i,2,W,G,de,bX,bc,cL,j,q,i9,y]:=h;let#[m,N]:=W.ins;let#[fR,hn]:=W.g7.ins;show#[_,(a7 (gL (gp (ae 0) hb M.eO u4 L.mono M.bd .nil sN (aj (ae 1) (aj (ae 2) aw))))
  (a7 (er (fQ aeJ (ae 3) (gp (eX (ae 0)) eZ O.eO U L.mono O.bd .nil sN (aj (ae 1) aw)) xo) (a_ (DT Y X rfl (aj cz aw))) eB)
  (a_ (O_ (lF L) (eX (ae 0)) (h_ (aj (ae 1) (aj (ae 2) aw))) (ae 3) rfl)))),4]
 ac_rfl
 show#[1,x,m,1,N,7,1,x,n,t,I,D,z,_,B,.str a,.str d,.str a,.str d,2,W,G,bc,cL,(by show 0<=60;decide),(by show 0<=60;decide),λu H1 c=>?_,i9];let hm:=ahd u;show#[5,x,C,m,_,1,c _ _ N,b.cl,b.nn,2,n,fR,1,c _ _ hn,7,n,I,D,z,rs,ds,a,2,W.g7.same c,de.same c,bX,λ_ p ah np s2 Z=>?_,λoB=>bt hm.1 oB];let l:=c.trans s2;show#[p,1,.inl (aI.of Z),2,ajA _,1,4];by_cases g:i∈mn z ds (·.a) a
 .refine eM (by rw[am5 g];rfl) ?_;show#[5,x,C,m,_,1,l _ _ N,b.cl,b.fl,7,1,sz_,λr hh=>?_];let R:=bT (o:=.tup [V.str a,V.str d]) hh;show#[t,1,uz.t (k:=gu a d) ((l.trans R) _ _ W.told) aQ j,q u g _ (l.trans R)]
 show-d1 (by rw[ahb g];rfl) #[by show 1<=sizeLine;decide,y u g _ l]
inductive Ro(C:Addr)(vs:aV)(H:ag)(Q:aX)(fq:bM):Prop where
 |mk(e s:Addr)(v:aq.V)(zs:aV)(_:vs=[.ref e,v,.ref s])(_:H e=j3 (ng e C))(_:H s=j3 (.lst zs))(_:∀(al l:Addr)(H':ag),H al=jp->H l=jp->al≠l->(∀b o,H b=j3 o->b≠e->H' b=j3 o)->H' e=j3 (nf e C al)->H' al=j3 (mX al [("reason",v),("seen",.ref l)])->H' l=j3 (.lst zs)->Q .cf H')
inductive Out where
 |ok(_:bB)
 |no(qF:Str)(_:bE)
def oM(a:eo)(h g:Str):Option Nat:=match c8 a (gu h g)with|some (.int k)=>j3 k.X|_=>jp
def jS(a:bb)(ds:b0)(k:Nat):Str:=S (a.getD (ds.getD k e1).b [])
def ic(b:eo)(a:bb)(ds:b0)(g:Str):Nat->Str->List Str->List Nat->Out
 |0,_,_,e=>.ok e
 |n+1,h,sn,e=>if h=g then .ok e else match oM b h g with
  |none=>.no "none" sn
  |some k=>if jS a ds k∈sn then .no "round" (sn++[jS a ds k])else ic b a ds g n (jS a ds k) (sn++[jS a ds k]) (e++[k])
structure lg(kvs:eo)(m:Nat):Prop where
 val:∀k v,c8 kvs k=j3 v->∃i:Nat,v=.int (i:Int)/\i<m
def lg.get{a:eo}{m:Nat}(t:lg a m)(h g:Str):(c8 a (gu h g)=jp/\oM a h g=jp)\/∃i:Nat,c8 a (gu h g)=j3 (.int (i:Int))/\oM a h g=j3 i/\i<m:=by
 cases e:c8 a (gu h g)with
 |none=>show-.inl #[2,by unfold oM;rw[e]]
 |some v=>
  let#[i,2,b]:=t.val _ _ e;show-.inr #[i,2,by unfold oM;rw[e];simp,b]
def nats(a:bB):List aq.V:=a.map λk:Nat=>V.int (k:Int)
def rv(a:bE):List aq.V:=a.map V.str
def Rp(b:Addr)(o:Out)(H:ag)(Q:aX)(E:bM):Prop:=match o with
 |.ok e=>∀l H',H l=jp->aD H H'->H' l=j3 (.lst (nats e))->Q (.ref l) H'
 |.no h sn=>∀a l H',H a=jp->H l=jp->a≠l->aD H H'->H' a=j3 (mX a [("reason",.str h),("seen",.ref l)])->H' l=j3 (.lst (rv sn))->E (.ref b) (j3 a) H'
inductive KG(C CN hQ cS:Addr)(vs:aV)(H:ag)(Q:aX)(E:bM):Prop where
 |mk(x n t bp bl:Addr)(hs:bb)(rs:bS)(ds:b0)(kvs:eo)(h g:Str)(_:vs=[.ref x,.str h,.str g])(_:mP C CN H x n t bp bl (c1 hs) (aT rs) kvs)(_:Good hs)(_:gG H hs rs ds)(_:lg kvs ds.Z)(_:(h∈hs.map S->g∈hs.map S->Rp cS (ic kvs hs ds g 13 h [h] []) H Q E))(_:(h∉hs.map S\/g∉hs.map S->E (.ref hQ) jp H))
theorem q1{c:Type}[DecidableEq c]:∀{sn L:List c},sn.Nodup->(∀y∈sn,y∈L)->sn.Z<=L.Z
 |[],_,_,_=>eu _
 |x::r,L,aA,h=>by
  let a:=h x (.head _);let d:=q1 (sn:=r) (L:=L.erase x) (kG.mp aA).2 (λy b=>(List.mem_erase_of_ne (show y≠x fromλe=>(kG.mp aA).1 (by rwa[<-e]))).mpr (h y (.tail _ b)));rw[List.length_erase_of_mem a]at d;have:=List.length_pos_of_mem a;rw[ej]
  lia
def HH{c:Type}{l:List c}{x:c}(d:l.Nodup)(h:x∉l):(l++[x]).Nodup:=by rw[JK];show#[d,kG.mpr #[dU,p4],λa f b g e=>h (by rwa[<-e4.mp g,<-e])]
def getD_mem'{a:Type}{l:List a}{i:Nat}{d:a}(h:i<l.Z):l.getD i d∈l:=by rw[dB,cQ h];show-nZ h
def Zr(b:bE)(c:Str):aq.hp (rv (b++[c])) (-1)=j3 (.str c):=by
 unfold rv;rw[eb];generalize b.map V.str=a;unfold aq.hp aq.t5;rw[c0,a4 x8,a' (by show -((a.Z+1:Nat):Int)<=-1;lia)];show(a++[V.str c])[((-1:Int)+((a.Z+1:Nat):Int)).toNat]?=_;let e:((-1:Int)+((a.Z+1:Nat):Int)).toNat=a.Z:=by lia
 rw[e];simp
def none_of{H b:ag}(c:aD H b)(h:b a=jp):H a=jp:=by
 cases e:H a with
 |none=>rfl
 |some o=>rw[c _ _ e]at h;cases h
end
def Ų{d:ag}{E:bM}{e:Addr}(q:Rp h (.no i sn) H Q E)(k:aD H d)(N:d p=j3 (.lst (rv sn)))(A:d e=jp):
  Ro h (V.ref e::[.str i,.ref p]) (upd d e (ng e h)) (λv t=>v=.cf/\∃a,t e=j3 (nf e h a)/\E (.ref h) (j3 a) (del t e)) hO:=by
 show#[e,p,.str i,rv sn,2,aQ,bT A _ _ N,λa l H' f g s c j u L=>#[2,a,j,4]];let w:a≠e:=λz=>by rw[z,aQ]at f;cases f
 let r:l≠e:=λz=>by rw[z,aQ]at g;cases g
 rw[aR w]at f;rw[aR r]at g;show-q a l (del H' e) (none_of k f) (none_of k g) s (λb o K=>?_) ?_ ?_
 .let m:=k _ _ K;let n:b≠e:=λz=>by rw[z,A]at m;cases m
  rw[qk n];exact c b o (by rwa[aR n]) n
 .rwa[qk w]
 rw[qk r];show-L
end dP
namespace b4
open PySem PySem.Spec PyProof.Rows aq
section
variable{X:bA}{e:Expr}{pos:Pos}
def aqf(c:tF)(i:Nat):p9:=λD E a H=>c (E a) a H λv b=>D.cX (a.set i (j3 v)) b
def am6{i:Nat}{c:tF}(p:X.N.Nodup)(t:X.N[i]?=j3 x)(g:Loc X.env.scope x)(r:ù X e c)(w:xq e (j3 (.Name x pos')) pos.line X.env=pure q9:=by rfl)(k:X.fn x=q4\/X.env.scope.names.lookup x=j3 .local:=by first|exact .inl rfl|exact .inr rfl|assumption):
  þ X (.Assign [.Name x pos'] e pos) (aqf c i):=by intro a s b H D E I h;show-aeP (fC (r a s b H _ _ I h) (λv L A=>?_) λe K q=>#[b,q]) w;let#[y,d,f,n,m]:=A;show-DZ f p t g n (λN l=>#[_,d,l,m]) k
end
end b4
namespace dP
open PySem aq b4 cm
def ajB{K:aL}{J:eV}{B:TE}{rest:aq.St}{H1:ag}{Q:aX}{kvs:List (List bD×aq.V)}(X:∀R:fF->ag->Prop,R (PD a o kvs) H1->J s H R)(U:hX cs s=jp::jp::rest)(q:H1 a=j3 (.fp o (.c3 kvs)))(P:kvs.Z<sizeLine)(f:Nat->List aq.V)(N:∀(i:Nat)(k:List bD)(x:aq.V)(b:Addr)(n:ag)(R:aX),kvs[i]?=j3 (k,x)->aD H1 n->n b=j3 (.tup (k.map di))->(∀r t,aD n t->t r=j3 (.tup (f i))->R (.ref r) t)->B (j3 (.ref b)::j3 x::rest) n R)(h:∀(D:Addr)(H':ag)(rs:bS),H1 D=jp->H' D=j3 (.lst (aT rs))->eG H' rs ((dY kvs.Z).map f)->aD H1 H'->Q (.ref D) H'):
  kD J cs (vS K 2 (qt (hW 0) (qt (hW 1) x4))) pR B s H Q:=by
 show-X _ λD bR=>?_;show#[λi m j C H'=>m=kvs.Z-i/\i<=kvs.Z/\(∃rs,j=aT rs/\eG H' rs ((dY i).map f))/\(∃E G,C=E::G::rest)/\aD H1 H'/\H' D=j3 (.lst j),#[kvs.Z,by simp,eu _,#[[],2,.nil],#[jp,jp,U],λb o e=>?_,aQ],4]
 .rwa[aR (dj e bR)]
 rintro i m j C H' ⟨rfl,hi,⟨rs,rfl,L⟩,⟨E,G,rfl⟩,l,A⟩;let Y:=L.len;rw[aM,jg]at Y;show#[A,p6 (by rw[eW];lia) P,4];by_cases u:i<kvs.Z
 .refine .inr #[#[l _ _ q,u],λx n y=>?_];let#[p,b,k,I,T,2,Z,M,2]:=y;let g:=bT (o:=.tup [V.ref b,I]) T;show#[p,1,cj.of aQ,2,_,1,3,4];show-N i k I b _ _ Z (l.trans g) (g _ _ M) λr t w O=>#[w _ _ (g _ _ A),kvs.Z-(i+1),9,2,u,#[rs++[r],tY rs r,4],#[_,1],λc ob e=>?_,aQ]
  .rw[E_,eb];show-eG.upd (Paired.snoc (F:=λr d=>t r=j3 (.tup d)) O ((L.same g).same w)) (w _ _ (g _ _ A)) (by intro d z;cases z)
  rw[aR (dj e bR)];show-w _ _ (g _ _ (l _ _ e))
 let e:i=kvs.Z:=by lia
 subst e;show-.inl #[#[l _ _ q,b7 _],h D H' rs bR A L l]
abbrev Row:=Str×Str×Int
def v3(r:Row):List bD:=[.inr r.1,.inr r.2.1,.inl r.2.2]
def rx(r:Row):List aq.V:=[.str r.1,.str r.2.1,.int r.2.2]
def dG(rs:List Row):List (List bD×aq.V):=rs.map λr=>([.inr r.1,.inr r.2.1],.int r.2.2)
def QR(rs:List Row):List Nat:=s9 (qj (rs.map v3)) rs.Z
def r0:Row:=(n7,n7,0)
def pK(rs:List Row):List Row:=(QR rs).map λi=>rs.getD i r0
def row_shape(rs:List Row):∀d∈rs.map v3,mb d=q9::[q9,q4]:=(λd a=>by let#[r,1]:=bQ.mp a;rfl)
def ajC{H:ag}{rs:List Row}(h:eG H e (rs.map rx)):bV (λr d=>H r=j3 (.tup (d.map di))) e (rs.map v3):=by
 have:∀{e:bS}{rs:List Row},eG H e (rs.map rx)->bV (λr d=>H r=j3 (.tup (d.map di))) e (rs.map v3):=λ{e rs}=>by
  induction rs generalizing e with
  |nil=>intro h;cases h;show-.nil
  |cons r q i=>intro h;cases h with|cons a t=>show-.cons a (i t)
 show-this h
inductive aaR(C CN hQ:Addr)(vs:aV)(H:ag)(Q:aX)(E:bM):Prop where
 |mk(x n t bp bl:Addr)(hs:bb)(ys:aV)(kvs:eo)(h g:Str)(_:vs=[.ref x,.str h,.str g])(_:mP C CN H x n t bp bl (c1 hs) ys kvs)(_:Good hs)(_:cO H (.str h) (.str h))(_:cO H (.str g) (.str g))(_:(kN (bR hs) (.str h) (.str g)=q4->∀H',aD H H'->Q ((c8 kvs (gu h g)).getD .cf) H'))(_:(kN (bR hs) (.str h) (.str g)=q9->∀H',aD H H'->E (.ref hQ) jp H'))
section
variable{P:cq}{w:bW}{K:aL}{mg:b5}{base:Heap}
abbrev Nw:Stmt:=ij (top 59) 3
def aro:cJ fZ fZ (b_ Nw):=({})
def aqg{f:Addr}(F:cp K "way" "Ways.way" Nw f fd)(d:uo K C)(L:dn K C "need_pair" "Ways.need_pair" D2 fZ f2 B)(R:-aH (fE P w) 2 f2 B fZ (KD C e D)):
  -aH (fE P w) 3 f fd fZ (aaR C e D):=by
 let I:=d.cl;show-ra F aro (λ_ A _ s H U Q E m h=>?_);let#[x,n,t,y,u,M,X,g,b,a,2,W,G,j,z,q,O]:=h;let#[l,p]:=W.ins;show#[_,(a7 (gL (gp (ae 0) I L.eO R m.mono L.bd .nil sN (aj (ae 1) (aj (ae 2) aw))))
  (a_ (cc (N3 (lF m) (eX (ae 0)) (h_ (aj (ae 1) (aj (ae 2) aw))) #[2,2,2,2])))),4]
 ac_rfl
 show#[1,x,l,1,p,7,1,x,n,t,y,u,M,_,g,.str b,.str a,.str b,.str a,2,W,G,j,z,(by show 0<=60;decide),(by show 0<=60;decide),λi T c=>?_,O];show#[1,x,C,l,_,1,c _ _ p,d.cl,d.fl,2,t,2,.inr #[_,.inl (c _ _ W.told)],5,sz_,λr J=>?_];let N:=bT (o:=.tup [V.str b,V.str a]) J;show#[_,j9.t (k:=gu b a) (N _ _ (c _ _ W.told)) aQ,q i _ (c.trans N)]
end
end dP
namespace dZ
variable{κ:Type}[DecidableEq κ]
structure iO(κ:Type)where
 a:κ
 b:κ
 t:Int
inductive Path(rs:List (iO κ))(s:κ):κ->Int->Prop
 |nil:Path rs s s 0
 |snoc{v:Int}(e:iO κ):Path rs s e.a v->e∈rs->Path rs s e.b (v+e.t)
def Path.cons{rs:List (iO κ)}(e:iO κ)(a:e∈rs){g:κ}{w:Int}(p:Path rs e.b g w):Path rs e.a g (e.t+w):=by
 induction p with
 |nil=>
  have:=Path.snoc e (Path.nil (rs:=rs) (s:=e.a)) a
  rwa [vY,<-Int.add_zero e.t]at this
 |snoc f _ i h=>
  rw[<-agv];show-Path.snoc f h i
def Path.first{rs:List (iO κ)}{s g:κ}{w:Int}(p:Path rs s g w):(s=g/\w=0)\/∃e∈rs,∃u,e.a=s/\Path rs e.b g u/\w=e.t+u:=by
 induction p with
 |nil=>show-.inl #[2,2]
 |@snoc v f _ h i=>
  show-.inr ?_;rcases i with⟨rfl,rfl⟩|⟨e,he,u,j,p,rfl⟩
  .show#[f,h,0,2,.nil,9]
  show#[e,he,u+f.t,j,.snoc f p h,9]
def Path.nonneg{rs:List (iO κ)}(a:∀e∈rs,1<=e.t){s g:κ}{w:Int}(p:Path rs s g w):0<=w:=by
 induction p with
 |nil=>show-rL _
 |snoc e _ he h=>have:=a e he;lia
structure PR(rs:List (iO κ))(s:κ)(d:κ->Option Int):Prop where
 path:∀k v,d k=j3 v->Path rs s k v
 least:∀k w,Path rs s k w->∃v,d k=j3 v/\v<=w
structure kh(rs:List (iO κ))(s:κ)(ns:List κ)(d:κ->Option Int):Prop where
 start:d s=j3 0
 path:∀k v,d k=j3 v->Path rs s k v
 bX:∀k v,d k=j3 v->v<9*(ns.countP λk=>(d k).isSome)
def ok(d:κ->Option Int)(e:iO κ):Prop:=∀v,d e.a=j3 v->∃u,d e.b=j3 u/\u<=v+e.t
def kh.done{rs:List (iO κ)}{s:κ}{c:List κ}{d:κ->Option Int}(m:kh rs s c d)(h:∀e∈rs,ok d e):PR rs s d:=by
 show#[m.path,λk w p=>?_]
 induction p with
 |nil=>show#[0,m.start,rL _]
 |snoc e _ he i=>
  let#[v,b,f]:=i;let#[u,a,g]:=h e he v b;show#[u,a,9]
def put(d:κ->Option Int)(b:κ)(v:Int):κ->Option Int:=λk=>if k=b then j3 v else d k
theorem count_le{p q:κ->Bool}(h:∀k,p k=q4->q k=q4):∀a:List κ,a.countP p<=a.countP q
 |[]=>by simp
 |k::r=>by let b:=count_le h r;simp only[ahF];have:=h k;split<;>split<;>simp_all<;>lia
theorem Sb{p q:κ->Bool}(h:∀k,p k=q4->q k=q4){b:κ}(a:p b=q9)(c:q b=q4):∀{ns:List κ},b∈ns->ns.countP p<ns.countP q
 |[],z=>by simp at z
 |k::r,z=>by
  simp only[ahF];by_cases e:k=b
  .subst e;have:=count_le h r;simp[a,c]
   lia
  let d:=Sb h a c (ns:=r) (by rcases et.mp z with z|z;show-bt z.symm e;show-z);have:=h k;split<;>split<;>simp_all<;>lia
theorem Ah{f g:κ->Nat}(h:∀k,f k<=g k):∀a:List κ,(a.map f).sum<=(a.map g).sum
 |[]=>by simp
 |k::r=>by
  have:=Ah h r;have:=h k;simp only[e7,mx]
  lia
theorem Ś{f g:κ->Nat}(h:∀k,f k<=g k){b:κ}(a:f b<g b):∀{ns:List κ},b∈ns->(ns.map f).sum<(ns.map g).sum
 |[],z=>by simp at z
 |k::r,z=>by
  simp only[e7,mx];by_cases e:k=b
  .subst e;have:=Ah h r
   lia
  let c:=Ś h a (ns:=r) (by rcases et.mp z with z|z;show-bt z.symm e;show-z);have:=h k
  lia
def val(n:Nat):Option Int->Nat
 |none=>n
 |some v=>v.X
def j8(a:List κ)(d:κ->Option Int):Nat:=(a.map λk=>val (9*a.Z) (d k)).sum
def kh.put{rs:List (iO κ)}{s:κ}{a:List κ}{d:κ->Option Int}(m:kh rs s a d)(p:∀e∈rs,1<=e.t/\e.t<=9){e:iO κ}(c:e∈rs)(n:e.b∈a){v:Int}(g:d e.a=j3 v)(f:∀u,d e.b=j3 u->v+e.t<u):
  kh rs s a (put d e.b (v+e.t))/\j8 a (dZ.put d e.b (v+e.t))<j8 a d:=by
 let o:0<=v:=(m.path _ _ g).nonneg λe c=>(p e c).1;let i:=p e c;let l:∀k w,dZ.put d e.b (v+e.t) k=j3 w->Path rs s k w:=λk w h=>by
  unfold dZ.put at h;split at h
  .rename_i q;cases h;rw[q];show-.snoc e (m.path _ _ g) c
  show-m.path k w h
 let hm:∀k,(d k).isSome=q4->(dZ.put d e.b (v+e.t) k).isSome=q4:=λk h=>by
  unfold dZ.put;split
  .rfl
  show-h
 let r:∀k w,dZ.put d e.b (v+e.t) k=j3 w->w<9*(a.countP λk=>(dZ.put d e.b (v+e.t) k).isSome):=λk w h=>by
  let N:=count_le hm a;by_cases q:k=e.b
  .let t:w=v+e.t:=by unfold dZ.put at h;rw[a' q]at h;exact(gk h).symm
   let K:=m.bX _ _ g;cases hd:d e.b with
   |some u=>
    have:=f u hd;have:=m.bX _ _ hd
    lia
   |none=>
    let j:a.countP (λk=>(d k).isSome)<a.countP λk=>(dZ.put d e.b (v+e.t) k).isSome:=Sb hm (b:=e.b) (by rw[hd];rfl) (by unfold dZ.put;rw[a' rfl];rfl) n
    lia
  let t:d k=j3 w:=by
   unfold dZ.put at h
   rwa [a4 q]at h
  have:=m.bX k w t
  lia
 show#[#[4,l,r],4]
 .unfold dZ.put;split
  .rename_i q;rw[<-q]at f;have:=f 0 m.start
   lia
  show-m.start
 let V:a.countP (λk=>(dZ.put d e.b (v+e.t) k).isSome)<=a.Z:=ahG;let x:=r e.b (v+e.t) (by unfold dZ.put;rw[a' rfl]);let lt:val (9*a.Z) (dZ.put d e.b (v+e.t) e.b)<val (9*a.Z) (d e.b):=by
  let L:dZ.put d e.b (v+e.t) e.b=j3 (v+e.t):=by unfold dZ.put;rw[a' rfl]
  let y:((v+e.t).toNat:Int)=v+e.t:=la qI;rw[L];cases hd:d e.b with
  |some u=>
   have:=f u hd;show(v+e.t).toNat < u.X
   lia
  |none=>
   show(v+e.t).toNat < 9*a.Z
   lia
 show-Ś (λk=>?_) (b:=e.b) lt n;by_cases q:k=e.b
 .subst q;show-n2 lt
 let A:dZ.put d e.b (v+e.t) k=d k:=by unfold dZ.put;rw[a4 q]
 rw[A];show-b7 _
def kh.begin{rs:List (iO κ)}{s:κ}{a:List κ}(b:s∈a):kh rs s a (λk=>if k=s then j3 0 else jp):=by
 show#[by simp,λk v h=>?_,λk v h=>?_]
 .split at h
  .rename_i q;cases h;rw[q];show-.nil
  cases h
 split at h
 .cases h;have:0<a.countP λk=>((if k=s then j3 (0:Int)else jp).isSome):=ahH.mpr #[s,b,by simp]
  lia
 cases h
structure FN(rs:List (iO κ))(f:κ->Option Int)(g:κ):Prop where
 path:∀k v,f k=j3 v->Path rs k g v
 least:∀k w,Path rs k g w->∃v,f k=j3 v/\v<=w
section
variable{rs:List (iO κ)}{f:κ->Option Int}{g:κ}(F:FN rs f g)(az:∀e∈rs,1<=e.t)
include F
def FN.back{e:iO κ}(b:e∈rs){u:Int}(h:f e.b=j3 u):∃v,f e.a=j3 v/\v<=u+e.t:=by let#[v,a,c]:=F.least _ _ (Path.cons e b (F.path _ _ h));show#[v,a,9]
include az in
def FN.goal:f g=j3 0:=by
 let#[v,a,b]:=F.least g 0 .nil;have:=(F.path _ _ a).nonneg az;rw[a];congr 1
 lia
include az in
def FN.other{k:κ}{v:Int}(c:k≠g)(h:f k=j3 v):1<=v/\∃e∈rs,∃u,e.a=k/\f e.b=j3 u/\v=u+e.t:=by
 rcases(F.path _ _ h).first with⟨e,_⟩|⟨e,he,u,rfl,p,rfl⟩
 .exact bt e c
 let l:=p.nonneg az;let m:=az e he;let#[d,a,n]:=F.least _ _ p;let#[w,b,r]:=F.back he a;rw[h]at b;cases b;show#[9,e,he,d,2,a,9]
end
def Path.min{rs:List (iO κ)}(b:∀e∈rs,1<=e.t){s g:κ}:∀(n:Nat)(w:Int),w.X=n->Path rs s g w->∃v,Path rs s g v/\(∀u,Path rs s g u->v<=u):=by
 intro n
 induction n using aiC with
 |_ n i=>
  intro w f p;by_cases h:∃u,Path rs s g u/\u<w
  .let#[u,a,d]:=h;let c:=a.nonneg b;exact i u.toNat qI u rfl a
  show#[w,p,λu a=>?_];by_cases q:w<=u
  .exact q
  show-bt #[u,a,9] h
open Classical in
def dist(rs:List (iO κ))(s g:κ):Option Int:=if h:∃v,Path rs s g v/\∀u,Path rs s g u->v<=u then j3 (Yx h)else jp
def abq{rs:List (iO κ)}{s:κ}{d:κ->Option Int}(L:PR rs s d)(g:κ):d g=dist rs s g:=by
 unfold dist;cases hd:d g with
 |some v=>
  let p:=L.path g v hd;let f:∀u,Path rs s g u->v<=u:=λu m=>by let#[n,k,l]:=L.least g u m;rw[hd]at k;cases k;show-l
  let h:∃v,Path rs s g v/\∀u,Path rs s g u->v<=u:=#[v,p,f]
  rw[dif_pos h];let c:=Ja h;congr 1;let a:=f _ c.1;let b:=c.2 _ p
  lia
 |none=>
  let h:¬∃v,Path rs s g v/\∀u,Path rs s g u->v<=u:=λ⟨v,p,_⟩=>by let#[n,k,_]:=L.least g v p;rw[hd]at k;cases k
  rw[dif_neg h]
def Sz{rs:List (iO κ)}(a:∀e∈rs,1<=e.t)(g:κ):FN rs (λk=>dist rs k g) g:=by
 show#[λk v h=>?_,λk w p=>?_]
 .unfold dist at h;split at h
  .rename_i q;cases h;exact(Ja q).1
  cases h
 let q:=p.min a _ _ rfl;show∃v,dist rs k g=j3 v/\v<=w;unfold dist;rw[dif_pos q];show#[1,(Ja q).2 _ p]
end dZ
namespace dP
open PySem aq b4 cm
def cG(a:bb)(d:cm.fV):dZ.iO Str:=#[S (a.getD d.a []),S (a.getD d.b []),d.t]
def ix(a:bb)(ds:b0):List (dZ.iO Str):=ds.map (cG a)
structure Tab(kvs:List (bD×aq.V))(D:m9):Prop where
 at_:∀k:Str,c8 kvs (f5 k:bD)=(D k).map V.int
 dX:∀cx∈kvs,∃k:Str,cx.1=(f5 k:bD)
def am7{c:List (bD×aq.V)}(h:∀a∈c,∃k:Str,a.1=(f5 k:bD))(b:Str)(v:aq.V):∀a∈gh c (f5 b:bD) v,∃k:Str,a.1=(f5 k:bD):=by
 intro a d;unfold gh at d;split at d
 .let#[q,g,e]:=bQ.mp d;let#[k,f]:=h q g;split at e
  .show#[k,by rwa[<-e]]
  show#[k,by rwa[<-e]]
 rcases gU.mp d with z|z
 .exact h a z
 show#[b,by rw[e4.mp z]]
theorem Tab.put{a:List (bD×aq.V)}{D:m9}(T:Tab a D)(b:Str)(v:Int):Tab (gh a (f5 b:bD) (.int v)) (dZ.put D b v):=#[λk=>by
 rw[Ib];unfold dZ.put;by_cases h:k=b
 .rw[a' h,a' (fe f5 h)];rfl
 rw[a4 h,a4 λz=>h (Qz z)];show-T.at_ k,am7 T.dX b _]
def ZP{b:Type}[DecidableEq b]{a:List (b×aq.V)}{k:b}(v:aq.V)(h:c8 a k=j3 u):(gh a k v).Z=a.Z:=by unfold gh;rw[a' (by rw[q7,h];rfl),aM]
def z4(D:m9)(e:dZ.iO Str):Bool:=match D e.a with
 |none=>q9
 |some v=>match D e.b with
  |none=>q4
  |some u=>decide (v+e.t<u)
def af5{D:m9}{e:dZ.iO Str}(h:z4 D e=q4):∃v,D e.a=j3 v/\∀u,D e.b=j3 u->v+e.t<u:=by
 unfold z4 at h;cases aB:D e.a with
 |none=>rw[aB]at h;cases h
 |some v=>
  rw[aB]at h;show#[v,2,λu a=>?_];rw[a]at h;show-nD h
def afQ{D:m9}{e:dZ.iO Str}(h:z4 D e=q9):dZ.ok D e:=by
 intro v a;unfold z4 at h;rw[a]at h;cases af:D e.b with
 |none=>rw[af]at h;cases h
 |some u=>
  rw[af]at h;show#[u,2,by have:=of_decide_eq_false h;lia]
def BL:Option Int->aq.V
 |none=>.cf
 |some v=>.int v
def am8(o:Option Int):(o.map V.int).getD .cf=BL o:=by cases o<;>rfl
inductive é(vs:aV)(H:ag)(Q:aX)(fq:bM):Prop where
 |mk(r f:Addr)(hs:bb)(d:cm.fV)(kvs:List (bD×aq.V))(D:m9)(_:vs=[.ref r,.ref f])(_:H r=j3 (.tup (kA hs d)))(_:H f=j3 (.cZ kvs))(_:Tab kvs D)(_:Q (.bo (z4 D (cG hs d))) H)
inductive Pc(K:aL)(vs:aV)(H:ag)(Q:aX)(fq:bM):Prop where
 |mk(b:Addr)(hs:bb)(rs:bS)(ds:b0)(h:Str)(_:vs=[.ref b,.str h])(_:aI K H b (aT rs))(_:gG H hs rs ds)(_:hs.Z<=12)(_:h∈hs.map S)(_:∀(p:Addr)(H':ag)(kvs:List (bD×aq.V))(D:m9),H p=jp->aD H H'->H' p=j3 (.cZ kvs)->Tab kvs D->dZ.PR (ix hs ds) h D->Q (.ref p) H')
section
variable{P:cq}{w:bW}{K:aL}{mg:b5}{base:Heap}
abbrev Ju:Stmt:=top 55
abbrev EC:Stmt:=top 56
def am9:cJ Bv Bv (b_ Ju):=({})
def Ed:cJ ["roads","house","found","changed","road"] yn (b_ EC):=({})
def alk{f:Addr}(F:cp K "is_shorter_by" "is_shorter_by" Ju f fd):-aH a9 1 f fd Bv é:=by
 show-F.ok am9 (λ_ A _ s H e Q E c h=>?_);let#[r,l,a,d,N,D,2,b,n,T,q]:=h;show#[_,(a7 (er (PE (YP (lF c) (cn ey (ae 0) a8) (ae 1))) (a_ (cc i2)) eB)
  (a_ (cc (apK (an5 (YP (lF c) (cn ey (ae 0) a8) (ae 1))) (oF (l7 xD (br h9 (xc (lF c) (ae 1) (cn ey (ae 0) a8) (λ_ _=>rfl)) (cn ey (ae 0) a8)) (xc (lF c) (ae 1) (cn ey (ae 0) a8) (λ_ _=>rfl)) (eK _))))))),4]
 ac_rfl
 let L:=T.at_ (S (a.getD d.a []));let V:=T.at_ (S (a.getD d.b []));let g:=j9.k (k:=f5 (S (a.getD d.a []))) n;let m:=j9.k (k:=f5 (S (a.getD d.b []))) n;rw[L]at g;rw[V]at m;unfold z4 at q;let p:(cG a d).a=S (a.getD d.a []):=rfl;let t:(cG a d).b=S (a.getD d.b []):=rfl;rw[p,t]at q;show#[1,r,_,3,cj.of b,7,l,1,g,1,4];cases aB:D (S (a.getD d.a []))with
 |none=>
  rw[aB]at q;show-jr q
 |some v=>
  rw[aB]at q g;show-iN ?_;show#[1,r,_,3,cj.of b,7,l,1,m,1,4];cases af:D (S (a.getD d.b []))with
  |none=>
   rw[af]at q;show-jr q
  |some u=>
   rw[af]at q m;show-iN ?_;show#[5,r,_,3,cj.of b,2,l,1,g,1,r,_,3,cj.of b,2,3,5,r,_,3,cj.of b,2,l,1,m,3,q]
inductive arp(b p:Addr)(h':Str)(hs:bb)(ds:b0)(H:ag)(m:Nat)(aa:aq.St)(cg:ag):Prop where
 |mk(kvs:List (bD×aq.V))(D:m9)(ch:Bool)(N4:ji)(_:aa=[j3 (.ref b),j3 (.str h'),j3 (.ref p),j3 (.bo ch),N4])(_:aD H cg)(_:cg p=j3 (.cZ kvs))(_:Tab kvs D)(_:kvs.Z<=(hs.map S).countP (λk=>(D k).isSome))(_:dZ.kh (ix hs ds) h' (hs.map S) D)(_:ch=q9->∀e∈ix hs ds,dZ.ok D e)(_:m=2*dZ.j8 (hs.map S) D+(if ch=q4 then 1 else 0))
inductive arq(b p:Addr)(h':Str)(hs:bb)(ds:b0)(H:ag)(D:m9)(i:Nat)(aa:aq.St)(ho:ag):Prop where
 |mk(lE:List (bD×aq.V))(dN:m9)(pd:Bool)(vF:ji)(_:aa=[j3 (.ref b),j3 (.str h'),j3 (.ref p),j3 (.bo pd),vF])(_:aD H ho)(_:ho p=j3 (.cZ lE))(_:Tab lE dN)(_:lE.Z<=(hs.map S).countP (λk=>(dN k).isSome))(_:dZ.kh (ix hs ds) h' (hs.map S) dN)(_:(pd=q9/\dN=D/\∀j d,j<i->ds[j]?=j3 d->dZ.ok dN (cG hs d))\/(pd=q4/\dZ.j8 (hs.map S) dN<dZ.j8 (hs.map S) D))
inductive ars(b p:Addr)(h':Str)(hs:bb)(ds:b0)(H:ag)(D:m9)(bx:aq.St)(ho:ag):Prop where
 |mk(lE:List (bD×aq.V))(dN:m9)(pd:Bool)(vF:ji)(_:bx=[j3 (.ref b),j3 (.str h'),j3 (.ref p),j3 (.bo pd),vF])(_:aD H ho)(_:ho p=j3 (.cZ lE))(_:Tab lE dN)(_:lE.Z<=(hs.map S).countP (λk=>(dN k).isSome))(_:dZ.kh (ix hs ds) h' (hs.map S) dN)(_:(pd=q9/\dN=D/\∀e∈ix hs ds,dZ.ok dN e)\/(pd=q4/\dZ.j8 (hs.map S) dN<dZ.j8 (hs.map S) D))
def alm{f fs:Addr}(F:cp K "least_turns_from" "least_turns_from" EC f fd)(Co:bU K mg "is_shorter_by" Ju Bv fs Y)(VN:-aH a9 1 fs Y Bv é):
  -aH a9 2 f fd yn (Pc K):=by
 show-F.ok Ed (λ_ A _ s H vs Q E X h=>?_);let#[b,a,rs,ds,g,2,af,de,bX,hm,q]:=h;show#[_,(a7 (cE 2 Ed.aA (amz (akO (ae 1) a8 amy) rfl rfl (by intro z;cases z) x8))
  (a7 (cE 3 Ed.aA i2)
  (a7 (X3 kH (kp (ae 3))
   (a7 (cE 3 Ed.aA i2)
  (a_ (kq kH rfl (h7 (ae 0)) (dV 4 Ed.aA)
   (a_ (er (kp (c2 VN Co X.mono b9 (aj (ae 4) (aj (ae 2) aw)))) (a7 (O_ (lF X) (ae 2) (cn ey (ae 4) a8) (br h9 (xc (lF X) (ae 2) (cn ey (ae 4) a8) (λ_ _=>rfl)) (cn ey (ae 4) a8)) rfl)
  (a_ (cE 3 Ed.aA i2))) eB))))))
  (a_ (cc (ae 2)))))),4]
 ac_rfl
 let LG:∀e∈ix a ds,1<=e.t/\e.t<=9:=λe he=>by let#[d,B,2]:=bQ.mp he;exact(de.ok d B).t
 refineλp az=>#[1,aQ,[(f5 g,.int 0)],2,(by show 1<=15;decide),4]
 let cD:upd (upd H p (.cZ [])) p (.cZ (Es [] [((f5 g:bD),V.int 0)]))=upd H p (.cZ [((f5 g:bD),V.int 0)]):=by rw[Oi];rfl
 rw[cD];let s0:aD H (upd H p (.cZ [((f5 g:bD),V.int 0)])):=bT az;let T0:Tab [((f5 g:bD),V.int 0)] (λk=>if k=g then j3 0 else jp):=#[λk=>by
  by_cases z:k=g
  .rw[pk (fe f5 z.J),a' z];rfl
  rw[oy λy=>z (Qz y).symm,a4 z];rfl,λcx N=>#[g,by rw[e4.mp N]]]
 let m0:dZ.kh (ix a ds) g (a.map S) (λk=>if k=g then j3 0 else jp):=dZ.kh.begin hm;let R5:0<(a.map S).countP λk=>((if k=g then j3 (0:Int)else jp).isSome):=ahH.mpr #[g,hm,by simp];show#[arp b p g a ds H,
  #[6,_,q4,jp,2,s0,aQ,T0,R5,m0,λz=>(nomatch z),2],4]
 rintro m aa cg ⟨M,D,ch,N4,rfl,U,N,T,len,mid,bu,rfl⟩;show#[5,4];cases ch with
 |false=>show-iN #[1,q p cg M D az U N T (mid.done (bu rfl))]
 |true=>
  show-jr #[ars b p g a ds H D,4,4]
  .rintro bx ho ⟨l,c,C,O,rfl,L,o,t,G,x,n⟩;show#[_,4,l,c,C,O,2,L,o,t,G,x,4,2]
   .rcases n with⟨rfl,rfl,_⟩|⟨rfl,b6⟩
    .simp
    simp
    lia
   rintro rfl;rcases n with⟨_,_,aW⟩|⟨z,_⟩
   .exact aW
   cases z
  show#[1,b,2,#[_,U.seq af],4];refine q6 (xs:=aT rs) (arq b p g a ds H D)
   #[M,D,q9,N4,2,U,N,T,len,mid,.inl #[2,2,λj d J _=>bt J (Qd _)]] ?_ ?_ ?_
  .rintro i bx ho hi ⟨l,c,C,O,rfl,L,_⟩;show-L.seq af
  .rintro i z bx ho fy ⟨l,c,C,O,rfl,L,o,t,G,x,n⟩;unfold aT at fy;rw[cR]at fy;let#[r,dH,2]:=e6.mp fy;let#[d,I,sW,B]:=de.get dH;let Z:cG a d∈ix a ds:=bQ.mpr #[d,dm I,2];show#[5,r,p,a,d,l,c,2,L _ _ B,o,t,1,4];cases zp:z4 c (cG a d)with
   |false=>
    show-iN #[l,c,C,1,L,o,t,G,x,4];rcases n with⟨rfl,rfl,aW⟩|n
    .refine .inl #[2,2,λj d' J fJ=>?_];by_cases TP:j=i
     .subst TP;rw[I]at fJ;cases fJ;show-afQ zp
     show-aW j d' qI fJ
    show-.inr n
   |true=>
    let#[v,aB,zo]:=af5 zp;let wL:c (S (a.getD d.a []))=j3 v:=aB;let#[awr,b6]:=x.put LG Z (vz sW.b) aB zo;let ga:=j9.k (k:=f5 (S (a.getD d.a []))) o;rw[t.at_,wL]at ga;let GH:(a.map S).countP (λk=>(c k).isSome)<=(a.map S).Z:=ahG;rw[aM]at GH;let vi:=L _ _ B;show-jr ?_;show#[5,r,_,3,cj.of vi,2,p,1,ga,1,r,_,3,cj.of vi,2,3,5,r,_,3,cj.of vi,2,p,1,uz.k (k:=f5 (S (a.getD d.b []))) o (el qI),4];show#[_,dZ.put c (cG a d).b (v+(cG a d).t),q4,1,hq az L,aQ,t.put _ _,4,awr,.inr #[2,4]]
    .cases du:c (S (a.getD d.b []))with
     |none=>
      let R:(gh l (f5 (S (a.getD d.b [])):bD) (V.int (v+d.t))).Z=l.Z+1:=by rw[DU _ (by rw[t.at_,du];rfl),c0];rfl
      let aC:(a.map S).countP (λk=>(c k).isSome)<(a.map S).countP (λk=>(dZ.put c (cG a d).b (v+(cG a d).t) k).isSome):=
       dZ.Sb (b:=S (a.getD d.b [])) (λk N=>by unfold dZ.put;split;rfl;show-N) (by rw[du];rfl) (by unfold dZ.put;rw[a' (show S (a.getD d.b [])=(cG a d).b from rfl)];rfl) (vz sW.b)
      show-dQ (Qb R) qI
     |some u=>
      let R:(gh l (f5 (S (a.getD d.b [])):bD) (V.int (v+d.t))).Z=l.Z:=ZP _ (by rw[t.at_,du];rfl);let aC:(a.map S).countP (λk=>(c k).isSome)<=(a.map S).countP (λk=>(dZ.put c (cG a d).b (v+(cG a d).t) k).isSome):=
       dZ.count_le (λk N=>by unfold dZ.put;split;rfl;show-N) _
      show-dQ (Qb R) qI
    rcases n with⟨_,rfl,_⟩|⟨_,ak⟩
    .exact b6
    show-By b6 ak
  rintro bx ho ⟨l,c,C,O,rfl,L,o,t,G,x,n⟩;show#[l,c,C,O,2,L,o,t,G,x,4];rcases n with⟨rfl,rfl,aW⟩|n
  .refine .inl #[2,2,λe he=>?_];let#[d,B,2]:=bQ.mp he;let#[j,J]:=nY B;show-aW j d ?_ J;let ai:=(fU.mp J).1;let ak:=de.len;rw[eW]
   lia
  show-.inr n
end
end dP
namespace b4
open PySem PySem.Spec PyProof.Rows aq
section
variable{X:bA}
def art(f:fo):fo:=λD d H=>∃a b,H a=j3 (.cZ b)/\∀o,f #[λc H'=>H' a=j3 (.fp o (.cZ b))/\D.cX c (upd H' a (.cZ b)),λv H'=>H' a=j3 (.fp o (.cZ b))/\D.rt v (upd H' a (.cZ b)),λc H'=>H' a=j3 (.fp o (.cZ b))/\D.jk c (upd H' a (.cZ b)),λc H'=>H' a=j3 (.fp o (.cZ b))/\D.fI c (upd H' a (.cZ b))] d (upd H a (.fp o (.cZ b)))
def aoN{st:Stmt}(P:f3 X st U):f3 X st (art U):=by
 intro d s V H D I h;let#[a,n,p,h]:=h;let j:∀N,X.g9 a≠j3 (.tup N):=λN z=>by have:=I.base.hE a N z;rw[p]at this;cases this
 let u:∀o v,X.g9 a≠j3 (.fp o v):=λo v z=>by have:=I.base.i0 a o v z;rw[p]at this;cases this
 let i:∀A,X.g9 a≠j3 (.s_ A):=λA z=>by let#[m,e]:=I.base.jx a A z;rw[p]at e;cases e
 let ok:=I.bu a _ p;let#[z,y,Y,K,o,O,M,e,c]:=id ok;let G:Inv X d V (upd H a (.fp o (.cZ n))) s:=Jq I p (by intro _ w;cases w) (by intro _ w;cases w) #[e,z,y,Y,K,o,O,M,e,c] j u i;let b:∀{g:aq.St}{H':ag}{L:aS},Inv X d g H' L->H' a=j3 (.fp o (.cZ n))->Inv X d g (upd H' a (.cZ n)) L:=λ{g H' L}k l=>by let#[Z,F,T,t,r,R,C,B,E,Q]:=k.bu a _ l;show-Jq k (u':=.cZ n) l (by intro _ w;cases w) (by intro _ w;cases w) #[F,T,t,r,R,C,B,E,Q] j u i
 show-bL (P d s V _ _ G (h o)) λf s1 q=>?_;cases f with
 |next=>
  let#[g,H',k,l,q]:=q;show#[g,_,b k l,q]
 |brk=>
  let#[g,H',k,l,q]:=q;show#[g,_,b k l,q]
 |cont=>
  let#[g,H',k,l,q]:=q;show#[g,_,b k l,q]
 |ret v=>
  let#[g,x,H',k,J,l,q]:=q;show#[g,x,_,b k l,J,q]
def Rq(a:Addr)(o:Obj)(b:List (bD×V)):fF:=
 #[λi H=>H a=j3 (.fp o (.cZ b))/\i<b.Z,λi H v H'=>H'=H/\∃k x,v=di k/\b[i]?=j3 (k,x),λi H=>H a=j3 (.fp o (.cZ b))/\b.Z<=i]
def Po{H:ag}{h:Heap}{o:Obj}{c:List (bD×V)}(ok:gw P w H h)(F:H a=j3 (.fp o (.cZ c))):h.get? a=j3 o/\(a==kY)=q9/\o.ExactDict/\∃g s,o.data=.dict g s/\g.size=c.Z/\
  ∀(i:Nat)(k:bD)(x:V),c[i]?=j3 (k,x)->∃D:i<g.size,RelV (di k) g[i].key:=by
 let#[C,_,y,T,d,O,g,s,A,G,J,_,z,_]:=ok a _ F;rw[C]at A;cases A;let gen:∀{c:List (bD×V)}{L:List (bD×Value)}{m:List pY},hG c L->Pairs (iY P w) m L->m.Z=c.Z/\∀(i:Nat)(k:bD)(x:V),c[i]?=j3 (k,x)->∃e,m[i]?=j3 e/\RelV (di k) e.key:=by
  intro c L m d z
  induction z generalizing c with
  |nil=>
   cases d;show#[2,λi k x e=>by simp at e]
  |@cons e I m L K B t E=>
   cases d with
   |@cons p q R Q a b=>
    let#[l,f]:=E b;show#[by rw[ej,ej,l],λi k x u=>?_];cases i with
    |zero=>
     simp only[PY,Qh]at u;show#[e,2,4];let A:I.1=k:=by rw[<-a.1,u]
     rw[A]at K;rcases tK (show AI k e.key=q4 from K)with⟨n,t,rfl,j⟩|⟨n,t,rfl,j⟩
     .show#[t,j]
     show#[t,j]
    |succ i=>show-f i k x (by simpa using u)
 let#[l,f]:=gen d z;show#[C,y,G,g,s,J,by simpa using l,λi k x D=>?_];let#[e,M,r]:=f i k x D;let#[K,B]:=fU.mp M;let N:i<g.size:=by simpa using K
 show#[N,4];have:g[i]=e:=by simpa using B
 rwa[this]
end
def ahe{K:aL}{o:Obj}{m:List (bD×V)}{Z:Array pY}{Y:Nat}(a l:Addr)(N:o.data=.dict Z Y):
  Turn P w K d6 (Rq a o m) [l] l (λi h=>h.IsKeyIter l a i Z.size Y)where
 mem:=by simp
 obj:=λi h st b g=>by
  obtain rfl:b=l:=by simpa using g
  let#[o,e,c,d]:=st;show#[o,e,λv z=>by rw[d]at z;cases z]
 keep:=λi h L st k=>by let#[o,e,r]:=st;show#[o,k l xg o e,r]
 item:=by
  intro X J R M U i f s T H E I t st x;subst J R M;let#[u,hi]:=x;let#[O,_,c_,tJ,qX,n,ay,ge]:=Po I.bu u;rw[N]at n;cases n;obtain⟨p,yZ⟩:∃q,m[i]?=j3 q:=#[_,cQ hi]
  let#[sq,xl]:=ge i p.1 p.2 yZ;let#[B,C,f2,y,D,G]:=t l xg;show-ř st #[o,O,c_,N] sq λL iH c6=>?_;let aU:Inv X f T H {s with heap:=L}:=I.turned (t':=s.toks) (λb o g e=>(c6.2 b g).trans e) B C y D G;let#[adX,e,c,d]:=id iH;show#[1,AX (s:={s with heap:=L}) e c d x8 #[di p.1,H,aU,xl,#[2,p.1,p.2,2,yZ],iH,λb g=>(t b g).1]]
 done:=by intro X J R M U i f s T H E I t st x;subst J R M;let#[u,hi]:=x;let#[O,_,c_,tJ,qX,n,ay,ge]:=Po I.bu u;rw[N]at n;cases n;let#[B,C,f2,y,D,G]:=t l xg;exact Ê (I.ok.hd U) st #[o,O,c_,N] qI λL dW=>#[2,I.turned (t':=s.toks) (λb o g e=>dW b o g e) B C y D G]
 self:=λA i s Q E st h=>by let j:=st.typeIs;show-ae3 j F.slot_dict_keyiterator_iter (nP F.slot_dict_keyiterator_iter j F.entry_dict_keyiterator_iter ?_ (F.args_dict_keyiterator_iter_1 _));show-bk #[1,"dict_keyiterator",_,j,F.slot_dict_keyiterator_next.lookup,h]
section
variable{X:bA}{d6:Expr}
def aoi(f:TE):eV:=λd H R=>f d H λx c=>∃a o b,x=.ref a/\c a=j3 (.fp o (.cZ b))/\R (Rq a o b) c
def aln(aW:bq X o i):m6 X d6 o (aoi i):=by
 intro c s n H R I h;show-bL (aW c s n H _ I h) λv f K=>?_;let#[x,l,d,t,a,N,L,w,m,r]:=K;subst w;cases t;let#[A,k,c_,q,j,g,V,u]:=Po d.bu m;show-Ä k #[N,A,c_,g] ?_;show#[f.L,[f.L],6,l,2,d.kept (t':=f.toks) λb o e=>dO _ e,ahe a _ g,#[_,gJ _ rfl,2,2],λb p=>?_,r];obtain rfl:b=f.L:=by simpa using p
 show-d.tN (b7 _) (d.bu.fresh (b7 _))
def ajl{b:List (bD×V)}{g:kK}{l:fo}{D:Ends}{H:ag}(d:Nat->aq.St->ag->Prop)(t:d 0 c H)(r:∀i c H,d i c H->H a=j3 (.fp o (.cZ b)))(L:∀i k x c H,b[i]?=j3 (k,x)->d i c H->g (di k) c H λN n=>l {D with cX:=d (i+1),fI:=d (i+1),jk:=D.cX} N n)(K:∀c H,d b.length c H->D.cX c H):
  xC (Rq a o b) g l D c H:=by
 show#[λi m c H=>m=b.Z-i/\i<=b.Z/\d i c H,#[b.Z,by simp,eu _,t],4];rintro i m c H ⟨rfl,j,p⟩;let q:=r i c H p;by_cases f:i<b.Z
 .refine .inr #[#[q,f],d (i+1),λh H' A=>#[b.Z-(i+1),9,2,f,A],λv H' y=>?_];let#[2,k,x,2,w]:=y;show-L i k x c H' w p
 let e:i=b.Z:=by lia
 subst e;show-.inl #[#[q,b7 _],K c H p]
abbrev uI(l:Addr):Obj:={cls:=.type "list_iterator",data:=.fields (List.toArray [.ref l,.int 0 0])}
def r5{b d:Type}{M:m5}{E:cC}(c:Sem b){k:b->Sem d}{Q:d->aS->Prop}(h:aO M A c (λa f=>aO M A (k a) Q E f) E s):aO M A (c >>=k) Q E s:=(ax h)
def QS{h:Heap}(e:h.get? b=j3 o):b≠h.Y:=(e8 (dE e))
def PF{h:Heap}(e:h.get? b=j3 o):b≠h.Y+1:=(e8 (wa (dE e)))
def Df(b:Bool):String:=cond b "max" "min"
def De(b:Bool):String:=cond b "max.loop" "min.loop"
def U5(b:Bool):CmpOp:=cond b .Gt .Lt
theorem Rj:∀b,entryFor table (De b)=j3 (cond b Builtin.«max.loop» Builtin.«min.loop»)
 |true=>PySem.F.entry_max_loop
 |false=>PySem.F.entry_min_loop
theorem x9:∀b,plainId (De b)=q4
 |true=>PySem.F.plain_max_loop
 |false=>PySem.F.plain_min_loop
def KH:(toString "max"++toString ".loop":String)=De q4:=by decide
def KI:(toString "min"++toString ".loop":String)=De q9:=by decide
def ana(u:Bool){A:ee}{R:wh->aS->Prop}{D z:bS}{n:Nat}{P:Nat->Value->Prop}{St:Nat->Heap->Prop}{d:Value}(W:Walks prog w A.in1 I D z n P St)(m:jW)(M:CmpOf prog w A.in1 (U5 u) P m)(S:Addr)(B:S∉D):
  ∀(k j:Nat)(s:aS)(a:Value)(c:Nat),n-(j+1)=k->j+1<=n->St (j+1) s.Q->P (kL m j) a->s.heap.get? S=j3 #[.type "list",jp,.seq (List.toArray [a,a]) c,#[]]->
   (∀v K r,P (kL m (n-1)) v->(∀b o,b∉z->b≠S->s.heap.get? b=j3 o->K.get? b=j3 o)->R (.ok (.ret v)) {s with heap:=K,toks:=r})->
   pe (ba prog w) A (.builtin (De u) #[[.ref I,.none,.ref S],[(cU "default",d)]]) R s:=by
 cases u
 all_goals
  let G:S∉z:=λh=>B (W.sub _ h);intro k
  induction k with
  |zero=>
   intro j s a c J O st L p t;let E:j+1=n:=by lia
   show-B' (Rj _) ?_;rw[IZ (x9 _) _];show-r5 (Nx (.ref S)) (vK p rfl (r5 (tryCatch (ky (.ref I)) _) (Oe (W.done s _ _ (E▸st) λK r g=>?_))));show-r5 (updateSeq S (λ_=>#[])) (ae4 (g S _ G p) rfl (ax (Ax (bk ?_))));show-t a _ r (by rw[<-E];show-L) λb o f l e=>(tq _ _ (e5 l)).trans (g b o f e)
  |succ k C=>
   intro j s a c J O st L p t;let lt:j+1<n:=by lia
   show-B' (Rj _) ?_;rw[IZ (x9 _) _];show-r5 (Nx (.ref S)) (vK p rfl (r5 (tryCatch (ky (.ref I)) _) (Oe (W.item (j+1) s _ _ lt st λv K r ae F g=>?_))));let N:=g S _ G p;show-r5 (tryCatch (tW [v,v] (richCompare _ v a >>=_)) _) (Oe (nQ (ax (M (j+1) (kL m j) v a _ _ _ ae L (ax (nQ (tf (ax (Ax (bk ?_))))))))));cases af:m (j+1) (kL m j)with
   |true=>
    simp only[if_true];show-ax (ae4 N rfl (ax (Ax ?_)))
    first|rw[KH]|rw[KI]
    show-bk #[M0 (x9 _) _,C (j+1) _ v _ qI lt (W.frame _ _ _ F λb H o e=>(tq _ _ (λh:S=b=>B (by rwa[h]))).trans e) (by simp only[kL,af,if_true];show-ae) (xT _ N rfl) λy q x V i=>?_];show-t y q x V λb o f l e=>i b o f l ((tq _ _ (e5 l)).trans (g b o f e))
   |false=>
    simp only[AP,if_false];show-ax (Ax ?_)
    first|rw[KH]|rw[KI]
    show-bk #[M0 (x9 _) _,C (j+1) _ a c qI lt F (by simp only[kL,af,AP,if_false];show-L) N λy q x V i=>t y q x V λb o f l e=>i b o f l (g b o f e)]
def alo(t:Bool){A:ee}{R:wh->aS->Prop}{L m:bS}{n:Nat}{P:Nat->Value->Prop}{St:Nat->Heap->Prop}(W:Walks prog w A.in1 I L m n P St)(r:jW)(y:CmpOf prog w A.in1 (U5 t) P r)(S:Addr)(p:S∉L){s:aS}{c:Nat}(st:St 0 s.Q)(V:s.heap.get? S=j3 #[.type "list",jp,.seq #[] c,#[]])(z:n=0->∀a f,(∀b o,b∉m->b≠S->s.heap.get? b=j3 o->a.get? b=j3 o)->R (.ok (.ret d)) {s with heap:=a,toks:=f})(u:0<n->∀v a f,P (kL r (n-1)) v->(∀b o,b∉m->b≠S->s.heap.get? b=j3 o->a.get? b=j3 o)->R (.ok (.ret v)) {s with heap:=a,toks:=f}):
  pe (ba prog w) A (.builtin (De t) #[[.ref I,.none,.ref S],[(cU "default",d)]]) R s:=by
 cases t
 all_goals
  let E:S∉m:=λh=>p (W.sub _ h);show-B' (Rj _) ?_;rw[IZ (x9 _) _];show-r5 (Nx (.ref S)) (vK V rfl ?_);by_cases g:n=0
  .refine r5 (tryCatch (ky (.ref I)) _) (Oe (W.done s _ _ (g▸st) λa f k=>?_));show-ax (vJ (bk ?_));show-z g a f λb o l _ e=>k b o l e
  show-r5 (tryCatch (ky (.ref I)) _) (Oe (W.item 0 s _ _ (Ð g) st λv a f ae B k=>?_));let K:=k S _ E V;show-r5 (updateSeq S (λ_=>(List.toArray [v,v]))) (ae4 K rfl ?_)
  first|rw[KH]|rw[KI]
  show-bk #[M0 (x9 _) _,ana _ W r y S p _ 0 _ v _ rfl (Ð g) (W.frame _ _ _ B λb q o e=>(tq _ _ (λh:S=b=>p (by rwa[h]))).trans e) ae (xT _ K rfl) λD x C i j=>?_];show-u (Ð g) D x C i λb o l N e=>j b o l N ((tq _ _ (e5 N)).trans (k b o l e))
theorem arP:∀b,builtinKind (Df b)=jp
 |true=>PySem.F.kind_max
 |false=>PySem.F.kind_min
theorem arQ:∀b,plainId (Df b)=q4
 |true=>PySem.F.plain_max
 |false=>PySem.F.plain_min
theorem arR:∀b,entryFor table (Df b)=j3 (cond b Builtin.«max» Builtin.«min»)
 |true=>PySem.F.entry_max
 |false=>PySem.F.entry_min
def arS(b:Bool)(a v:Value):argsOk (Df b) #[[a],[(cU "default",v)]]:=by cases b<;>(unfold argsOk;kernel_rfl)
def U4(b:Bool)(val:Nat->Int)(i j:Nat):Bool:=cond b (decide (val i>val j)) (decide (val i<val j))
def arT{a:lY}(b:Bool)(val:Nat->Int)(c:∀i v,a[i]?=j3 v->∃t,v=qS (val i) t):CmpOf prog w A (U5 b) (λi v=>a[i]?=j3 v) (U4 b val):=by
 cases b
 .exact CmpOf.ints_lt val c
 show-CmpOf.ints_gt val c
def aoj(p:Bool){A:ee}{E:cC}{s:aS}{items:lY}{val:Nat->Int}{Q:cC}(q:A.in1.handled=jp)(k:s.heap.IsList l items)(L:∀i v,items[i]?=j3 v->∃t,v=qS (val i) t)(h:items.size=0->∀a c,(∀b o,s.heap.get? b=j3 o->a.get? b=j3 o)->Q d {s with heap:=a,toks:=c})(V:0<items.size->∀t a c,(∀b o,s.heap.get? b=j3 o->a.get? b=j3 o)->Q (qS (val (kL (U4 p val) (items.size-1))) t) {s with heap:=a,toks:=c}):
  aO (ba prog w) A (call (.builtin (Df p)) [.ref l] [(cU "default",d)]) Q E s:=by
 cases p
 all_goals
  let#[ol,K,_]:=id k;let u:l≠s.L:=e8 (dE K);show-az4 (arP _) (arQ _) (arR _) (arS _ _ _) ?_;show-r5 (azf _ ["key","default"] 0 #[[],[(cU "default",d)]]) (IE (show _=pure [jp,j3 d]from rfl) ?_);show-ax (bk ?_);show-ax (Ej k ?_);show-ax (pW ?_)
  first|rw[KH]|rw[KI]
  let W:=Ko (prog:=prog) (w:=w) (A:=A.in1) q s.heap.objs.size l u items;let g:(s.heap.push (uI l)).objs.size=s.L+1:=uM ..;let y:=dE K;let f:(s.heap.push (uI l)).get? s.L=j3 (uI l):=gJ _ rfl;let N:=k.push (uI l);let r:∀b o,s.heap.get? b=j3 o->(s.heap.push (uI l)).get? b=j3 o:=λb o e=>dO _ e;dsimp only;generalize s.heap.push (uI l)=x at g f N r⊢;show-bk #[M0 (x9 _) _,alo _ W _ (arT _ val L) x.objs.size (by rw[g];simp only[et,dU,or_false,not_or];show#[aiI _,e5 (PF K)]) #[#[_,dO _ f,2,2],N.push _] (gJ _ rfl) (λn a c m=>?_) λn v a c ae m=>?_]
  .exact h n a c λb o e=>m b o (by simp only[et,dU,or_false];show-QS e) (by rw[g];show-PF e) (dO _ (r b o e))
  let#[j,2]:=L _ v ae;show-V n j a c λb o e=>m b o (by simp only[et,dU,or_false];show-QS e) (by rw[g];show-PF e) (dO _ (r b o e))
def ayd(K:aL)(f:List Int->Int)(t:gb)(l:TE):TE:=λg H Q=>t g H λm k=>kT l vT g k λn c=>∃d a b,n=[d]/\m=[.ref a]/\aI K c a (b.map V.int)/\(b=[]->Q d c)/\(b≠[]->Q (.int (f b)) c)
theorem ê{val:Nat->Int}:∀k,kL (λi j=>decide (val i>val j)) k<=k/\∀j,j<=k->val j<=val (kL (λi j=>decide (val i>val j)) k)
 |0=>#[b7 _,λj h=>by rw[aiz.mp h];show-rL _]
 |k+1=>by
  let#[a,b]:=ê (val:=val) k;simp only[kL];by_cases h:val (k+1)>val (kL (λi j=>decide (val i>val j)) k)
  .rw[a' (cw h)];show#[b7 _,λj d=>?_];rcases yv j (k+1)with c|c
   .exact ZH (b j qI) (ZG h)
   rw[show j=k+1 by lia];show-rL _
  rw[a4 (by rw[c9 h];show-gZ)];show#[9,λj d=>?_];rcases yv j (k+1)with c|c
  .exact b j qI
  rw[show j=k+1 by lia];lia
theorem ZQ{val:Nat->Int}:∀k,kL (λi j=>decide (val i<val j)) k<=k/\∀j,j<=k->val (kL (λi j=>decide (val i<val j)) k)<=val j
 |0=>#[b7 _,λj h=>by rw[aiz.mp h];show-rL _]
 |k+1=>by
  let#[a,b]:=ZQ (val:=val) k;simp only[kL];by_cases h:val (k+1)<val (kL (λi j=>decide (val i<val j)) k)
  .rw[a' (cw h)];show#[b7 _,λj d=>?_];rcases yv j (k+1)with c|c
   .exact ZH (ZG h) (b j qI)
   rw[show j=k+1 by lia];show-rL _
  rw[a4 (by rw[c9 h];show-gZ)];show#[9,λj d=>?_];rcases yv j (k+1)with c|c
  .exact b j qI
  rw[show j=k+1 by lia];lia
def A4(a:gz):Int:=a.getD (kL (λi j=>decide (a.getD i 0>a.getD j 0)) (a.Z-1)) 0
def aok:iW "max"=j3 (.builtin "max"):=by left
def qp(a:gz):Int:=a.getD (kL (λi j=>decide (a.getD i 0<a.getD j 0)) (a.Z-1)) 0
def aol:iW "min"=j3 (.builtin "min"):=by left
def mN(b:Bool):Str:=cond b "max" "min"
def ads(b:Bool)(a:gz):Int:=cond b (A4 a) (qp a)
def aqh(b:Bool)(a:gz):ads b a=a.getD (kL (U4 b λi=>a.getD i 0) (a.Z-1)) 0:=by cases b<;>rfl
theorem aqi:∀b,iW (mN b)=j3 (.builtin (Df b))
 |true=>aok
 |false=>aol
end
def ų(d:Bool)(f:List Int->Int)(T:f=ads d){X:bA}{m:Pos}{t:gb}(R:X.calm=q4)(Z:jd X (mN d))(hm:X.mg (mN d)=jp)(M:fN X [e] t)(hd:bq X j eS)(F:(od pos (oH [#[j3 "default",j,m]] X.env)).all (·.1.isSome)=q4:=by rfl)(w:(od pos (oH [#[j3 "default",j,m]] X.env)).filterMap (·.1)=[cU "default"]:=by rfl)(he:dM [e] X.env=(q9,eval e X.env)::dM [] X.env:=by rfl)(d3:(hr pos (dM [e] X.env)).any (·.1)=q9:=by rfl)(A:(od pos (oH [#[j3 "default",j,m]] X.env)).any (·.1.isNone)=q9:=by rfl):
  bq X (.Call (.Name (mN d) p) [e] [#[j3 "default",j,m]] pos) (ayd X.K f t eS):=by
 intro g s o H Q I h;show-As (Ab I Z hm (aqi d) ?_ (by cases d<;>decide) (by cases d<;>decide));show-callWith_builtin_kwB d3 A (evalArgs_kw2 F (bL (M pos g s o H _ I h) λus s1 n=>?_) he);let#[vs,G,P,r,q]:=n;show-bL ((alR hd anG) pos g s1 o G _ P q) λws s2 n=>?_;let#[zs,y,l,E,c']:=n;let#[J,a,k,2,2,Y,xf,U]:=c';let#[u,2,en]:=vals1 r;let#[gY,2,kB]:=vals1 E;cases en;rw[w];let#[c,C,pl,n]:=l.list Y;let b:k.Z=c.Z:=by have:=C.Z;rwa [aM]at this
 show-aoj d (val:=λi=>k.getD i 0) (items:=c.toArray) (l.ok.hd R) pl.isList (λi v ev=>?_) (λz h' O K=>?_) λz t h' O K=>?_
 .let N:c[i]?=j3 v:=by simpa using ev
  let D:i<k.Z:=by rw[b];exact(fU.mp N).1
  let#[u',B,cu]:=C.get (x:=V.int (k.getD i 0)) (i:=i) (by rw[cR,cQ D];simp[dB,D]);rw[N]at B;cases B;show-cu
 .let L:k=[]:=χ.mp (by rw[b];simpa using z);show#[J,y,l.kept K,kB,xf L]
 let L:k≠[]:=λe=>by rw[e]at b;have:c=[]:=χ.mp b.J;rw[this]at z;simp at z
 show#[.int (f k),y,l.kept K,#[t,4],U L];rw[T,aqh,b];simp
def aom{c:gz}(h:c≠[]):A4 c∈c/\∀x∈c,x<=A4 c:=by
 let k:0<c.Z:=p3.mpr h;let#[a,b]:=ê (val:=λi=>c.getD i 0) (c.Z-1);let d:kL (λi j=>decide (c.getD i 0>c.getD j 0)) (c.Z-1)<c.Z:=by lia
 show#[4,λx f=>?_]
 .unfold A4;rw[dB,cQ d];show-nZ d
 let#[j,g,2]:=P4.mp f;have:=b j qI;let e:c.getD j 0=c[j]:=by rw[dB,cQ g];rfl
 rwa[<-e]
def Jv{ns:gz}(h:ns≠[]):qp ns∈ns/\∀x∈ns,qp ns<=x:=by
 let g:0<ns.Z:=p3.mpr h;let#[a,b]:=ZQ (val:=λi=>ns.getD i 0) (ns.Z-1);let c:kL (λi j=>decide (ns.getD i 0<ns.getD j 0)) (ns.Z-1)<ns.Z:=by lia
 show#[4,λx d=>?_]
 .unfold qp;rw[dB,cQ c];show-nZ c
 let#[j,f,2]:=P4.mp d;have:=b j qI;let e:ns.getD j 0=ns[j]:=by rw[dB,cQ f];rfl
 rwa[<-e]
def Y2{X:bA}(y:X.calm=q4):ks X (.builtin "min") (λj H Q=>∃a d,j=[.ref a]/\aI X.K H a (d.map V.int)/\d≠[]/\Q (.int (qp d)) H):=by
 intro N s O H j U Q I r h;let#[a,d,2,z,E,q]:=h;let#[u,2,en]:=vals1 r;cases en;let#[f,K,pl,R]:=I.list z;let c:d.Z=f.Z:=by have:=K.Z;rwa [aM]at this
 let p:∀i v,f.toArray[i]?=j3 v->∃t,v=qS (d.getD i 0) t:=λi v F=>by
  let k:f[i]?=j3 v:=by simpa using F
  let L:i<d.Z:=by rw[c];exact(fU.mp k).1
  let#[T,n,C]:=K.get (x:=V.int (d.getD i 0)) (i:=i) (by rw[cR,cQ L];simp[dB,L]);rw[k]at n;cases n;show-C
 let g:=pl.isList;let#[ol,J,_]:=id g;let m:=dE J;let G:(s.heap.push (uI a)).objs.size=s.L+1:=uM ..;let W:=Ko (prog:=X.prog) (w:=X.w) (A:=X.A.in1) (I.ok.hd y) s.heap.objs.size a (e8 m) f.toArray;show-call_min_walk (Ej g #[s.L,6,6,_,1,W,#[#[_,gJ _ rfl,2,2],g.push (uI a)],λb l=>?_,by rw[f',<-c];show-p3.mpr E,CmpOf.ints_lt (λi=>d.getD i 0) p,λv P M ae B=>?_])
 .show b<(s.heap.push (uI a)).objs.size;rw[G];simp only[et,dU,or_false]at l;rcases l with rfl|rfl
  .exact yw _
  show-wa m
 let#[D,2]:=p _ v ae;show#[.int (qp d),H,I.kept λb o e=>B b o (by simp only[et,dU,or_false];show-QS e) (dO _ e),#[D,4],q];unfold qp;rw[c];simp
end b4
namespace dP
open PySem aq b4 cm
def TabAt(H:ag)(p:Addr)(D:m9):Prop:=∃a,fV H p (.cZ a)/\Tab a D
def TabAt.get{D:m9}(T:TabAt H p D)(g:Str):j9 H p (.str g) ((D g).map V.int):=by let#[a,r,t]:=T;show-.inl #[a,f5 g,r,2,(t.at_ g).symm]
def wu(a b:m9)(g:Str)(t:Int):Bool:=match b g with
 |none=>q9
 |some u=>decide (j3 (t+u)=a g)
inductive Ŵ(vs:aV)(H:ag)(Q:aX)(fq:bM):Prop where
 |mk(r f h0 pL:Addr)(hs:bb)(d:cm.fV)(kvs:List (bD×aq.V))(g:Str)(Da Db:m9)(_:vs=[.ref r,.ref f,.str g])(_:H r=j3 (.tup (kA hs d)))(_:H f=j3 (.cZ kvs))(_:c8 kvs (f5 (S (hs.getD d.a [])):bD)=j3 (.ref h0))(_:c8 kvs (f5 (S (hs.getD d.b [])):bD)=j3 (.ref pL))(_:TabAt H h0 Da)(_:TabAt H pL Db)(_:(∀u,Db g=j3 u->∃v,Da g=j3 v))(_:Q (.bo (wu Da Db g d.t)) H)
abbrev iG(a:bb)(ds:b0)(h:Str):Str->Option Int:=λg=>dZ.dist (ix a ds) h g
def NJ(a:bb)(ds:b0)(i:Int):Str:=S (a.getD (ds.getD i.toNat e1).b [])
def vV(a:bb)(ds:b0)(h g:Str)(i:Int):Bool:=wu (iG a ds h) (iG a ds (NJ a ds i)) g (ds.getD i.toNat e1).t
def fit(a:bb)(ds:b0)(h g:Str):List Int:=(mn a ds (·.a) h).filter (vV a ds h g)
def best(a:bb)(ds:b0)(h g:Str):Int:=qp (fit a ds h g)
def ś(n:∀e∈ix b ds,1<=e.t){v:Int}(k:iG b ds h g=j3 v)(K:h≠g):fit b ds h g≠[]:=by
 let#[_,e,A,u,p,L,t]:=(dZ.Sz n g).other n K k;let#[d,w,2]:=bQ.mp A;let#[i,m]:=nY w;let r:=(fU.mp m).1;let l:ds.getD i e1=d:=xb m;show-ahZ (a:=(i:Int)) (hH.mpr #[4,4])
 .unfold mn EB;show-bQ.mpr #[i,hH.mpr #[kF.mpr r,4],2];let c:S (b.getD d.a [])=h:=p;rw[l,c];exact cw rfl
 unfold vV wu NJ;rw[jf,l];let f:iG b ds (S (b.getD d.b [])) g=j3 u:=L;let N:v=u+d.t:=t;rw[f,k];show-cw ?_;congr 1
 lia
theorem OJ(d:∀e∈ix a ds,1<=e.t){g:Str}{v:Int}(b:iG a ds h g=j3 v)(c:h≠g):best a ds h g∈mn a ds (·.a) h/\vV a ds h g (best a ds h g)=q4:=
 hH.mp (Jv (ś d b c)).1
structure rD(jY:Str->Str->Int)(L:bE)(kvs:eo)(M:Str->Str->Prop):Prop where
 yes:∀h g,M h g->c8 kvs (gu h g)=j3 (.int (jY h g))
 no:∀h g,¬M h g->c8 kvs (gu h g)=jp
 key:∀k∈kvs.map (·.1),∃h g,k=gu h g/\h∈L/\g∈L
 aA:(kvs.map (·.1)).Nodup
def Jw{b a:Str}(e:gu h g=gu b a):h=b/\g=a:=by unfold gu at e;simp only[PT,akw,and_true]at e;show-e
def Zx{b:Type}[DecidableEq b]{a:List (b×aq.V)}{k:b}(v:aq.V)(h:c8 a k=j3 u):(gh a k v).map (·.1)=a.map (·.1):=by unfold gh;rw[a' (by rw[q7,h];rfl),ek];show-rP λq _=>?_;show(if q.1=k then(q.1,v)else q).1=q.1;split<;>rfl
def rD.put{f:Str->Str->Int}{L:bE}{a:eo}{M:Str->Str->Prop}(B:rD f L a M){h g:Str}(n:h∈L)(l:g∈L):rD f L (gh a (gu h g) (.int (f h g))) (λc b=>M c b\/(c=h/\b=g)):=by
 show#[λc b m=>?_,λc b m=>?_,4,4]
 .rw[Ib];by_cases e:gu c b=gu h g
  .let#[2,2]:=Jw e;rw[a' rfl]
  rw[a4 e];show-B.yes c b (m.resolve_right λz=>e ?_);rw[z.1,z.2]
 .rw[Ib,a4 λe=>m (.inr (Jw e))];show-B.no c b λz=>m (.inl z)
 .intro k d;cases i:c8 a (gu h g)with
  |none=>
   rw[DU _ i,eb]at d;rcases gU.mp d with z|z
   .exact B.key k z
   show#[h,g,e4.mp z,n,l]
  |some u=>
   rw[Zx _ i]at d;show-B.key k d
 cases i:c8 a (gu h g)with
 |none=>show-amA _ B.aA i
 |some u=>rw[Zx _ i];show-B.aA
theorem rD.iff{b:Str->Str->Int}{L:bE}{a:eo}{M c:Str->Str->Prop}(B:rD b L a M)(e:∀h g,M h g↔c h g):rD b L a c:=
 #[λh g m=>B.yes h g ((e h g).mpr m),λh g m=>B.no h g λz=>m ((e h g).mp z),B.key,B.aA]
def rD.bX{n:Str->Str->Int}{L:bE}{a:eo}{M:Str->Str->Prop}(B:rD n L a M)(c:L.Z<=12):a.Z<=144:=by
 let b:=q1 (L:=L.flatMap λh=>L.map (gu h)) B.aA λk d=>by let#[h,g,2,m,l]:=B.key k d;show-P2.mpr #[h,m,bQ.mpr #[g,l,2]]
 let f:(L.flatMap λh=>L.map (gu h)).Z=L.Z*L.Z:=by simp[ahW,List.map_const']
 rw[f,aM]at b;show-dQ b (Fp c c)
theorem anb(d:aD H H')(z:hP):aD (upd H a z) (upd H' a z):=λb o e=>by
 by_cases c:b=a
 .rw[c,aQ]at e⊢;show-e
 rw[aR c]at e⊢;show-d b o e
theorem alp{H:ag}(d:H a=j3 u)(f:aD (upd H a z) H'):aD H (upd H' a u):=λb o e=>by
 by_cases c:b=a
 .rw[c,aQ];rwa[c,d]at e
 rw[aR c];show-f b o (by rwa[aR c])
section
variable{P:cq}{w:bW}{K:aL}{mg:b5}{base:Heap}
abbrev KJ:Stmt:=top 60
def ŵ:cJ ["road","far_from","goal","behind"] Fe (b_ KJ):=({})
def aon{f:Addr}(F:cp K "begins_shortest" "begins_shortest" KJ f fd):-aH a9 1 f fd Fe Ŵ:=by
 show-F.ok ŵ (λ_ A _ s H M Q E b h=>?_);let#[r,N,x,L,t,d,y,g,J,i,2,l,m,z,B,C,n,c,q]:=h;show#[_,(a7 (cE 3 ŵ.aA (N3 (lF b) (xc (lF b) (ae 1) (cn ey (ae 0) a8) (λ_ _=>rfl)) (ae 2) #[2,2,2,2]))
  (a_ (cc (jn (l7 Ol (ae 3) iZ (eK _)) (oF (l7 nB (br h9 (cn ey (ae 0) a8) (ae 3)) (xc (lF b) (xc (lF b) (ae 1) (cn ey (ae 0) a8) (λ_ _=>rfl)) (ae 2) (λ_ _=>rfl)) (eK _))))))),4]
 ac_rfl
 let p:=j9.k (k:=f5 (S (t.getD d.a []))) m;let e:=j9.k (k:=f5 (S (t.getD d.b []))) m;rw[z]at p;rw[B]at e;let o:=C.get g;let D:=n.get g;unfold wu at q;let j:EV H L:=by let#[G,r0,_]:=n;show-.inl #[G,r0]
 show#[5,r,_,3,cj.of l,2,N,1,e,L,2,j,1,_,D,1,4];cases af:i g with
 |none=>
  rw[af]at q;show#[7,eM x8 q]
 |some u=>
  rw[af]at q;let#[v,c]:=c u af;let a:=o;rw[c]at a q;show#[7,d1 xg #[1,r,_,3,cj.of l,7,3,5,r,_,3,cj.of l,2,N,1,p,1,x,1,a,2,4]];let I:decide (V.int (d.t+u)=V.int v)=decide (j3 ((d.t:Int)+u)=j3 v):=by simp
  rwa[I]
def Zy{a:bb}{y:Str}(h:y∈a.map S):inD (.str y) (bR a)=q4:=by
 let#[x,c,2]:=bQ.mp h;let#[k,b,d]:=yb c;let e:a.getD k []=x:=by rw[dB,cQ b,d];rfl
 have:=amn b
 rwa [e]at this
def zY{c:bb}{h g:Str}(a:h∈c.map S)(b:g∈c.map S)(n:h≠g):kN (bR c) (.str h) (.str g)=q4:=by unfold kN;rw[Zy a,Zy b,ZL,c9 n];rfl
def xu{a:bb}(G:Good a){c:Str}(h:c∈a.map S):cO H (.str c) (.str c):=by let#[x,b,2]:=bQ.mp h;let n:=G.nm x b;show-.str _ (by rw[ew];have:=n.2.1;lia) (Zh n)
def Ŷ(b H:ag)(q:Addr)(d:List (bD×aq.V))(c:bb)(ds:b0)(h:Str):Prop:=∃(p:Addr)(a:List (bD×aq.V)),c8 d (f5 h:bD)=j3 (.ref p)/\p≠q/\b p=jp/\H p=j3 (.cZ a)/\Tab a (iG c ds h)
def gH{H H':ag}(b:aD H H')(a:H' p=jp):H p=jp:=by
 cases e:H p with
 |none=>rfl
 |some o=>rw[b _ _ e]at a;cases a
def gP{H:ag}(c:H a=j3 o)(d:H b=jp):a≠b:=(λe=>by rw[e,d]at c;cases c)
def aaS{a:bb}{i:Nat}(e:(c1 a)[i]?=j3 v):∃h,v=.str h/\(a.map S)[i]?=j3 h:=by unfold c1 at e;rw[cR]at e;let#[x,b,2]:=e6.mp e;show#[S x,2,by rw[cR,b];rfl]
def Y3{b:Type}[DecidableEq b]{k:b}{x:aq.V}:∀{a:List (b×aq.V)},(k,x)∈a->(c8 a k).isSome=q4:=(λ{a}h=>by rw[<-q7];show-tw.mpr #[_,h,cw rfl])
def Xz{b:Type}[DecidableEq b]{k:b}{a:List (b×aq.V)}(h:(c8 a k).isSome=q4):∃(j:Nat)(x:aq.V),a[j]?=j3 (k,x):=by rw[<-q7]at h;let#[#[d,x],hm,e]:=tw.mp h;let#[j,c]:=nY hm;show#[j,x,by rw[c,show d=k from nD e]]
def anc{a:bb}{ds:b0}(R:∀d∈ds,d.Ok a.Z){h g:Str}{u:Int}(p:dZ.Path (ix a ds) h g u)(hm:h∈a.map S):g∈a.map S:=by
 cases p with
 |nil=>show-hm
 |snoc e _ he=>
  let#[d,b,2]:=bQ.mp he;show-vz (R d b).b
def OK{c:bb}{ds:b0}{h:Str}{i:Nat}(e:((mn c ds (·.a) h).map V.int)[i]?=j3 v):∃(k:Nat)(d:cm.fV),v=.int (k:Int)/\ds[k]?=j3 d/\S (c.getD d.a [])=h:=by let#[z,f,2]:=bQ.mp (dm e);unfold mn EB at f;let#[k,g,2]:=bQ.mp f;let#[l,b]:=hH.mp g;let m:=kF.mp l;let a:ds[k]?=j3 ds[k]:=cQ m;show#[k,ds[k],2,a,4];rw[xb a]at b;have:=nD b;cases this;rfl
def Ee{a:TE}{g:kK}{u:fo}{D:Ends}(h:a e H λv b=>g v e b (u D)):jQ (x5 a g) u D e H:=(h)
end
theorem ane{K:aL}{A:eV}{w:iL}{t:TE}{rest:aq.St}{H:ag}{Q:aX}{xs:aV}(s:∀R:fF->ag->Prop,(∀p g,H p=jp->aD H g->g p=j3 (.lst xs)->R (kE K p) g)->A e H R)(j:hX cs e=jp::rest)(N:xs.Z<sizeLine)(p:aq.V->Bool)(f:aq.V->aq.V)(d:∀(i:Nat)(x:aq.V)(a:ag)(R:Bool->ag->Prop),xs[i]?=j3 x->aD H a->(∀c,aD a c->R (p x) c)->w (j3 x::rest) a R)(m:∀(i:Nat)(x:aq.V)(a:ag)(R:aX),xs[i]?=j3 x->p x=q4->aD H a->(∀c,aD a c->R (f x) c)->t (j3 x::rest) a R)(r:∀(D:Addr)(H':ag),H D=jp->H' D=j3 (.lst ((xs.filter p).map f))->aD H H'->Q (.ref D) H'):kD A cs (hW 0) w t e H Q:=
 s _ λq g L k V=>QD j (pB (aI.of V)) N p f (λi x a R n b h=>d i x a R n (k.trans b) h) (λi x a R n l b h=>m i x a R n l (k.trans b) h) λD H' o bR b=>r D H' (gH k o) bR (k.trans b)
def Told(a:bb)(ds:b0)(i:Nat)(h g:Str):Prop:=(∃j,j<i/\(a.map S)[j]?=j3 h)/\h≠g/\(iG a ds h g).isSome=q4
def jC(d:bb)(ds:b0)(i:Nat)(h:Str)(c:List (bD×aq.V))(j:Nat)(a g:Str):Prop:=Told d ds i a g\/(a=h/\h≠g/\∃b z,b<j/\c[b]?=j3 (f5 g,z))
section
variable{hs:bb}{ds:b0}{i j:Nat}{h g:Str}{cx:List (bD×aq.V)}{z:aq.V}
def jC.zero(b a:Str):Told hs ds i b a↔jC hs ds i h cx 0 b a:=(#[.inl,λz=>z.resolve_right λ⟨_,_,c,_,y,_⟩=>bt y (Qd _)])
theorem jC.less:jC hs ds i h cx j u s->jC hs ds i h cx (j+1) u s
 |.inl y=>.inl y
 |.inr ⟨a,b,x,o,e,q⟩=>.inr #[a,b,x,o,wa e,q]
def jC.more(c:cx[j]?=j3 (f5 g,z))(t:jC hs ds i h cx (j+1) s o):jC hs ds i h cx j s o\/(s=h/\h≠o/\o=g):=by
 rcases t with y|⟨a,b,q,x,u,e⟩
 .exact .inl (.inl y)
 rcases yv q j with y|y
 .exact .inl (.inr #[a,b,q,x,y,e])
 have:q=j:=aiv (aiw u) y;subst this;rw[c]at e;cases e;show-.inr #[a,b,2]
def jC.skip(f:cx[j]?=j3 (f5 h,z))(d a:Str):jC hs ds i h cx j d a↔jC hs ds i h cx (j+1) d a:=(#[.less,λt=>(jC.more f t).elim id λ⟨_,b,c⟩=>bt c.symm b])
def jC.put(k:cx[j]?=j3 (f5 g,z))(l:h≠g)(f d:Str):(jC hs ds i h cx j f d\/(f=h/\d=g))↔jC hs ds i h cx (j+1) f d:=(#[λt=>t.elim .less λ⟨a,b⟩=>.inr #[a,b▸l,j,z,yw _,b▸k],λt=>(jC.more k t).imp id λ⟨a,_,c⟩=>#[a,c]])
def jC.end(p:Tab cx (iG hs ds h))(m:(hs.map S)[i]?=j3 h)(l k:Str):jC hs ds i h cx cx.length l k↔Told hs ds (i+1) l k:=by
 constructor
 .rintro(⟨⟨j,f,a⟩,b,c⟩|⟨rfl,b,n,z,_,d⟩)
  .show#[#[j,wa f,a],b,c]
  show#[#[i,yw _,m],b,4];have:=Y3 (dm d);rw[p.at_]at this;simpa using this
 rintro⟨⟨j,f,a⟩,b,c⟩;by_cases e:l=h
 .subst e;have:(c8 cx (f5 k:bD)).isSome=q4:=by rw[p.at_];simpa using c
  let#[n,z,d]:=Xz this;show-.inr #[2,b,n,z,(fU.mp d).1,d]
 show-.inl #[#[j,4,a],b,c];rcases yv j i with y|y
 .exact y
 have:j=i:=aiv (aiw f) y;subst this;rw[m]at a;cases a;exact bt rfl e
end
structure ni(hs:bb)(ds:b0)(kvs:eo):Prop where
 jY:rD (best hs ds) (hs.map S) kvs (λh g=>h∈hs.map S/\h≠g/\(iG hs ds h g).isSome=q4)
section
variable{P:cq}{w:bW}{K:aL}{mg:b5}{base:Heap}
abbrev H5:Stmt:=top 61
def v5:cJ ["net","roads","far_from","house","ways","goal","fitting"] ["net"] (b_ H5):=({})
inductive Rk(C CN:Addr)(vs:aV)(H:ag)(Q:aX)(fq:bM):Prop where
 |mk(n bp bl:Addr)(hs:bb)(rs:bS)(ds:b0)(_:vs=[.ref n])(_:iC CN H n bp bl (c1 hs) (aT rs))(_:Good hs)(_:gG H hs rs ds)(_:rs.Z<=40)(_:∀(x t:Addr)(H':ag)(kvs:eo),H x=jp->H t=jp->aD H H'->mP C CN H' x n t bp bl (c1 hs) (aT rs) kvs->ni hs ds kvs->Q (.ref x) H')
inductive arU(n dk dI eR:Addr)(hs:bb)(ds:b0)(H1:ag)(i:Nat)(aa:aq.St)(cg:ag):Prop where
 |mk(qe:List (bD×aq.V))(Al:ji)(_:aa=[j3 (.ref n),j3 (.ref dk),j3 (.ref dI),Al,jp,jp,jp])(_:aD H1 cg)(_:cg eR=j3 (.lst (c1 hs)))(_:cg dI=j3 (.cZ qe))(_:qe.Z<=i)(_:∀j h,j<i->(hs.map S)[j]?=j3 h->Ŷ H1 cg dI qe hs ds h)
inductive arV(C al n dk dI x t js:Addr)(hs:bb)(ds:b0)(cg:ag)(i:Nat)(aa:aq.St)(ho:ag):Prop where
 |mk(kvs:eo)(Al td rq:ji)(_:aa=[j3 (.ref n),j3 (.ref dk),j3 (.ref dI),Al,j3 (.ref x),td,rq])(_:aD cg ho)(_:ho js=j3 (.lst (c1 hs)))(_:ho x=j3 (.ins C al (md n t)))(_:ho t=j3 (.c3 kvs))(_:rD (best hs ds) (hs.map S) kvs (Told hs ds i))
inductive arW(C al n dk dI x t js h0:Addr)(hs:bb)(ds:b0)(cg:ag)(o:Obj)(cx:List (bD×aq.V))(h:Str)(i:Nat)(j:Nat)(aa:aq.St)(xS:ag):Prop where
 |mk(kvs:eo)(td rq:ji)(_:aa=[j3 (.ref n),j3 (.ref dk),j3 (.ref dI),j3 (.str h),j3 (.ref x),td,rq])(_:aD (upd cg h0 (.fp o (.cZ cx))) xS)(_:xS js=j3 (.lst (c1 hs)))(_:xS x=j3 (.ins C al (md n t)))(_:xS t=j3 (.c3 kvs))(_:rD (best hs ds) (hs.map S) kvs (jC hs ds i h cx j))
def aqj{f:Addr}(F:cp K "shortest" "shortest" H5 f fd)(B:fc mg)(cT:uo K C)(eZ:fw K CN)(sP:mg "Ways"=j3 (.ref C))(iV:dn K CN "houses" "Net.houses" w5 gx f1 cW)(nc:-aH a9 1 f1 cW gx (zB CN))(lp:dn K CN "roads" "Net.roads" zX gx f2 d8)(qV:-aH a9 1 f2 d8 gx (DW CN))(r':dn K CN "out_of" "Net.out_of" FL lT cV iz)(CM:-aH (fE P w) 2 cV iz lT (QP CN hQ (·.a)))(u3:bU K mg "least_turns_from" EC yn f4 u_)(Cb:-aH a9 2 f4 u_ yn (Pc K))(Cj:bU K mg "begins_shortest" KJ Fe fz Gi)(ayE:-aH a9 1 fz Gi Fe Ŵ)(Iy:o8 K C j0)(oj:nW K C "Ways.__init__" D5 my j0 sk)(vc:-aH a9 1 j0 sk my (KC C))(oc:dn K C "set_way" "Ways.set_way" D4 tB Gd SD)(wA:-aH (fE P w) 3 Gd SD tB (Rn C CN hQ Bx)):
  -aH a9 4 f fd ["net"] (Rk C CN):=by
 let hb:=cT.cl;show-F.ok v5 (λ_ A _ s H vs Q E ao h=>?_);let#[n,bp,bl,a,rs,ds,2,N,G,de,bX,q]:=h;show#[_,(a7 (cE 1 v5.aA (sF (ae 0) eZ lp.eO qV ao.mono lp.bd .nil b9))
  (a7 (cE 2 v5.aA Ze)
  (a7 (kq kH rfl (h7 (sF (ae 0) eZ iV.eO nc ao.mono iV.bd .nil b9)) (dV 3 v5.aA)
   (a_ (O_ (lF ao) (ae 2) (ae 3) (c2 Cb u3 ao.mono b9 (aj (ae 1) (aj (ae 3) aw))) rfl)))
  (a7 (cE 4 v5.aA (vr Iy vc ao.mono xo sP oj.bd .nil b9 (aj (ae 0) aw)))
  (a7 (kq kH rfl (h7 (sF (ae 0) eZ iV.eO nc ao.mono iV.bd .nil b9)) (dV 3 v5.aA)
   (a_ (aoN (kq kH rfl (aln (xc (lF ao) (ae 2) (ae 3) (λ_ _=>rfl))) (dV 5 v5.aA)
   (a_ (er (fQ AF (ae 5) (ae 3) (eK _)) (a7 (w3 (i:=6) v5.aA rfl rfl rfl (N':=["number","far_from","goal","roads"]) (cs:=[jp,j3 2,j3 5,j3 1]) rfl (h7 (gp (ae 0) eZ r'.eO CM ao.mono r'.bd .nil xE (aj (ae 3) aw))) rfl xL rfl xL (ia (gK.mpr #[2,(gK.mpr #[2,(gK.mpr #[2,(λp az=>bt az (dU))])])])) rfl
   (.own (.mF rfl (.inl rfl) (.inl rfl) rfl (.mF rfl (.inl rfl) (.inl rfl) rfl (.mF rfl (.inl rfl) (.inl rfl) rfl .nil))))
   (λC s3 a5 bY da=>#[(dV 0 (by show(["number","far_from","goal","roads"]:bE).Nodup;decide+kernel)),(Oq (kp (c2 ayE Cj ao.mono b9 (aj (cn (akL (K:=K) rfl) (ae 3) (ae 0)) (aj (ae 1) (aj (ae 2) aw)))))),(ae 0)]))
  (a_ (gL (gp (ae 4) hb oc.eO wA ao.mono oc.bd .nil xE (aj (ae 3) (aj (ae 5) (aj (dp (Y2 rfl) B.min ů (aj (ae 6) aw)) aw))))))) eB))))))
  (a_ (cc (ae 4)))))))),4]
 ac_rfl
 let#[fR,hn]:=N.ins;let hlen:=de.len;let Lh:=G.bX;show#[1,n,fR,1,hn,2,n,bp,bl,_,1,N,λdk HC=>?_];let s1:aD H (upd H dk (.lst (aT rs))):=bT HC;let ai:upd H dk (.lst (aT rs)) dk=j3 (.lst (aT rs)):=aQ;generalize upd H dk (.lst (aT rs))=H1 at s1 ai⊢
 refineλM HD=>?_
 let s2:aD H1 (upd H1 M (.cZ [])):=bT HD;let ak:upd H1 M (.cZ []) M=j3 (.cZ []):=aQ;generalize upd H1 M (.cZ [])=ah at s2 ak⊢;show#[1,n,fR,1,s2 _ _ (s1 _ _ hn),2,n,bp,bl,_,1,(N.same s1).same s2,λeR adN=>#[eR,2,#[_,aI.of aQ],4]];let adw:M≠eR:=gP ak adN;refine q6 (xs:=c1 a) (arU n dk M eR a ds H1)
  #[[],jp,2,s2.trans (bT adN),aQ,by rwa[aR adw],b7 _,λj h bg _=>bt bg (Qd _)] ?_ ?_ ?_
 .rintro i aa J hi ⟨qe,Al,rfl,U,a6,_⟩;show-aI.of a6
 .rintro i v aa J ev ⟨qe,Al,rfl,U,a6,bG,TJ,Gu⟩;let#[h,2,ly]:=aaS ev;let Ma:i<a.Z:=by have:=(fU.mp ly).1;rwa [aM]at this
  show#[5,dk,a,rs,ds,h,2,aI.of (U _ _ ai),(de.same s1).same U,Lh,dm ly,λp H' Z D np z5 aN T L=>?_];show#[5,M,1,uz.k (k:=f5 h) (z5 _ _ bG) (el qI),4];let awZ:H1 p=jp:=gH U np;let w8:p≠M:=e5 (gP bG np);let sf:D=iG a ds h:=funext λg=>dZ.abq L g;subst sf;show#[_,1,hq HD (U.trans z5),by rw[aR (e5 adw)];show-z5 _ _ a6,aQ,4,λj h' bg Sp=>?_]
  .cases bc:c8 qe (f5 h:bD)with
   |none=>rw[DU _ bc,c0];simp only[ej,kf];lia
   |some u=>rw[ZP _ bc];lia
  by_cases e:h'=h
  .subst e;show#[p,Z,by rw[Ib,a' rfl],w8,awZ,by rwa[aR w8],T]
  let TP:j<i:=by
   rcases yv j i with z|z
   .exact z
   have:j=i:=by lia
   subst this;rw[ly]at Sp;cases Sp;exact bt rfl e
  let#[fL,awa,vE,ne',awU,tU,eE]:=Gu j h' TP Sp;show#[fL,awa,by rwa[Ib,a4 λz=>e (Qz z)],ne',awU,by rw[aR ne'];show-z5 _ _ tU,eE]
 rintro aa J ⟨qe,Al,rfl,U,a6,bG,TJ,Gu⟩;let ab7:∀h∈a.map S,Ŷ H1 J M qe a ds h:=λh hm=>by let#[j,bg]:=nY hm;show-Gu j h (by have:=(fU.mp bg).1;rw[aM]at this;unfold c1;rwa[aM]) bg
 show#[1,λx l cX sU aw8=>#[x,l,1,aQ,λt fl=>#[2,4]]];let oJ:J t=jp:=by show-gH (hq (o:=.ins C l []) cX (bT (o:=.own x) sU)) fl
 let kZ:x≠t:=gP (H:=upd (upd J l (.own x)) x (.ins C l [])) aQ fl;let qA:aD J (upd (upd (upd (upd J l (.own x)) x (.ins C l [])) t (.c3 [])) x (.ins C l (md n t))):=hq cX (hq oJ (hq cX (bT sU)));let Ur:upd (upd (upd (upd J l (.own x)) x (.ins C l [])) t (.c3 [])) x (.ins C l (md n t)) x=j3 (.ins C l (md n t)):=aQ;let wW:upd (upd (upd (upd J l (.own x)) x (.ins C l [])) t (.c3 [])) x (.ins C l (md n t)) t=j3 (.c3 []):=by rw[aR (e5 kZ),aQ]
 show jQ _ _ _ _ (upd (upd (upd (upd J l (.own x)) x (.ins C l [])) t (.c3 [])) x (.ins C l (md n t)));generalize upd (upd (upd (upd J l (.own x)) x (.ins C l [])) t (.c3 [])) x (.ins C l (md n t))=rJ at qA Ur wW⊢;let Ó:iC CN J n bp bl (c1 a) (aT rs):=(N.same s1).same U;show#[1,n,fR,1,qA _ _ (U _ _ (s1 _ _ hn)),2,n,bp,bl,_,1,Ó.same qA,λjs MK=>#[js,2,#[_,aI.of aQ],4]];let aw0:J js=jp:=gH qA MK;let awy:x≠js:=gP Ur MK;let ady:t≠js:=gP wW MK;refine q6 (xs:=c1 a) (arV C l n dk M x t js a ds J)
  #[[],Al,jp,jp,2,qA.trans (bT MK),aQ,by rwa[aR awy],by rwa[aR ady],#[λh g m=>?_,λh g _=>rfl,λk aN=>(nomatch aN),p4]] ?_ ?_ ?_
 .let#[#[j,bg,_],_]:=m;show-bt bg (Qd _)
 .rintro i aa ho hi ⟨I,aeK,td,rq,rfl,ed,b8,_⟩;show-aI.of b8
 .rintro i v aa ho ev ⟨I,aeK,td,rq,rfl,ed,b8,ar,b',BT⟩;let#[h,2,ly]:=aaS ev;let hm:h∈a.map S:=dm ly;let#[Y,Z,nO,adA,adz,Cx,qR]:=ab7 h hm;let adT:x≠Y:=e5 (gP Cx cX);let VG:t≠Y:=e5 (gP Cx oJ);let adx:js≠Y:=e5 (gP Cx aw0);show#[Y,Z,ed _ _ Cx,λo=>?_];let abX:=j9.k (k:=f5 h) (show upd ho Y (.fp o (.cZ Z)) M=j3 (.cZ qe) by rw[aR (e5 adA)];show-ed _ _ bG);rw[nO]at abX;show#[5,M,1,abX,Y,o,Z,2,aQ,4];refine ajl (arW C l n dk M x t js Y a ds J o Z h i)
   #[I,td,rq,2,anb ed _,by rwa[aR adx],by rwa[aR adT],by rwa[aR VG],BT.iff jC.zero] ?_ ?_ ?_
  .rintro j aa xS ⟨I,td,rq,rfl,O,_⟩;show-O _ _ aQ
  .rintro j k z aa xS d7 ⟨I,td,rq,rfl,O,Lr,wX,L4,EI⟩;let#[g,Sn]:=qR.dX _ (dm d7);let atF:k=f5 g:=Sn;subst atF;let qf:∀e∈ix a ds,1<=e.t:=λe he=>by let#[d,hd,2]:=bQ.mp he;exact(de.ok d hd).t.1
   let avQ:(iG a ds h g).isSome=q4:=by have:=Y3 (dm d7);rw[qR.at_]at this;simpa using this
   let#[v,bc]:=yz.mp avQ;let bz:g∈a.map S:=anc de.ok ((dZ.Sz qf g).path h v bc) hm;show#[5,7,4];by_cases e:g=h
   .subst e;show-eM (show(!decide (V.str g=V.str g))=q9 by rw[cw rfl];rfl) #[I,_,rq,2,O,Lr,wX,L4,EI.iff (jC.skip d7)]
   show-d1 (show(!decide (V.str g=V.str h))=q4 by rw[c9 λy=>e (V.str.inj y)];rfl) ?_;let ih:h≠g:=e5 e;let V':aD H (upd J Y (.fp o (.cZ Z))):=s1.trans (hq adz U);let Ô:=N.same (V'.trans O);let Tj:=de.same (V'.trans O);let avC:=O _ _ ((hq (o:=.fp o (.cZ Z)) adz U) _ _ ai);let avD:=O _ _ (show upd J Y (.fp o (.cZ Z)) M=j3 (.cZ qe) by rwa[aR (e5 adA)]);show-Ee ?_;refine ane (K:=K) (rest:=[j3 (.ref M),j3 (.str g),j3 (.ref dk)]) (xs:=(mn a ds (·.a) h).map V.int) (λR auN=>?_) rfl (by rw[aM];have:=ajz a ds (·.a) h;show-el qI) (λy=>match y with|.int i=>vV a ds h g i|_=>q9) id (λi y je R dt X Th=>?_) (λi y je R dt _ fM Th=>#[1,Th je (aD.refl _)]) (λD je hL bR X=>?_)
   .show#[1,n,fR,1,(V'.trans O) _ _ hn,7,n,bp,bl,a,rs,ds,h,2,Ô,Tj,bX,λ_ xa bH aw1 c5 dC=>#[xa,2,#[_,aI.of dC],auN xa bH aw1 c5 dC],λy=>bt hm y]
   .let#[k,d,2,pf,aG]:=OK dt;obtain⟨r,dH⟩:∃r,rs[k]?=j3 r:=#[_,cQ (by rw[hlen];exact(fU.mp pf).1)]
    let#[d',aby,sW,CD]:=Tj.get dH;rw[pf]at aby;cases aby;let#[pL,vn,qD,aD4,aD3,TQ,eJ]:=ab7 _ (vz sW.b);let akz:TabAt je Y (iG a ds h):=#[Z,.inr #[o,X _ _ (O _ _ aQ)],qR]
    let akA:TabAt je pL (iG a ds (S (a.getD d.b []))):=by
     by_cases dW:pL=Y
     .subst dW;rw[Cx]at TQ;cases TQ;show#[Z,.inr #[o,X _ _ (O _ _ aQ)],eJ]
     show#[vn,.inl (X _ _ (O _ _ (by rwa[aR dW]))),eJ]
    let y1:aq.hp (aT rs) (k:Int)=j3 (.ref r):=jG (by unfold aT;rw[cR,dH];rfl);show#[5,dk,_,3,aI.of (X _ _ avC),y1,5,r,M,Y,pL,a,d,qe,g,_,1,X _ _ CD,X _ _ avD,by rwa[aG],qD,akz,akA,λu cL=>#[v,bc],1,4];let ep:vV a ds h g (k:Int)=wu (iG a ds h) (iG a ds (S (a.getD d.b []))) g d.t:=by unfold vV NJ;rw[jf,xb pf]
    rw[<-ep];show-Th je (aD.refl _)
   let F9:(((mn a ds (·.a) h).map V.int).filter λy=>match y with|.int i=>vV a ds h g i|_=>q9).map id=(fit a ds h g).map V.int:=by rw[uN,E5];rfl
   rw[F9]at bR;show#[1,x,l,1,X _ _ wX,7,5,D,1,aI.of bR,ś qf bc ih,x,n,t,bp,bl,a,rs,ds,I,h,g,1,#[#[l,X _ _ wX],Ô.same X,X _ _ L4],G,Tj.same X,bX,xu G hm,xu G bz,el (by have:=EI.bX (by rwa[aM]);lia),λ_ _ jz i_=>?_,λy=>bt (zY hm bz ih) (by rw[y];decide),λ_ y=>bt (OJ qf bc ih).1 y];let s4:=X.trans i_;show#[6,1,hq (by rwa[aR VG]) (O.trans s4),by rw[aR (e5 ady)];show-s4 _ _ Lr,by rw[aR kZ];show-s4 _ _ wX,aQ,(EI.put hm bz).iff (jC.put d7 ih)]
  rintro aa xS ⟨I,td,rq,rfl,O,Lr,wX,L4,EI⟩;show#[O _ _ aQ,I,_,td,rq,2,alp Cx O,by rwa[aR adx],by rwa[aR adT],by rwa[aR VG],EI.iff (jC.end qR ly)]
 rintro aa ho ⟨I,aeK,td,rq,rfl,ed,b8,ar,b',BT⟩;show#[1,q x t ho I (gH (s1.trans U) cX) (gH (s1.trans U) oJ) ((s1.trans U).trans ed) #[#[l,ar],Ó.same ed,b'] ⟨BT.iff λh g=>#[λ⟨⟨j,_,fJ⟩,b,c⟩=>#[dm fJ,b,c],λ⟨m,b,c⟩=>#[4,b,c]]⟩];let#[j,bg]:=nY m;show#[j,by have:=(fU.mp bg).1;rw[aM]at this;unfold c1;rwa[aM],bg]
end
end dP
namespace b4
open PySem PySem.Spec PyProof.Rows aq PySem.W
structure rB(n:Nat)(lt:jW):Prop where
 nJ:∀i j k,lt i j=q4->lt j k=q4->lt i k=q4
 to:∀i j,i<n->j<n->i≠j->lt i j=q4\/lt j i=q4
 av3:∀i,lt i i=q9
abbrev c_(p:m8)(a:Nat):Nat:=p.getD a 0
def qq(lt:jW)(p:m8)(k:Nat):Prop:=∀a b,a<b->b<k->lt (c_ p a) (c_ p b)=q4
theorem DI{a b:Type}(lt:jW)(f:a->KasT b):∀t:KasT a,iF lt (t.bind f)=iF lt (f (iF lt t))
 |.ret _=>rfl
 |.ask i j k=>DI lt f (k (lt i j))
def ë{a:Type}(lt:jW){c:Prop}[Decidable c](s t:KasT a):iF lt (if c then s else t)=if c then iF lt s else iF lt t:=by split<;>rfl
def fb.size{n:Nat}{p:m8}(h:fb n p):p.size=n:=by have:=h.list.length_eq;simpa using this
def fb.inj{n:Nat}(h:fb n p){a b:Nat}(g:a<n)(k:b<n)(e:c_ p a=c_ p b):a=b:=by
 let c:p.toList.Nodup:=h.list.nodup_iff.mpr Δ;let l:=h.size;let f:c_ p a=p.G[a]'(by simp;lia):=by simp[c_,xK,show a<p.size by lia]
 let d:c_ p b=p.G[b]'(by simp;lia):=by simp[c_,xK,show b<p.size by lia]
 rw[f,d]at e;exact(E7 c).mp e
section
variable{n:Nat}{lt:jW}
def rB.or(o:rB n lt)(h:fb n p){a b:Nat}(d:a<n)(g:b<n)(k:a≠b)(f:lt (c_ p a) (c_ p b)=q9):lt (c_ p b) (c_ p a)=q4:=by
 let c:0<n:=by lia
 rcases o.to (c_ p a) (c_ p b) (h.at c a) (h.at c b) (λe=>k (h.inj d g e))with z|z
 .rw[z]at f;cases f
 show-z
theorem qq.succ(o:rB n lt){k:Nat}(s:qq lt p k)(g:1<=k)(h:lt (c_ p (k-1)) (c_ p k)=q4):qq lt p (k+1):=λa b d f=>by
 by_cases e:b=k
 .subst e;by_cases c:a=b-1
  .rwa[c]
  show-o.nJ _ _ _ (s a (b-1) qI qI) h
 show-s a b d qI
theorem PO(o:rB n lt)(h:fb n p):∀f k,1<=k->k+f<=n->qq lt p k->∃m,iF lt (kas_asc p f k)=m/\k<=m/\m<=k+f/\qq lt p m/\(m<k+f->lt (c_ p m) (c_ p (m-1))=q4)
 |0,k,ai,ak,s=>#[k,2,b7 _,b7 _,s,λz=>bt z qI]
 |f+1,k,ai,ak,s=>by
  show∃m,iF lt (if lt (c_ p k) (c_ p (k-1))=q4 then .ret k else kas_asc p f (k+1))=m/\_;cases e:lt (c_ p k) (c_ p (k-1))with
  |true=>
   rw[a' rfl];show#[k,2,b7 _,9,s,λ_=>e]
  |false=>
   rw[a4 x8];let l:=o.or h (a:=k) (b:=k-1) qI qI qI e;let#[m,c,r,t,d,g]:=PO o h f (k+1) qI qI (s.succ o ai l);show#[m,c,9,9,d,λz=>g qI]
def J4(lt:jW)(p:m8)(k:Nat):Prop:=∀a b,a<b->b<k->lt (c_ p b) (c_ p a)=q4
theorem ì(o:rB n lt)(h:fb n p):∀f k,1<=k->k+f<=n->J4 lt p k->∃m,iF lt (Ha f p k 0)=(p,m,0)/\k<=m/\m<=k+f/\J4 lt p m
 |0,k,ai,ak,s=>#[k,2,b7 _,b7 _,s]
 |f+1,k,ai,ak,s=>by
  show∃m,iF lt (if lt (c_ p k) (c_ p (k-1))=q4 then(if 0>0 then Ha f (Hb p (k-(0+1)) k) (k+1) 0 else Ha f p (k+1) 0)else .ask (c_ p (k-1)) (c_ p k) λd=>if d=q4 then .ret (p,k,0)else Ha f p (k+1) (0+1))=(p,m,0)/\_;cases e:lt (c_ p k) (c_ p (k-1))with
  |true=>
   rw[a' rfl,a4 qI];let t:J4 lt p (k+1):=λa b w K=>by
    by_cases r:b=k
    .subst r;by_cases c:a=b-1
     .rwa[c]
     show-o.nJ _ _ _ e (s a (b-1) qI qI)
    show-s a b w qI
   let#[m,g,c,L,l]:=ì o h f (k+1) qI qI t;show#[m,g,9,9,l]
  |false=>
   rw[a4 x8];let A:=o.or h (a:=k) (b:=k-1) qI qI qI e;show∃m,iF lt (if lt (c_ p (k-1)) (c_ p k)=q4 then .ret (p,k,0)else Ha f p (k+1) (0+1))=(p,m,0)/\_;rw[a' A];show#[k,2,b7 _,9,s]
def J5{p q:m8}{a b:Nat}(e:p[a]?=q[b]?):c_ p a=c_ q b:=by
 let f:∀(r:m8)(c:Nat),c_ r c=(r[c]?).getD 0:=λr c=>by
  show r.getD c 0=_;by_cases d:c<r.size
  .rw[ON d];simp[xK,d]
  rw[I0 qI];simp[xK,d]
 rw[f,f,e]
def Œ{p:m8}{r i:Nat}(a:r<=p.size)(b:i<r):c_ (Hb p 0 r) i=c_ p (r-1-i):=by let h:=getElem?_mirror_all (xs:=p) (i:=0) (j:=r) a i;rw[a' #[eu _,b],show 0+r-1-i=r-1-i by lia]at h;show-J5 h
def ak6(o:rB n lt)(h:fb n p){k:Nat}(l:1<=k)(c:k<=n)(s:J4 lt p k):∃m q,iF lt (Hc k n p)=(m,q)/\1<=m/\m<=n/\qq lt q m/\fb n q:=by
 unfold Hc;rw[DI];let d:=h.rev 0 k;let t:qq lt (Hb p 0 k) k:=λa b K g=>by rw[Œ (by rwa[h.size]) qI,Œ (by rwa[h.size]) g];show-s _ _ qI qI
 let#[m,f,w,A,r,_]:=PO o d (n-k) k l qI t;rw[f];show#[m,1,9,9,r,d]
def ak7(o:rB n lt)(h:fb n p)(j:2<=n):∃m q,iF lt (UL n p)=(m,q)/\1<=m/\m<=n/\qq lt q m/\fb n q:=by
 unfold UL;rw[DI];let#[m,w,g,i,f,K]:=PO o h (n-1) 1 (b7 _) qI (λa b V A=>by lia);rw[w,ë];by_cases r:m=n
 .rw[a' (by simpa using r)];show#[m,p,2,g,9,f,h]
 rw[a4 (by simpa using r),ë];let c:=K qI;by_cases l:m>1
 .rw[a' l];show∃d q,iF lt (if lt (c_ p 0) (c_ p (m-1))=q4 then .ret (m,p)else adj m n (Hb p 0 m))=(d,q)/\_;rw[a' (f 0 (m-1) qI qI)];show#[m,p,2,g,9,f,h]
 rw[a4 l];let L:m=1:=by lia
 subst L;unfold adj;rw[DI];let#[k,N,s,e,t]:=ì o h (n-(1+1)) (1+1) qI qI (λa b V A=>by
  have:a=0/\b=1:=by lia
  rwa[this.1,this.2])
 rw[N];show∃d q,iF lt (if 0>0 then Hc k n (Hb p (k-(0+1)) k)else Hc k n p)=(d,q)/\_;rw[a4 qI];show-ak6 o h qI qI t
theorem OL(o:rB n lt)(h:fb n p){k:Nat}(w:k<n)(s:qq lt p k):∀f l r,l<=r->r<=k->r-l<=f->(∀a,a<l->lt (c_ p a) (c_ p k)=q4)->(∀a,r<=a->a<k->lt (c_ p k) (c_ p a)=q4)->
  ∃m,iF lt (C3 p k f l r)=m/\m<=k/\(∀a,a<m->lt (c_ p a) (c_ p k)=q4)/\∀a,m<=a->a<k->lt (c_ p k) (c_ p a)=q4
 |0,l,r,ai,ak,a6,j,i=>#[l,2,9,j,λa g=>i a qI]
 |f+1,l,r,ai,ak,a6,j,i=>by
  show∃m,iF lt (if l≥r then .ret l else .ask (c_ p k) (c_ p ((l+r)/2)) λc=>if c=q4 then C3 p k f l ((l+r)/2)else C3 p k f ((l+r)/2+1) r)=m/\_;by_cases c:l≥r
  .rw[a' c];show#[l,2,9,j,λa g=>i a qI]
  rw[a4 c];show∃m,iF lt (if lt (c_ p k) (c_ p ((l+r)/2))=q4 then C3 p k f l ((l+r)/2)else C3 p k f ((l+r)/2+1) r)=m/\_;let d:l<=(l+r)/2/\(l+r)/2<r:=by lia
  generalize(l+r)/2=m at d⊢;let#[L,N]:=d;cases e:lt (c_ p k) (c_ p (m))with
  |true=>
   rw[a' rfl];show-OL o h w s f l (m) L qI qI j λa g A=>?_;by_cases t:a=m
   .rwa[t]
   show-o.nJ _ _ _ e (s _ _ qI A)
  |false=>
   rw[a4 x8];let K:=o.or h (a:=k) (b:=m) w qI qI e;show-OL o h w s f (m+1) r qI ak qI (λa g=>?_) i;by_cases t:a=m
   .rwa[t]
   show-o.nJ _ _ _ (s a _ qI qI) K
def œ{p:m8}{k l i:Nat}(b:k<p.size)(d:l<=k):c_ (bubble p k (k-l)) i=if i=l then c_ p k else if l<i/\i<=k then c_ p (i-1)else c_ p i:=by
 let h:=getElem?_bubble (xs:=p) b (k-l) qI i;rw[show k-(k-l)=l by lia]at h;by_cases c:i=l
 .rw[a' c]at h⊢;show-J5 h
 rw[a4 c]at h⊢;by_cases a:l<i/\i<=k
 .rw[a' a]at h⊢;show-J5 h
 rw[a4 a]at h⊢;show-J5 h
theorem Ŕ(o:rB n lt):∀(f:Nat)(p:m8)(k:Nat),fb n p->qq lt p k->k+f=n->qq lt (iF lt (UK f p k)) n
 |0,p,k,h,s,e=>by
  have:k=n:=by lia
  subst this;show-s
 |f+1,p,k,h,s,e=>by
  show qq lt (iF lt ((C3 p k k 0 k).bind λl=>UK f (bubble p k (k-l)) (k+1))) n;rw[DI];let#[m,A,g,L,N]:=OL o h (k:=k) qI s k 0 k (eu _) (b7 _) qI (λa w=>bt w qI) (λa j K=>bt K qI);rw[A];show-Ŕ o f _ _ (h.abh _ _) (λa b V i=>?_) qI;let r:k<p.size:=by rw[h.size];lia
  rw[œ r g,œ r g];by_cases c:a=m
  .rw[a' c,a4 qI,a' #[9,9]];show-N (b-1) qI qI
  rw[a4 c];by_cases b1:b=m
  .rw[a' b1,a4 qI];show-L a qI
  rw[a4 b1];by_cases d:m<a/\a<=k
  .rw[a' d,a' #[9,9]];show-s _ _ qI qI
  rw[a4 d];by_cases t:m<b/\b<=k
  .rw[a' t];show-s _ _ qI qI
  rw[a4 t];show-s _ _ V qI
def agf(o:rB n lt):(s9 lt n).Pairwise λi j=>lt i j=q4:=by
 unfold s9;by_cases p:n<2
 .rw[a' p];have:n=0\/n=1:=by lia
  rcases this with e|e<;>subst e<;>simp[E_]
 rw[a4 p];let A:fb n (Bm (dY n)):=afr _;unfold C4;rw[DI];let#[m,q,w,h,u,r,l]:=ak7 o A qI;rw[w];show((iF lt (if m<n then UK (n-max m 1) q (max m 1)else .ret q)).toList).Pairwise _;let g:max m 1=m:=by lia
 rw[g];let d:∀b:Array Nat,fb n b->qq lt b n->b.toList.Pairwise λi j=>lt i j=q4:=λb a s=>by
  rw[P7];intro i j x K t;let f:j<n:=by rw[<-a.size];simpa using K
  have:=s i j t f;let k:i<b.size:=by rw[a.size];lia
  let L:j<b.size:=by rw[a.size];lia
  let N:c_ b i=b[i]:=by simp[c_,xK,k]
  let V:c_ b j=b[j]:=by simp[c_,xK,L]
  rw[N,V]at this;simpa using this
 by_cases c:m<n
 .rw[a' c];show-d _ ?_ (Ŕ o _ _ _ l r qI);show-N5 (lt:=lt) _ (QJ qI _ _ _ l)
 rw[a4 c];have:m=n:=by lia
 subst this;show-d q l r
end
section
variable{X:bA}
def ltI(a:gz)(i j:Nat):Bool:=decide (i<a.Z/\j<a.Z/\a.getD i 0<a.getD j 0)
theorem aoo{a:gz}(g:a.Nodup):rB a.length (ltI a)where
 nJ:=λi j k b c=>by let b:=nD b;let c:=nD c;exact cw #[b.1,c.2.1,9]
 to:=λi j f d p=>by
  let m:a.getD i 0=a[i]:=by rw[dB,cQ f];rfl
  let l:a.getD j 0=a[j]:=by rw[dB,cQ d];rfl
  let n:a.getD i 0≠a.getD j 0:=λz=>p ((E7 g).mp (by rwa[<-m,<-l]));rcases Int.lt_or_lt_of_ne n with z|z
  .exact .inl (cw #[f,d,z])
  exact .inr (cw #[d,f,z])
 av3:=λi=>c9 λz=>by lia
def sortI(a:gz):List Int:=hY 0 (ltI a) a
def sortI_perm(a:gz):(sortI a).Perm a:=(YY _ _ _)
def ak8{a:gz}(b:a.Nodup):(sortI a).Pairwise (· < ·):=by unfold sortI hY;rw[yd];exact(agf (aoo b)).imp λz=>(nD z).2.2
def í(a:gz):hY V.cf (ltI a) (a.map V.int)=(sortI a).map V.int:=by unfold sortI hY;rw[ek,aM];show-rP λi b=>?_;have:=N6 b;show(a.map V.int).getD i .cf=V.int (a.getD i 0);rw[dB,cR,cQ this,dB,cQ this];rfl
section
variable{prog:cq}{w:bW}{A:ee}{s:aS}{ns:gz}{us:dR}
def Pp(r:cI (ns.map V.int) us){i:Nat}(c:i<us.Z):∃t,us.getD i fW=.int (ns.getD i 0) t:=by let a:=r.Z;rw[aM]at a;let#[u,b,t,2]:=r.get (x:=V.int (ns.getD i 0)) (i:=i) (by rw[cR,cQ qI,dB,cQ qI];rfl);show#[t,by rw[dB,b];rfl]
def YG(r:cI (ns.map V.int) us)(b:2<=us.Z){Q:BZ->aS->Prop}(h:Q VP s):aO (ba prog w) A (UO us.toArray) Q (λ_ _=>False) s:=by show-kas_kind (T:=.type "int") b (λv c=>?_) xL xL h;let#[i,a,2]:=yb c;let#[t,e]:=Pp r a;rw[dB,cQ a]at e;let e:us[i]=.int (ns.getD i 0) t:=e;rw[e];exact Η rfl
def ZY(r:cI (ns.map V.int) us){i j:Nat}(f:i<us.Z)(d:j<us.Z){C:Bool->aS->Prop}(h:C (ltI ns i j) s):G_ prog w A VP us i j C s:=by let c:=r.Z;rw[aM]at c;let#[t,b]:=Pp r f;let#[u,a]:=Pp r d;unfold G_;rw[b,a];show-kat_lt_int ?_;let e:ltI ns i j=decide (ns.getD i 0<ns.getD j 0):=decide_eq_decide.mpr #[λz=>z.2.2,λz=>#[9,9,z]];rwa[<-e]
end
def anf{n:Int}(h:(iY P w).is (.inl n) v=q4):RelV (V.int n) v:=by let#[t,e]:=alc h;show#[t,e]
end
end b4
namespace dP
open PySem aq b4 cm
theorem î{f:Type}{R:f->f->Prop}(g:∀a b,R a b->R b a->False):∀{a b:List f},a.Perm b->a.Pairwise R->b.Pairwise R->a=b
 |[],b,p,_,_=>p.nil_eq
 |x::a,[],p,_,_=>bt p.length_eq xg
 |x::a,y::b,p,ka,h=>by
  rw[P6]at ka h;let d:x=y:=by
   rcases et.mp (p.mem_iff.mp (.head _):x∈y::b)with e|e
   .exact e
   rcases et.mp (p.mem_iff.mpr (.head _):y∈x::a)with c|c
   .exact c.J
   exact(g _ _ (ka.1 y c) (h.1 x e)).elim
  subst d;rw[î g (List.Perm.cons_inv p) ka.2 h.2]
def ahw(rs:List Row):(pK rs).Perm rs:=by unfold pK QR;refine((Xb _ _).map _).trans ?_;rw[show(dY rs.Z).map (λi=>rs.getD i r0)=rs from ?_];show-x_ xg λi b a=>?_;rw[rM,Bi,dB,cQ a];rfl
theorem ï:∀{kvs:List (List bD×aq.V)},(∀p∈kvs,∃r:Row,p=([.inr r.1,.inr r.2.1],.int r.2.2))->∃rs,kvs=dG rs
 |[],_=>#[[],2]
 |p::q,h=>by let#[r,2]:=h p (.head _);let#[rs,2]:=ï (kvs:=q) λp a=>h p (.tail _ a);show#[r::rs,2]
def mT(c:Int×Nat):List aq.V:=[.int c.1,.int (c.2:Int)]
def zO(c:Int×Nat):List bD:=[.inl c.1,.inl (c.2:Int)]
def ak9(a:List (Int×Nat)):∀d∈a.map zO,mb d=q4::[q4]:=(λd b=>by let#[r,1]:=bQ.mp b;rfl)
def pF(a:List (Int×Nat)):List (Int×Nat):=(s9 (qj (a.map zO)) a.Z).map λi=>a.getD i (0,0)
def MU(a:List (Int×Nat)):(pF a).Perm a:=by unfold pF;refine((Xb _ _).map _).trans ?_;rw[show(dY a.Z).map (λi=>a.getD i (0,0))=a from ?_];show-x_ xg λi c b=>?_;rw[rM,Bi,dB,cQ b];rfl
theorem X8{H:ag}:∀{f:bS}{b:List (Int×Nat)},eG H f (b.map mT)->bV (λr d=>H r=j3 (.tup (d.map di))) f (b.map zO)
 |_,[],h=>by cases h;show-.nil
 |_,c::b,h=>by cases h with|cons a t=>show-.cons a (X8 t)
def ajm{a:List (Int×Nat)}(k:eG H e (a.map mT)):∃b,hY V.cf (qj (a.map zO)) (aT e)=aT b/\eG H b ((pF a).map mT):=by
 let l:(aT e).Z=a.Z:=by have:=k.len;rw[aM]at this;rw[eW,this]
 unfold hY pF;rw[l];let all:∀c:List Nat,(∀i∈c,i<a.Z)->∃b,(c.map λi=>(aT e).getD i .cf)=aT b/\eG H b ((c.map λi=>a.getD i (0,0)).map mT):=λc=>by
  induction c with
  |nil=>intro _;show#[[],2,.nil]
  |cons i q h=>
   intro d;let#[b,p,m]:=h λj t=>d j (.tail _ t);let lt:=d i (.head _);let n:i<e.Z:=by rw[eW]at l;lia
   let f:e[i]?=j3 e[i]:=cQ n;let#[y,g,r]:=bV.get k f;rw[cR,cQ lt]at g;cases g;show#[e[i]::b,4,.cons ?_ m]
   .rw[e7,p];show(aT e).getD i .cf::aT b=V.ref e[i]::aT b;congr 1;show((aT e)[i]?).getD .cf=_;unfold aT;rw[cR,f];rfl
   show H e[i]=j3 (hP.tup (mT (a.getD i (0,0))));rw[show a.getD i (0,0)=a[i] by rw[dB,cQ lt];rfl];show-r
 show-all _ λi d=>N6 d
def mW(a:bB):List Int:=a.map λn:Nat=>(n:Int)
def lI(a:bB):List Nat:=(sortI (mW a)).map tu
def ang{a:bB}(b:a.Nodup):(mW a).Nodup:=(yd.mpr (b.imp λh z=>h qI))
def OA(a:bB):mW (lI a)=sortI (mW a):=by
 unfold lI mW;rw[ek];have:∀x∈sortI (a.map λn:Nat=>(n:Int)),((λn:Nat=>(n:Int))∘tu) x=x:=λx b=>by let#[n,1]:=bQ.mp ((sortI_perm _).mem_iff.mp b);rfl
 rw[rP this,Β]
def Dh(a:bB):(lI a).Perm a:=by
 let h:=(sortI_perm (mW a)).map tu;let e:(mW a).map tu=a:=by unfold mW;rw[ek];have:∀x∈a,(tu∘λn:Nat=>(n:Int)) x=x:=λx _=>jf x;rw[rP this,Β]
 rwa[e]at h
def ZZ{a:bB}(b:a.Nodup):(lI a).Pairwise (· < ·):=by let h:=ak8 (ang b);rw[<-OA]at h;unfold mW at h;exact(yd.mp h).imp λz=>by lia
def FH(room:Int)(q:List (Int×Nat)):List Nat:=lI (((pF q).take room.X).map (·.2))
def ou(E:List (Nat×Addr)):List (bD×aq.V):=E.map λe=>(kk (e.1:Int),.ref e.2)
structure rU(p0 H:ag)(p:Addr)(E:List (Nat×Addr))(q:Nat->List (Int×Nat)):Prop where
 tab:H p=j3 (.cZ (ou E))
 sV:(E.map (·.1)).Nodup
 na:(E.map (·.2)).Nodup
 each:∀e∈E,p0 e.2=jp/\e.2≠p/\∃ts,H e.2=j3 (.lst (aT ts))/\eG H ts ((q e.1).map mT)
theorem rU.same{E:List (Nat×Addr)}{q:Nat->List (Int×Nat)}(h:rU i H p E q)(f:aD H H'):rU i H' p E q:=
 #[f _ _ h.tab,h.sV,h.na,λe g=>let⟨a,b,k,c,d⟩:=h.each e g;#[a,b,k,f _ _ c,d.same f]]
theorem N7:∀{E:List (Nat×Addr)},(E.map (·.1)).Nodup->∀{r:Nat}{l:Addr},(r,l)∈E->c8 (ou E) (kk (r:Int):bD)=j3 (.ref l)
 |[],_,_,_,h=>nomatch h
 | (r0,i)::E,aA,r,l,h=>by
  rw[e7,kG]at aA;rcases et.mp h with e|e
  .cases e;exact pk rfl
  show c8 ((kk (r0:Int),V.ref i)::ou E) _=_;rw[oy (λz=>aA.1 (by
   let a:(r0:Int)=(r:Int):=ĭ z;have:r0=r:=by lia
   rw[this];show-bQ.mpr #[_,e,2]))]
  show-N7 aA.2 e
theorem Pq:∀{E:List (Nat×Addr)}{r:Nat},r∉E.map (·.1)->c8 (ou E) (kk (r:Int):bD)=jp
 |[],_,_=>rfl
 | (r0,e)::E,r,h=>by
  show c8 ((kk (r0:Int),V.ref e)::ou E) _=_;rw[oy (λz=>h (by
   let a:(r0:Int)=(r:Int):=ĭ z;have:r0=r:=by lia
   rw[this];show-.head _))]
  show-Pq λz=>h (.tail _ z)
def rU.new{k H:ag}{E:List (Nat×Addr)}{q:Nat->List (Int×Nat)}(h:rU k H p E q){r:Nat}(l:r∉E.map (·.1))(K:q r=[])(n:k i=jp)(g:H i=j3 (.lst []))(t:∀e∈E,e.2≠i):
  rU k (upd H p (.cZ (gh (ou E) (kk (r:Int)) (.ref i)))) p (E++[(r,i)]) q:=by
 let m:i≠p:=λz=>by rw[z,h.tab]at g;cases g
 show#[4,4,4,λe f=>?_]
 .rw[aQ,DU _ (Pq l)];unfold ou;rw[eb];rfl
 .rw[eb];show-HH h.sV l
 .rw[eb];show-HH h.na λz=>?_;let#[e,f,w]:=bQ.mp z;show-t e f w
 rcases gU.mp f with z|z
 .let#[a,b,A,c,d]:=h.each e z;show#[a,b,A,by rwa[aR b],d.upd h.tab (by intro d z;cases z)]
 rw[e4.mp z];show#[n,m,[],by rwa[aR m],4];show eG _ [] ((q r).map mT);rw[K];show-.nil
def rU.add{N H:ag}{t:Addr}{E:List (Nat×Addr)}{q:Nat->List (Int×Nat)}{ts:bS}(h:rU N H p E q){r:Nat}(w:(r,l)∈E){c:Int×Nat}(o:H l=j3 (.lst (aT ts)))(x:eG H ts ((q r).map mT))(u:H t=j3 (.tup (mT c)))(I:N t=jp):
  rU N (upd H l (.lst (aT ts++[V.ref t]))) p E (λs=>if s=r then q r++[c]else q s):=by
 let#[G,L,_]:=h.each _ w;let L:l≠p:=L;let m:∀e∈E,e.2=l->e=(r,l):=λe k z=>by
  let#[i,K,g]:=yb k;let#[j,A,f]:=yb w;let n:(E.map (·.2))[i]'(by rwa[aM])=(E.map (·.2))[j]'(by rwa[aM]):=by rw[rM,rM,g,f,z]
  have:=(E7 h.na).mp n;subst this;rw[<-g,f]
 show#[by rw[aR (e5 L)];show-h.tab,h.sV,h.na,λe k=>?_];let#[a,b,C,D,d]:=h.each e k;show#[a,b,4];by_cases z:e.2=l
 .obtain rfl:=m e k z;show#[ts++[t],by rw[aQ,tY],4];show eG _ _ ((if r=r then q r++[c]else q r).map mT);rw[a' rfl,eb];show-eG.upd (Paired.snoc (F:=λr d=>H r=j3 (.tup d)) u x) o (by intro d z;cases z)
 show#[C,by rwa[aR z],4];let B:e.1≠r:=λy=>z (by
  let#[i,K,g]:=yb k;let#[j,A,f]:=yb w;let n:(E.map (·.1))[i]'(by rwa[aM])=(E.map (·.1))[j]'(by rwa[aM]):=by rw[rM,rM,g,f,y]
  have:=(E7 h.sV).mp n;subst this;rw[<-g,f])
 show eG _ _ ((if e.1=r then q r++[c]else q e.1).map mT);rw[a4 B];show-d.upd o (by intro d z;cases z)
def fT(a:Nat->Int)(c:Nat->Nat)(T:Int)(b:bB)(r:Nat):List (Int×Nat):=(b.filter λn=>decide (a n<=T)&&decide (c n=r)).map λn=>(a n,n)
def ŕ{a:Nat->Int}{c:Nat->Nat}{T:Int}{b:bB}{n:Nat}(h:¬a n<=T):fT a c T (b++[n])=fT a c T b:=by funext r;unfold fT;rw[v7,eb];simp[tx,h]
def OB{a:Nat->Int}{b:Nat->Nat}{T:Int}{c:bB}{n:Nat}(h:a n<=T):fT a b T (c++[n])=λd=>if d=b n then fT a b T c (b n)++[(a n,n)]else fT a b T c d:=by
 funext r;unfold fT;rw[v7,eb];by_cases e:r=b n
 .subst e;simp[tx,h]
 simp[tx,h,e,e5 e]
def ð(a:Nat->Int)(c:Nat->Nat)(T:Int)(b:bB)(r:Nat):(fT a c T b r).Z<=b.Z:=by unfold fT;rw[aM];show-yc _ _
def PQ(d:bb)(b:eo)(f:bE)(c:dF)(a:Nat->Int)(g:Nat->Nat)(n:Nat):Prop:=∃(k:List Step)(s:Step)(y:Str),c[n]?=j3 (k++[s])/\s.due=a n/\f[n]?=j3 y/\s.gC∈d.map S/\y∈d.map S/\s.gC≠y/\c8 b (gu s.gC y)=j3 (.int (g n:Int))
def gM(a:bB):List aq.V:=a.map λn:Nat=>V.int (n:Int)
def anh(d:bb)(b:eo)(f:bE)(c:dF)(a:Nat->Int)(n:Nat):Prop:=∃(g:List Step)(s:Step)(y:Str),c[n]?=j3 (g++[s])/\s.due=a n/\f[n]?=j3 y/\s.gC∈d.map S/\y∈d.map S/\s.gC≠y/\c8 b (gu s.gC y)=jp
def ñ(g:Nat->Bool)(f:bb)(b:eo)(d:bE)(c:dF)(a:Nat->Int)(k:Nat->Nat)(n:Nat):Prop:=(g n=q4/\PQ f b d c a k n)\/(g n=q9/\anh f b d c a n)
inductive aaT(K:aL)(C CW CN:Addr)(vs:aV)(H:ag)(Q:aX)(fq:bM):Prop where
 |mk(x n g st gl y fj t bp bl:Addr)(ay:bE)(ls:bS)(sss:dF)(hs:bb)(ys:aV)(kvs:eo)(go:bB)(hw:Nat->Bool)(due:Nat->Int)(rd:Nat->Nat)(T:Int)(_:vs=[.ref x,.ref gl,.ref y,.int T])(_:WalkAt C H x n g st ay ls sss)(_:aI K H gl (gM go))(_:mP CW CN H y fj t bp bl (c1 hs) ys kvs)(_:Good hs)(_:go.Z<=100)(_:(∀k∈go,ñ hw hs kvs ay sss due rd k))(_:∀(p:Addr)(H':ag)(E:List (Nat×Addr)),H p=jp->aD H H'->rU H H' p E (fT due rd T (go.filter hw))->(∀r,r∈E.map (·.1)↔fT due rd T (go.filter hw) r≠[])->Q (.ref p) H')
section
variable{P:cq}{w:bW}{K:aL}{mg:b5}{base:Heap}
abbrev Nm:Stmt:=top 42
def FI:cJ ["walk","going","ways","turn","queues","number","came","road"] Fd (b_ Nm):=({})
inductive arX(x gl y p:Addr)(T:Int)(due:Nat->Int)(rd:Nat->Nat)(go:bB)(hw:Nat->Bool)(H:ag)(i:Nat)(aa:aq.St)(cg:ag):Prop where
 |mk(E:List (Nat×Addr))(v1 v2 hk:ji)(_:aa=[j3 (.ref x),j3 (.ref gl),j3 (.ref y),j3 (.int T),j3 (.ref p),v1,v2,hk])(_:aD H cg)(_:rU H cg p E (fT due rd T ((go.take i).filter hw)))(_:∀r,r∈E.map (·.1)↔fT due rd T ((go.take i).filter hw) r≠[])(_:E.Z<=i)
def aqk{f:Addr}(F:cp K "queues_at" "queues_at" Nm f fd)(cT:rf K C)(rW:uo K CW)(ll:dn K C "last_turn" "Walk.last_turn" Ao eA f1 cW)(yT:-aH a9 1 f1 cW eA (Iw C))(oe:dn K C "last_house" "Walk.last_house" Eo eA f2 d8)(Gn:-aH a9 1 f2 d8 eA (Ov C))(zx:dn K C "goal" "Walk.goal" JP eA cV iz)(ag2:-aH a9 1 cV iz eA (Ļ C))(zt:dn K CW "way" "Ways.way" Nw fZ f4 u_)(ahx:-aH (fE P w) 3 f4 u_ fZ (aaR CW CN hQ)):
  -aH a9 4 f fd Fd (aaT K C CW CN):=by
 let h8:=cT.cl;let hb:=rW.cl;show-F.ok FI (λ_ A _ s H vs Q E O h=>?_);let#[x,n,g,st,gl,y,fj,t,bp,bl,ay,ls,u,hs,ys,kvs,N,M,d,b,T,2,W,Cw,p_,G,bX,ok,q]:=h;let#[Z,ar]:=W.ins;let#[d2,cd]:=p_.ins;show#[_,(a7 (cE 4 FI.aA Ze)
  (a7 (kq kH rfl (h7 (ae 1)) (dV 5 FI.aA)
   (a7 (cE 6 FI.aA (gp (ae 0) h8 ll.eO yT O.mono ll.bd .nil b9 (aj (ae 5) aw)))
  (a_ (er (fQ qu (ae 6) (ae 3) (eK _)) (a7 (cE 7 FI.aA (gp (ae 2) hb zt.eO ahx O.mono zt.bd .nil xE (aj (gp (ae 0) h8 oe.eO Gn O.mono oe.bd .nil b9 (aj (ae 5) aw)) (aj (gp (ae 0) h8 zx.eO ag2 O.mono zx.bd .nil b9 (aj (ae 5) aw)) aw))))
  (a_ (er (fQ Ol (ae 7) iZ (eK _)) (a_ (gL (i3 o' p7 p8 oo (alh (ae 4) (ae 7) (eY aw) #[2,2,2,2]) (aj (h_ (aj (ae 6) (aj (ae 5) aw))) aw)))) eB))) eB))))
  (a_ (cc (ae 4))))),4]
 ac_rfl
 refineλp az=>?_
 let s0:aD H (upd H p (.cZ [])):=bT az;show#[1,gl,2,#[_,s0.seq Cw],4];refine q6 (xs:=gM N) (arX x gl y p T d b N M H)
  #[[],jp,jp,jp,2,s0,#[aQ,p4,p4,λe D=>nomatch D],λr=>#[λz=>(nomatch z),λz=>bt rfl z],b7 _] (λi aa cg _⟨_,_,_,_,_,h,_,_,_⟩=>h.seq Cw) ?_ ?_
 .rintro i z aa cg fy ⟨E,v1,v2,hk,rfl,m,R,a,le⟩;unfold gM at fy;rw[cR]at fy;let#[k,d7,2]:=e6.mp fy;let Ma:i<N.Z:=(fU.mp d7).1;let L:N.take (i+1)=N.take i++[k]:=by rw[p5,d7];rfl
  let u1:=W.same m;rcases ok k (dm d7)with⟨Uo,ss,I,nS,aE,X,b2,dS,f7,iw,lx⟩|⟨Uo,ss,I,nS,aE,X,b2,dS,f7,iw,lx⟩
  .let L:(N.take (i+1)).filter M=(N.take i).filter M++[k]:=by rw[L,v7,tx,a' Uo,ahN]
   show#[1,x,Z,1,m _ _ ar,7,x,n,g,st,ay,ls,u,k,ss,I,2,u1,aE,4];show#[5,3,1,4];by_cases B:d k<=T
   .refine d1 (cw (by rwa[X])) ?_;show#[1,y,d2,1,m _ _ cd,7,x,Z,1,m _ _ ar,7,x,n,g,st,ay,ls,u,k,ss,I,2,u1,aE,1,x,Z,1,m _ _ ar,7,x,n,g,st,ay,ls,u,k,nS,2,u1,b2,4];show#[y,fj,t,bp,bl,hs,_,kvs,I.gC,nS,2,p_.same m,G,xu G dS,xu G f7,λ_ ah s2=>?_,λz=>bt (zY dS f7 iw) (by rw[z];decide)];rw[lx];show#[1,7,d1 xg ?_];let z5:=m.trans s2;let VV:=R.same s2;show#[1,p,2,.inl #[_,.inl VV.tab],1,eu _,λj Vu=>?_];let s3:=bT (o:=.lst []) Vu;let U:=VV.same s3;let Nz:=z5.trans s3;let hz:upd ah j (.lst []) j=j3 (.lst []):=aQ;let adQ:=gH z5 Vu;let Vb:∀e∈E,e.2≠j:=λe D z=>by let#[6,ts,c,_]:=VV.each e D;rw[z,Vu]at c;cases c
    generalize upd ah j (.lst [])=a5 at s3 U Nz hz⊢;let ib:(ou E).Z=E.Z:=aM _;show#[ou E,kk (b k:Int),2,U.tab,el qI,λv bc=>?_,λbj=>?_]
    .let lA:b k∈E.map (·.1):=by
      by_cases z:b k∈E.map (·.1)
      .exact z
      rw[Pq z]at bc;cases bc
     let#[#[r0,l],D,Y]:=bQ.mp lA;let Y:r0=b k:=Y;subst Y;rw[N7 U.sV D]at bc;cases bc;let#[nl,_,ts,au,cN]:=U.each _ D;show#[.inl #[2,_,aI.of au],5,sz_,λr hh=>?_];let J:=bT (o:=.tup [V.int I.due,V.int (k:Int)]) hh;let VW:=U.same J;let O:upd a5 r (.tup [V.int I.due,V.int (k:Int)]) r=j3 (.tup (mT (d k,k))):=by rw[aQ,X];rfl
     let dv:=cN.len;show#[l,3,J _ _ au,el (by rw[eW];rw[aM]at dv;have:=ð d b T ((N.take i).filter M) (b k);let eC:=yc M (N.take i);rw[jh]at eC;let aED:ts.Z=(fT d b T ((N.take i).filter M) (b k)).Z:=dv;lia),4];show#[E,6,1,hq nl (Nz.trans J),4,4,9]
     .rw[L,OB B];show-VW.add D (J _ _ au) (cN.same J) O (gH Nz hh)
     intro cu;rw[L,OB B,a cu];dsimp only;by_cases z:cu=b k
     .subst z;rw[a' rfl];show#[λ_=>by simp,λ_=>(a _).mp lA]
     rw[a4 z]
    let lA:b k∉E.map (·.1):=λz=>by let#[#[r0,l],D,Y]:=bQ.mp z;let Y:r0=b k:=Y;subst Y;rw[N7 U.sV D]at bj;cases bj
    let xf:fT d b T ((N.take i).filter M) (b k)=[]:=by
     by_cases z:fT d b T ((N.take i).filter M) (b k)=[]
     .exact z
     show-bt ((a _).mpr z) lA
    let sY:=U.new lA xf adQ hz Vb;let Wr:aD H (upd a5 p (.cZ (gh (ou E) (kk (b k:Int)) (.ref j)))):=hq az Nz;let np:j≠p:=λz=>by rw[z,U.tab]at hz;cases hz
    let L':upd a5 p (.cZ (gh (ou E) (kk (b k:Int)) (.ref j))) j=j3 (.lst (aT [])):=by rwa[aR np]
    generalize upd a5 p (.cZ (gh (ou E) (kk (b k:Int)) (.ref j)))=dx at sY Wr L'⊢;let D:(b k,j)∈E++[(b k,j)]:=gU.mpr (.inr (.head _));show#[.inl #[2,_,aI.of L'],5,sz_,λr hh=>?_];let J:=bT (o:=.tup [V.int I.due,V.int (k:Int)]) hh;let VW:=sY.same J;let O:upd dx r (.tup [V.int I.due,V.int (k:Int)]) r=j3 (.tup (mT (d k,k))):=by rw[aQ,X];rfl
    show#[j,3,J _ _ L',(by show 0<sizeLine;decide),4];show#[E++[(b k,j)],6,1,hq adQ (Wr.trans J),4,4,by rw[c0];show E.Z+1<=i+1;lia]
    .rw[L,OB B];show-VW.add (ts:=[]) D (J _ _ L') (by rw[xf];show-.nil) O (gH Wr hh)
    intro cu;rw[L,OB B,eb,gU,a cu];dsimp only;by_cases z:cu=b k
    .subst z;rw[a' rfl];show#[λ_=>by simp,λ_=>.inr (.head _)]
    rw[a4 z];show#[λy=>y.elim id λy=>bt (e4.mp y) z,.inl]
   show-eM (c9 (by rwa[X])) ?_;show#[E,6,hk,2,m,by rwa[L,ŕ B],by rwa[L,ŕ B],9]
  let L:(N.take (i+1)).filter M=(N.take i).filter M:=by rw[L,v7,tx,a4 (by rw[Uo];decide),ahN,lS]
  show#[1,x,Z,1,m _ _ ar,7,x,n,g,st,ay,ls,u,k,ss,I,2,u1,aE,4];show#[5,3,1,4];by_cases B:d k<=T
  .refine d1 (cw (by rwa[X])) ?_;show#[1,y,d2,1,m _ _ cd,7,x,Z,1,m _ _ ar,7,x,n,g,st,ay,ls,u,k,ss,I,2,u1,aE,1,x,Z,1,m _ _ ar,7,x,n,g,st,ay,ls,u,k,nS,2,u1,b2,4];show#[y,fj,t,bp,bl,hs,_,kvs,I.gC,nS,2,p_.same m,G,xu G dS,xu G f7,λ_ ah s2=>?_,λz=>bt (zY dS f7 iw) (by rw[z];decide)];rw[lx];show#[1,7,eM xg ?_];show#[E,6,1,m.trans s2,by rw[L];show-R.same s2,by rwa[L],9]
  show-eM (c9 (by rwa[X])) ?_;show#[E,6,hk,2,m,by rwa[L],by rwa[L],9]
 rintro aa cg ⟨E,v1,v2,hk,rfl,m,R,a,le⟩;unfold gM at R a;rw[aM,n1]at R a;show#[1,q p cg E az m R a]
end
end dP
namespace b4
open PySem PySem.Spec PyProof.Rows aq
section
variable{X:bA}
def afT:ks X (.builtin "sorted") (λt H Q=>∃(p:Addr)(d:gz),t=[.ref p]/\aI X.K H p (d.map V.int)/\d.Z<64/\∀l,H l=jp->Q (.ref l) (upd H l (.lst ((sortI d).map V.int)))):=by intro n s F H t M Q I r h;let#[p,d,2,A,E,q]:=h;let#[u,2,en]:=vals1 r;cases en;let#[z,k,pl,y]:=I.list A;let g:=k.Z;rw[aM]at g;show-YZ (κ:=VP) (lt:=ltI d) pl.isList qI (λm B x J L=>YG k m L) (λm B x i j C e K N=>ZY k e K N) λD G c f x w=>?_;show#[.ref D,_,I.laid (a:=D) (o:=.lst ((sortI d).map V.int)) (t':=s.toks) (λb o q=>x b o q) f ?_,2,q D (I.bu.fresh f)];rw[<-í];show#[4,_,c,Xv k,w];rwa[X0]
def afq(N:X.calm=q4):ks X (.builtin "sorted") (λE H Q=>∃(p:Addr)(d:List (bD×V))(f:gz),E=[.ref p]/\H p=j3 (.cZ d)/\d.map (·.1)=f.map kk/\f.Z<64/\∀l,H l=jp->Q (.ref l) (upd H l (.lst ((sortI f).map V.int)))):=by
 intro m s G H E us Q I r h;let#[p,d,f,2,O,B,US,q]:=h;let#[u,2,en]:=vals1 r;cases en;let T:X.A.handled=jp:=I.ok.hd N;let#[o1,lo,K,g,o,U,ep,aW,J,hd,_,zl,hn]:=JO I.bu O;let A:cI (f.map V.int) (U.toList.map (·.key)):=by
  let gen:∀{d:List (bD×V)}{K:List (bD×Value)}{y:List pY}{f:gz},hG d K->Pairs (iY X.prog X.w) y K->d.map (·.1)=f.map kk->cI (f.map V.int) (y.map (·.key)):=by
   intro d K y f g pr
   induction pr generalizing d f with
   |nil=>
    intro e;cases g;cases f with
    |nil=>show-.nil
    |cons _ _=>cases e
   |cons w L t F=>
    intro e;cases g with
    |cons a b=>
     cases f with
     |nil=>cases e
     |cons n f=>
      rw[e7,e7,PT]at e;show-.cons ?_ (F b e.2);rw[<-a.1,e.1]at w;show-anf w
  show-gen g zl B
 let M:=A.Z;rw[aM]at M;let Md:d.Z=f.Z:=by have:=fe rN B;simpa using this
 refine ahi (κ:=VP) (lt:=ltI f) lo T #[o,aW,J,hd] rfl qI (λL s1 x uW R=>YG A L R) (λL s1 x i j C hi P Y=>ZY A hi P Y) λw D h' t c Z k x N=>?_;let z:Inv X m G H {s with heap:=w,toks:=t}:=I.kept (t':=t) λb o e=>Z b o e;show#[.ref D,_,z.laid (a:=D) (o:=.lst ((sortI f).map V.int)) (t':=t) (λb o q=>x b o q) k ?_,2,q D (z.bu.fresh k)];rw[<-í];show#[4,_,c,Xv A,N];rw[X0,aM]
 lia
end
end b4
namespace dP
open PySem aq b4 cm
def ani{K:aL}{I:eV}{l:TE}{rest:aq.St}{H:ag}{Q:aX}{ds:List aV}(T:∀R:fF->ag->Prop,(∀p c h,H p=jp->aD H c->c p=j3 (.lst (aT h))->eG c h ds->R (kE K p) c)->I q H R)(P:hX cs q=jp::jp::rest)(J:ds.Z<sizeLine)(f:Nat->aq.V)(two:∀d∈ds,∃u v,d=[u,v])(r:∀(i:Nat)(u v:aq.V)(a:ag)(R:aX),ds[i]?=j3 [u,v]->aD H a->(∀k,aD a k->R (f i) k)->l (j3 u::j3 v::rest) a R)(L:∀(D:Addr)(H':ag),H D=jp->H' D=j3 (.lst ((dY ds.Z).map f))->aD H H'->Q (.ref D) H'):kD I cs (vS K 2 (qt (hW 0) (qt (hW 1) x4))) pR l q H Q:=by
 show-T _ λp c h Z V M B D bR=>?_;let U:=B.len;show#[λi m j s H'=>m=ds.Z-i/\i<=ds.Z/\j=(dY i).map f/\(∃E G,s=E::G::rest)/\aD c H'/\H' D=j3 (.lst j),#[ds.Z,by simp,eu _,2,#[jp,jp,by rw[P]],λb o e=>?_,aQ],4]
 .rwa[aR (dj e bR)]
 rintro i m j s H' ⟨rfl,Y,rfl,⟨E,G,rfl⟩,g,A⟩;let#[n,C,F]:=pB (aI.of (K:=K) M) H' g;show#[A,p6 (by rw[aM,jg];lia) J,4];rw[eW]at n C F;by_cases O:i<ds.Z
 .refine .inr #[C i qI,λx a y=>?_];let#[2,w]:=F i x a qI y;unfold aT at w;rw[cR]at w;let#[t,X,2]:=e6.mp w;let#[d,cG,N]:=bV.get B X;let N:=g _ _ N;let#[u,v,2]:=two d (dm cG);show#[t,1,cj.of N,2,_,1,3,4];show l (j3 u::j3 v::rest) a _;show-r i u v a _ cG (V.trans g) λk z=>#[z _ _ A,ds.Z-(i+1),9,2,O,4,#[_,1],λb ob e=>?_,aQ]
  .rw[E_,eb];rfl
  rw[aR (dj e bR)];show-z _ _ (g _ _ e)
 let e:i=ds.Z:=by lia
 subst e;rw[U]at n;show-.inl #[n,L D H' (gH V bR) A (V.trans g)]
def ŷ{i:Nat}{a:aq.St}{Q:aq.St->ag->Prop}(h:Q (a.set i (j3 v)) H):hW i v a H Q:=(h)
def lH.upd{H:ag}{b:hx×List Nat}(h:lH H a b)(g:H l=j3 (.lst xs)):lH (aq.upd H l (.lst e)) a b:=by let#[c,d,f]:=h;show#[c,by rw[aR λz=>by rw[z,g]at d;cases d];show-d,by rw[aR λz=>by rw[z,g]at f;cases f];show-f]
def ala(a:bS){m:Int}(h:0<=m):gg (aT a) jp (j3 m)=aT (a.take m.X):=by
 obtain⟨k,rfl⟩:∃k:Nat,m=(k:Int):=#[m.X,9]
 unfold gg;let b:eD.dD (aT a).length 0 jp=0:=rfl;let c:eD.dD (aT a).length (aT a).length (j3 (k:Int))=min k (aT a).Z:=eD.D1 (aT a).length (aT a).length k;rw[b,c,aiF,ahJ,jf];unfold aT;rw[aM,E8];by_cases z:k<=a.Z
 .rw[Bz z]
 rw[Í qI,o6 (by rw[aM];show-b7 _),o6 (by rw[aM];lia)]
theorem YH:∀{b:bS}{ds:List aV}(k:Nat),eG H b ds->eG H (b.take k) (ds.take k)
 |_,_,0,_=>by rw[JL,JL];show-.nil
 |_,_,k+1,.nil=>.nil
 |_,_,k+1,.cons a t=>.cons a (YH k t)
def j6(ds:b0)(a:Nat->Int)(c:Nat->Nat)(T:Int)(b:bB)(r:Nat):hx×List Nat:=((T,r),FH (kX ds r) (fT a c T b r))
def ò(a:Nat->Int)(c:Nat->Nat)(T:Int)(b:bB)(r:Nat):(fT a c T b r).map (·.2)=b.filter λn=>decide (a n<=T)&&decide (c n=r):=by unfold fT;rw[ek];show-Β _
def aop{a:Nat->Int}{c:Nat->Nat}{T:Int}{b:bB}{r:Nat}(d:b.Nodup):(fT a c T b r).Nodup:=by
 let h:((fT a c T b r).map (·.2)).Nodup:=by rw[ò];show-d.filter _
 exact(yd.mp h).imp λh z=>h (by rw[z])
def Pr{a:Nat->Int}{c:Nat->Nat}{T:Int}{b:bB}{r:Nat}(d:b.Nodup)(k:Nat):(((pF (fT a c T b r)).take k).map (·.2)).Nodup:=by
 let h:((pF (fT a c T b r)).map (·.2)).Nodup:=by refine(((MU _).map _).nodup_iff).mpr ?_;rw[ò];show-d.filter _
 rw[E8];show-h.sublist (Fa _ _)
def Jx(a:bB):gM a=(mW a).map V.int:=by unfold gM mW;rw[ek];rfl
inductive Rl(K:aL)(C CW CN:Addr)(vs:aV)(H:ag)(Q:aX)(fq:bM):Prop where
 |mk(x n g st gl y t bp bl:Addr)(ay:bE)(ls rs:bS)(sss:dF)(hs:bb)(ds:b0)(kvs:eo)(go:bB)(due:Nat->Int)(rd:Nat->Nat)(T:Int)(_:vs=[.ref n,.ref x,.ref gl,.ref y,.int T])(_:WalkAt C H x n g st ay ls sss)(_:aI K H gl (gM go))(_:mP CW CN H y n t bp bl (c1 hs) (aT rs) kvs)(_:gG H hs rs ds)(_:Good hs)(_:go.Z<=60)(_:go.Nodup)(_:(∀k∈go,PQ hs kvs ay sss due rd k))(_:(∀k∈go,rd k<ds.Z))(_:∀(l:Addr)(H':ag)(as:bS)(eH:bB),H l=jp->aD H H'->H' l=j3 (.lst (aT as))->bV (lH H') as (eH.map (j6 ds due rd T go))->eH.Pairwise (· < ·)->(∀r,r∈eH↔fT due rd T go r≠[])->Q (.ref l) H')
inductive QM(K:aL)(C CW CN:Addr)(vs:aV)(H:ag)(Q:aX)(fq:bM):Prop where
 |mk(x n g st gl y t bp bl:Addr)(ay:bE)(ls rs:bS)(sss:dF)(hs:bb)(ds:b0)(kvs:eo)(zb:bB)(hw:Nat->Bool)(go:bB)(due:Nat->Int)(rd:Nat->Nat)(T:Int)(_:vs=[.ref n,.ref x,.ref gl,.ref y,.int T])(_:go=zb.filter hw)(_:WalkAt C H x n g st ay ls sss)(_:aI K H gl (gM zb))(_:mP CW CN H y n t bp bl (c1 hs) (aT rs) kvs)(_:gG H hs rs ds)(_:Good hs)(_:zb.Z<=60)(_:zb.Nodup)(_:(∀k∈zb,ñ hw hs kvs ay sss due rd k))(_:(∀k∈go,rd k<ds.Z))(_:∀(l:Addr)(H':ag)(as:bS)(eH:bB),H l=jp->aD H H'->H' l=j3 (.lst (aT as))->bV (lH H') as (eH.map (j6 ds due rd T go))->eH.Pairwise (· < ·)->(∀r,r∈eH↔fT due rd T go r≠[])->Q (.ref l) H')
def aoq{K:aL}(h:Rl K C i e u H Q E):QM K C i e u H Q E:=by let#[x,n,g,st,N,y,t,L,A,r,j,rs,c,V,ds,b,d,a,s,T,2,W,f,o,R,G,w,l,ok,m,q]:=h;show#[x,n,g,st,N,y,t,L,A,r,j,rs,c,V,ds,b,d,λ_=>q4,d,a,s,T,2,(PX.mpr λ_ _=>rfl).symm,W,f,o,R,G,w,l,λk p=>.inl #[2,ok k p],m,q]
section
variable{P:cq}{w:bW}{K:aL}{mg:b5}{base:Heap}
abbrev Nc:Stmt:=top 43
def BM:cJ ["net","walk","going","ways","turn","queues","bags","road","room","chosen"] Fc (b_ Nc):=({})
inductive arY(n x gl y p bo bK:Addr)(T:Int)(eH:bB)(ds:b0)(due:Nat->Int)(rd:Nat->Nat)(go:bB)(H1:ag)(j:Nat)(aa:aq.St)(cg:ag):Prop where
 |mk(as:bS)(v1 v2 hk:ji)(_:aa=[j3 (.ref n),j3 (.ref x),j3 (.ref gl),j3 (.ref y),j3 (.int T),j3 (.ref p),j3 (.ref bo),v1,v2,hk])(_:aD H1 cg)(_:cg bK=j3 (.lst (gM eH)))(_:cg bo=j3 (.lst (aT as)))(_:bV (lH cg) as ((eH.take j).map (j6 ds due rd T go)))
def aor{f:Addr}(F:cp K "bags_at" "bags_at" Nc f fd)(B:fc mg)(eZ:fw K CN)(CT:bU K mg "queues_at" Nm Fd f1 cW)(ag3:-aH a9 4 f1 cW Fd (aaT K C CW CN))(nd:dn K CN "road" "Net.road" Ap eA f2 d8)(HG:-aH a9 1 f2 d8 eA (Pa CN)):
  -aH a9 5 f fd Fc (QM K C CW CN):=by
 show-F.ok BM (λ_ A _ s H vs Q E Y h=>?_);let#[x,n,g,st,gl,y,t,bp,bl,ay,ls,rs,sss,hs,ds,kvs,zb,hw,e,m,M,T,2,So,W,Cw,p_,R,G,aua,awK,ok,V5,q]:=h;let bX:e.Z<=60:=by rw[So];show-dQ (yc _ _) aua
 let MA:e.Nodup:=by rw[So];show-awK.filter _
 let#[fR,hn]:=p_.g7.ins;show#[_,(a7 (cE 5 BM.aA (c2 ag3 CT Y.mono b9 (aj (ae 1) (aj (ae 2) (aj (ae 3) (aj (ae 4) aw))))))
  (a7 (cE 6 BM.aA (eY aw))
  (a7 (kq kH rfl (h7 (dp (afq rfl) B.sorted NO (aj (ae 5) aw))) (dV 7 BM.aA)
   (a7 (cE 8 BM.aA (cn ey (gp (ae 0) eZ nd.eO HG Y.mono nd.bd .nil b9 (aj (ae 7) aw)) a8))
  (a7 (w3 (i:=9) BM.aA rfl rfl rfl (N':=["came","number"]) (cs:=[jp,jp]) rfl (h7 (mG qh (dp aeM B.sorted NO (aj (xc (lF Y) (ae 5) (ae 7) (λ_ _=>rfl)) aw)) mJ (kn (ae 8)))) rfl xL rfl xL (ia (λp az=>bt az (dU))) rfl
   (.own (.own .nil))
   (λC s3 a5 bY da=>#[(It (K:=K) (n:=2) rfl rfl (iX (dV 0 (by show(["came","number"]:bE).Nodup;decide+kernel)) (iX (dV 1 (by show(["came","number"]:bE).Nodup;decide+kernel)) sM))),jm,(ae 1)]))
  (a_ (gL (i3 o' p7 p8 oo (ae 6) (aj (h_ (aj (ae 4) (aj (ae 7) (aj (hS VX B.tuple DV (aj (dp afT B.sorted NO (aj (ae 9) aw)) aw)) aw)))) aw)))))))
  (a_ (cc (ae 6)))))),4]
 ac_rfl
 show#[5,5,x,n,g,st,gl,y,n,t,bp,bl,ay,ls,sss,hs,_,kvs,zb,hw,m,M,T,2,W,Cw,p_,G,qI,ok,λp H1 E np s1 ik I=>?_];rw[<-So]at ik I;show#[eu _,λbo Dn=>?_];let s2:=bT (o:=.lst []) Dn;let Tv:upd H1 bo (.lst []) bo=j3 (.lst []):=aQ;generalize upd H1 bo (.lst [])=ah at s2 Tv⊢;obtain⟨l,Le⟩:∃l,l=E.map (·.1):=#[1]
 let adE:l.Nodup:=by rw[Le];show-ik.sV
 let d7:(ou E).map (·.1)=(mW l).map kk:=by rw[Le];unfold ou mW;rw[ek,ek,ek];rfl
 let aDO:l.Z<=e.Z:=by
  let ak:=q1 (sn:=l) (L:=e.map M) adE λr Y=>by rw[Le]at Y;let#[c,av]:=E3 _ ((I r).mp Y);unfold fT at av;let#[k,aN,_]:=bQ.mp av;let#[a6,b8]:=hH.mp aN;simp only[hN,decide_eq_true_eq]at b8;exact bQ.mpr #[k,a6,b8.2]
  rwa [aM]at ak
 show#[1,p,ou E,mW l,2,s2 _ _ ik.tab,d7,(by unfold mW;rw[aM];lia),λZ MN=>#[Z,2,#[_,aI.of aQ],4]];rw[<-OA,<-Jx];let s3:=bT (o:=.lst (gM (lI l))) MN;let Ue:upd ah Z (.lst (gM (lI l))) Z=j3 (.lst (gM (lI l))):=aQ;let acj:=s3 _ _ Tv;let axT:Z≠bo:=e5 (gP Tv MN);generalize upd ah Z (.lst (gM (lI l)))=a5 at s3 Ue acj⊢;obtain⟨J,U⟩:∃J,J=lI l:=#[1]
 rw[<-U]at Ue;let U6:∀r,r∈J↔fT m M T e r≠[]:=λr=>by rw[U,(Dh l).mem_iff,Le];show-I r
 let Md:J.Z<=100:=by
  rw[U,(Dh l).length_eq]
  lia
 refine q6 (xs:=gM (lI l)) (arY n x gl y p bo Z T J ds m M e H1)
  #[[],jp,jp,jp,2,s2.trans s3,Ue,acj,.nil] (λi aa cg _⟨_,_,_,_,_,_,h,_,_⟩=>by rw[<-U];show-aI.of h) ?_ ?_
 .rintro j z aa cg fy ⟨as,v1,v2,hk,rfl,X,acX,Tx,O⟩;rw[<-U]at fy;unfold gM at fy;rw[cR]at fy;let#[r,dH,2]:=e6.mp fy;let acW:=dm dH;let#[R5,aco]:=E3 _ ((U6 r).mp acW);let aEh:r<ds.Z:=by unfold fT at aco;let#[k,aN,_]:=bQ.mp aco;let#[a6,b8]:=hH.mp aN;simp only[hN,decide_eq_true_eq]at b8;rw[<-b8.2];show-V5 k a6
  let V7:=s1.trans X;let aka:=R.same V7;let aEg:=R.len;obtain⟨jt,era⟩:∃jt,rs[r]?=j3 jt:=#[_,cQ qI]
  let#[d,cG,sW,hd]:=aka.get era;let cD:ds.getD r qy=d:=kV cG;show#[1,n,fR,1,V7 _ _ hn,7,n,bp,bl,6,_,1,p_.g7.same V7,qI,(by have:=eW rs;lia),(jG (by unfold aT;rw[cR,era];rfl)),jt,_,3,cj.of hd,2,4];let em:(d.m:Int)=kX ds r:=by unfold kX;rw[cD]
  let m0:0<=kX ds r:=by rw[<-em];have:=sW.m.1;lia
  obtain⟨cs,F8⟩:∃cs,cs=fT m M T e r:=#[1]
  let aD7:cs.Nodup:=by rw[F8];show-aop MA
  let lcs:cs.Z<=60:=by rw[F8];have:=ð m M T e r;lia
  let avI:r∈E.map (·.1):=(I r).mpr ((U6 r).mp acW);let#[#[r0,C'],he,aE]:=bQ.mp avI;let aE:r0=r:=aE;subst aE;let#[6,ts,avo,Ih]:=(ik.same X).each _ he;let Ih:eG cg ts (cs.map mT):=by rwa[F8]
  let avF:=(ik.same X).tab;let abY:=j9.k (k:=kk (r0:Int)) avF;rw[N7 ik.sV he]at abY;let ayp:=Ih.len;rw[aM]at ayp;obtain⟨k,abB⟩:∃k,k=(kX ds r0).toNat:=#[1]
  obtain⟨N,La⟩:∃N,N=((pF cs).take k).map (·.2):=#[1]
  let aD8:N.Nodup:=by rw[La,F8];show-Pr MA k
  let e':((pF cs).take k).Z<=60:=by
   rw[jh];have:=(MU cs).length_eq
   lia
  show-ŷ ?_;dsimp only;show-Ee ?_;refine ani (K:=K) (rest:=[]) (ds:=((pF cs).take k).map mT) (λuX Tg=>?_) rfl (el (by rw[aM];lia)) (λi=>V.int ((((pF cs).take k).getD i (0,0)).2:Int)) (λd' tT=>?_) (λi u v bH uX gW c5 c4=>?_) (λD bH hL bR c5=>?_)
  .show#[5,p,1,abY,C',ts,cs.map zO,q4,[q4],2,aI.of avo,X8 Ih,qI,ak9 cs,λeg zI=>?_];let#[WS,Su,ayt]:=ajm Ih;let b3:=bT (o:=.lst (hY V.cf (qj (cs.map zO)) (ts.map V.ref))) zI;let hJ:upd cg eg (.lst (hY V.cf (qj (cs.map zO)) (ts.map V.ref))) eg=j3 (.lst (aT WS)):=by rw[aQ];rw[show ts.map V.ref=aT ts from rfl,Su]
   show#[5,eg,1,aI.of hJ,λeC Dq=>#[eC,2,#[_,aI.of aQ],4]];rw[em,ala WS m0,<-abB];show-Tg eC _ (WS.take k) (gH b3 Dq) (b3.trans (bT Dq)) aQ ?_;rw[E8];exact(YH k (ayt.same b3)).same (bT Dq)
  .let#[c,1]:=bQ.mp tT;show#[_,1]
  .rw[cR]at gW;let#[c,gB,aC]:=e6.mp gW;let b2:V.int (c.2:Int)=v:=by unfold mT at aC;simp only[PT]at aC;show-aC.2.1
   show#[1,4];rw[<-b2];have:=c4 bH (aD.refl _);rwa[kV gB]at this
  let sf:(dY (((pF cs).take k).map mT).Z).map (λi=>V.int ((((pF cs).take k).getD i (0,0)).2:Int))=gM N:=by rw[aM,range_getD (λc:Int×Nat=>V.int (c.2:Int)) (0,0) ((pF cs).take k),La];unfold gM;rw[ek];rfl
  rw[sf,Jx]at bR;let Tw:=c5 _ _ Tx;let awe:=lU O;rw[aM,jh]at awe;show#[1,.inl #[2,_,aI.of Tw],5,1,D,mW N,2,aI.of bR,(by unfold mW;rw[aM,La,aM];lia),λi5 adK=>#[i5,1,.inl #[aI.of aQ,λc uc=>#[sz_,λiM Hw=>#[bo,aT as,1,2,bT Hw _ _ (bT uc _ _ (bT adK _ _ Tw)),el (by rw[eW];lia),4]]]]];rw[<-OA,<-Jx];let fM:=bT (o:=.lst (gM (lI N))) adK;let nr:∀b o,bH b=j3 o->upd bH i5 (.lst (gM (lI N))) b=j3 o:=fM;rw[<-OA,<-Jx]at uc Hw;generalize upd bH i5 (.lst (gM (lI N)))=je at fM uc Hw⊢;let i_:=bT (o:=.tup (gM (lI N))) uc;let acq:upd je c (.tup (gM (lI N))) c=j3 (.tup (gM (lI N))):=aQ;generalize upd je c (.tup (gM (lI N)))=jz at i_ acq Hw⊢;let ja:=bT (o:=.tup [V.int T,V.int (r0:Int),V.ref c]) Hw;let acn:upd jz iM (.tup [V.int T,V.int (r0:Int),V.ref c]) iM=j3 (.tup [V.int T,V.int (r0:Int),V.ref c]):=aQ;let acr:=ja _ _ acq;generalize upd jz iM (.tup [V.int T,V.int (r0:Int),V.ref c])=e3 at ja acn acr⊢;let M_:=fM.trans (i_.trans ja);let ack:=M_ _ _ Tw;let nb:lH e3 iM (j6 ds m M T e r0):=by
   show#[c,acn,4];let se:(j6 ds m M T e r0).2=lI N:=by unfold j6 FH;rw[<-F8,<-abB,<-La]
   rwa[se]
  show#[as++[iM],6,1,hq Dn (X.trans (c5.trans M_)),by rw[aR axT];show-M_ _ _ (c5 _ _ acX),by rw[aQ,tY],4];rw[show J.take (j+1)=J.take j++[r0] by rw[p5,dH];rfl,eb];show-Paired.snoc (nb.upd ack) (bV.kv O λa b h=>((h.same c5).same M_).upd ack)
 rintro aa cg ⟨as,v1,v2,hk,rfl,X,acX,Tx,O⟩;rw[<-U]at O;unfold gM at O;rw[aM,n1]at O;show#[1,q bo cg as J (gH s1 Dn) (s1.trans X) Tx O (by rw[U];show-ZZ adE) U6]
def apU{f:Addr}(F:-aH a9 5 f fd j (QM K C i e)):-aH a9 5 f fd j (Rl K C i e):=(F.imp λ_ _ _ _ h=>aoq h)
def axG:Step:=#[0,jp,n7,0]
def xG(a:List Step):Step:=a.getLastD axG
def gE(a:dF)(n:Nat):Step:=xG (a.getD n [])
def gN(a:dF)(n:Nat):Int:=(gE a n).due
def hA(a:bE)(n:Nat):Str:=a.getD n n7
def e_(a:eo)(c:bE)(b:dF)(n:Nat):Nat:=(oM a (gE b n).gC (hA c n)).getD 0
def WW(a:List Step)(s:Step):xG (a++[s])=s:=by unfold xG;rw[ahU,List.getLast?_append];rfl
def M7{a:List Step}(h:a≠[]):∃i,a=i++[xG a]:=by show#[a.dropLast,4];unfold xG;rw[ahU,List.getLast?_eq_getLast h];exact(ρ h).symm
def xh{a:Type}{l:List a}{i:Nat}{d:a}(h:i<l.Z):l[i]?=j3 (l.getD i d):=by rw[dB,cQ h];rfl
def sQ(m:Nat)(a:Nat->Int)(c:Nat->Nat)(T:Int)(b:bB):List Nat:=(dY m).filter λr=>!(fT a c T b r).isEmpty
def xH(ds:b0)(a:Nat->Int)(c:Nat->Nat)(T:Int)(b:bB):List (hx×List Nat):=(sQ ds.length a c T b).map (j6 ds a c T b)
end
def ak3{m:Nat}{d:Nat->Int}{g:Nat->Nat}{T:Int}{f:bB}(N:∀k∈f,g k<m){n:bB}(A:n.Pairwise (· < ·))(p:∀r,r∈n↔fT d g T f r≠[]):n=sQ m d g T f:=by
 let l:(sQ m d g T f).Pairwise (· < ·):=P8.filter _;let V:∀r,r∈sQ m d g T f↔fT d g T f r≠[]:=λr=>by
  unfold sQ;rw[hH];constructor
  .rintro⟨_,h⟩ e;rw[e]at h;cases h
  intro h;let#[c,t]:=E3 _ h;show#[kF.mpr ?_,4]
  .unfold fT at t;let#[k,L,_]:=bQ.mp t;let#[K,w]:=hH.mp L;simp only[hN,decide_eq_true_eq]at w;rw[<-w.2];show-N k K
  cases e:fT d g T f r with
  |nil=>show-bt e h
  |cons _ _=>rfl
 show-î (R:=(· < ·)) (λa b i j=>by lia) ((List.perm_ext_iff_of_nodup (A.imp λh=>e8 h) (l.imp λh=>e8 h)).mpr λr=>?_) A l;rw[p r,V r]
def ub{a:Nat->Int}{g:Nat->Nat}{T:Int}{f:bB}{r i:Nat}(h:i∈(j6 ds a g T f r).2):i∈f/\a i<=T/\g i=r:=by unfold j6 FH at h;let n:=(Dh _).mem_iff.mp h;let#[c,p,2]:=bQ.mp n;let d:=(MU _).mem_iff.mp (uO p);unfold fT at d;let#[k,m,2]:=bQ.mp d;let#[l,b]:=hH.mp m;simp only[hN,decide_eq_true_eq]at b;show#[l,b.1,b.2]
def ō{due:Nat->Int}{rd:Nat->Nat}{T:Int}{a:bB}(b:a.Nodup)(r:Nat):(j6 ds due rd T a r).2.Nodup:=(((Dh _).nodup_iff).mpr (Pr b _))
theorem Ŏ{a:Nat->Int}{c:Nat->Nat}{T:Int}{r:Nat}(hm:1<=kX ds r)(h:fT a c T go r≠[]):(j6 ds a c T go r).2≠[]:=λe=>by
 let b:=fe rN e;unfold j6 FH at b;rw[(Dh _).length_eq,aM,jh,(MU _).length_eq]at b;let d:=p3.mpr h;simp only[kf]at b
 lia
def pC(d:bb)(ds:b0)(c:pa)(a:dF):List (List Step):=c.foldl (λs b=>lG (stepK d ds b.1) b.2 s) a
theorem N8(d:bb)(ds:b0):∀(c:pa)(a:dF),(pC d ds c a).Z=a.Z
 |[],_=>rfl
 |b::c,a=>by show(pC d ds c (lG (stepK d ds b.1) b.2 a)).Z=_;rw[N8 d ds c,DH]
theorem OM(c:bb)(ds:b0):∀(d:pa)(a:dF)(i:Nat),(pC c ds d a)[i]?=(a[i]?).map λf=>f++((d.filter λb=>decide (i∈b.2)).map λb=>stepK c ds b.1)
 |[],a,i=>by show a[i]?=_;cases a[i]?<;>simp
 |b::d,a,i=>by
  show(pC c ds d (lG (stepK c ds b.1) b.2 a))[i]?=_;rw[OM c ds d,t2,Option.map_map];congr 1;funext f;show(if i∈b.2 then f++[stepK c ds b.1]else f)++_=_;rw[tx];by_cases z:i∈b.2
  .rw[a' z,a' (cw z),e7,jB];rfl
  rw[a4 z,a4 (by rw[c9 z];decide)]
def ajn(c:bb)(ds:b0)(d:pa)(b:hx×List Nat)(a:dF):pC c ds (d++[b]) a=lG (stepK c ds b.1) b.2 (pC c ds d a):=by unfold pC;rw[ahO];rfl
def ahy{L:bB}(k:L.Nodup){p:Nat->Bool}{r0:Nat}(h:∀r∈L,p r=q4->r=r0)(m:p r0=q4->r0∈L):L.filter p=if p r0=q4 then[r0]else[]:=by
 by_cases z:p r0=q4
 .rw[a' z];let f:=k.filter p;let all:∀r∈L.filter p,r=r0:=λr c=>h r (hH.mp c).1 (hH.mp c).2;let g:r0∈L.filter p:=hH.mpr #[m z,z]
  match e:L.filter p with
  |[]=>rw[e]at g;show-bt g dU
  |[a]=>rw[e]at all;rw[all a (.head _)]
  |a::b::l=>
   rw[e]at all f;have:=(kG.mp f).1;show-bt (by rw[all a (.head _),all b (.tail _ (.head _))];show-.head _) this
 rw[a4 z];show-List.filter_eq_nil_iff.mpr λr c d=>z ?_;rwa[<-h r c d]
def E0(ds:b0)(a:Nat->Int)(b:Nat->Nat)(T:Int)(c:bB)(i:Nat):Bool:=decide (i∈(j6 ds a b T c (b i)).2)
def Ps{ds:b0}{a:Nat->Int}{c:Nat->Nat}{T:Int}{d:bB}(l:∀k∈d,c k<ds.Z)(i:Nat):(xH ds a c T d).filter (λb=>decide (i∈b.2))=if E0 ds a c T d i=q4 then[j6 ds a c T d (c i)]else[]:=by
 unfold xH;rw[E5];let g:(sQ ds.length a c T d).Nodup:=(P8.filter _).imp λh=>e8 h;rw[ahy (r0:=c i) g (p:=(λb:hx×List Nat=>decide (i∈b.2))∘j6 ds a c T d) (λr _ f=>((ub (nD f)).2.2).symm) (λf=>?_)]
 .show v9 _ (if E0 ds a c T d i=q4 then[c i]else[])=_;cases E0 ds a c T d i<;>rfl
 let m:=ub (nD f);unfold sQ;show-hH.mpr #[kF.mpr (l i m.1),4];let hm:(a i,i)∈fT a c T d (c i):=by unfold fT;show-bQ.mpr #[i,hH.mpr #[m.1,4],2];rw[cw m.2.1,cw rfl];rfl
 cases e:fT a c T d (c i)with
 |nil=>rw[e]at hm;show-bt hm dU
 |cons _ _=>rfl
section
variable{P:cq}{w:bW}{K:aL}{mg:b5}{base:Heap}
abbrev Wb:Stmt:=ij (top 8) 0
def asm:cJ Bq Bq (b_ Wb):=({})
def apV{f:Addr}(F:cp K "__init__" "NoWay.__init__" Wb f fd)(B:fc mg)(d:m' K mg "RoadError" C R)(D:mg "RoadError"=j3 (.ref R))(i:c7 K (.ref C) "reason"=j3 jp)(j:c7 K (.ref C) "seen"=j3 jp):-aH a9 1 f fd Bq (Ro C):=by
 show-F.ok asm (λu A N s H J Q E I h=>?_);let#[e,s,v,G,2,L,g,q]:=h;show#[_,(a7 (gL (XY xo D d.rd d.Gg d.z3 (aj (ae 0) (aj cz aw))))
  (a7 (ww (y:="RoadError") (R:=R) (ae 0) (ae 1) rfl)
  (a_ (ww (y:="RoadError") (R:=R) (ae 0) (hS CJ B.list xd (aj (ae 2) aw)) rfl)))),4]
 show#[1,e,C,1,L,d,sz_,4];show#[5,e,C,2,d,i,.inl #[L,λn m V=>?_]];let t:s≠e:=λz=>by rw[z,L]at g;cases g
 let r:s≠n:=λz=>by rw[z,m]at g;cases g
 show#[1,s,G,2,.inl (aI.of (by rwa[aR t,aR r])),λl a=>?_];let p:l≠e:=λz=>by rw[z,aQ]at a;cases a
 rw[aR p]at a;let k:l≠n:=λz=>by rw[z,aQ]at a;cases a
 rw[aR k]at a;show#[1,e,C,2,d,j,.inr #[n,[("reason",v)],4,4,(by show 1<100;decide),4]]
 .rw[aR (e5 p)];show-aQ
 .rw[aR (e5 k),aR V];show-aQ
 show-q n l _ m a (e5 k) (λb o c x=>?_) ?_ ?_ ?_
 .rw[aR (λz=>by rw[z,m]at c;cases c),aR (λz=>by rw[z,a]at c;cases c),aR x,aR (λz=>by rw[z,m]at c;cases c)];show-c
 .rw[aR (e5 V),aR (e5 p)];show-aQ
 .exact aQ
 rw[aR k];show-aQ
abbrev D3:Stmt:=ij (top 59) 4
abbrev awD:List Str:=["self","house","goal","taken","seen","number","come_to"]
def FG:cJ awD fZ (b_ D3):=({})
inductive agY(H:ag)(Q:aX)(E:bM)(cS x eR js:Addr)(hs:bb)(ds:b0)(kvs:eo)(h' g':Str)(m:Nat)(aa:aq.St)(cg:ag):Prop where
 |mk(c:Str)(sn:bE)(aP:bB)(qC v6:ji)(_:aa=[j3 (.ref x),j3 (.str h'),j3 (.str g'),j3 (.ref eR),j3 (.ref js),qC,v6])(_:aD H cg)(_:cg eR=j3 (.lst (nats aP)))(_:cg js=j3 (.lst (rv sn)))(_:aq.hp (rv sn) (-1)=j3 (.str c))(_:∀y∈sn,y∈hs.map S)(_:sn.Nodup)(_:Rp cS (ic kvs hs ds g' m c sn aP) H Q E)(_:m+sn.Z=14)(_:aP.Z+1=sn.Z)
def apW{f:Addr}(F:cp K "route" "Ways.route" D3 f fd)(g:uo K C)(eZ:fw K D)(lq:dn K D "need_house" "Net.need_house" A3 lT f1 cW)(r6:-aH (fE P w) 1 f1 cW lT (Jk D hQ))(nd:dn K D "road" "Net.road" Ap eA f2 d8)(HG:-aH (fE P w) 1 f2 d8 eA (Ι D Bx))(Ig:m' K mg "RoadError" B R)(oz:mg "NoWay"=j3 (.ref B))(Z0:mC K (.ref B)=q4)(Z1:c7 K (.ref B) "__init__"=j3 (j3 (.ref nh)))(Z2:qP K (.ref nh)=q4)(MQ:-aH a9 1 nh Gj Bq (Ro B))(Z3:Binds K Gj Bq []):
  -aH (iJ P w) 3 f fd fZ (KG C D hQ B):=by
 show-DK F FG (λcdv A outer s H vs Q E u h=>?_);let#[x,n,t,bp,bl,l,rs,ds,X,U,j,2,W,G,de,tab,q,i9]:=h;let#[al,ar]:=W.ins;let#[fR,hn]:=W.g7.ins;show#[_,(a7 (gL (gp (eX (ae 0)) eZ lq.eO r6 u.mono lq.bd .nil XZ (aj (ae 1) aw)))
  (a7 (gL (gp (eX (ae 0)) eZ lq.eO r6 u.mono lq.bd .nil XZ (aj (ae 2) aw)))
  (a7 (cE 3 FG.aA (eY aw))
  (a7 (cE 4 FG.aA (eY (aj (ae 1) aw)))
  (a7 (X3 ā (fQ AF (cn fG (ae 4) (AK Aa a8)) (ae 2) (eK _))
   (a7 (cE 5 FG.aA (N3 (lF u) (eX (ae 0)) (h_ (aj (cn fG (ae 4) (AK Aa a8)) (aj (ae 2) aw))) #[2,2,2,2]))
  (a7 (er (fQ vy (ae 5) iZ (eK _)) (a_ (HS Ig oz Z0 Z1 Z2 MQ u.mono Z3 rfl (aj cz (aj (ae 4) aw)))) eB)
  (a7 (cE 6 FG.aA (cn ey (gp (eX (ae 0)) eZ nd.eO HG u.mono nd.bd .nil XZ (aj (ae 5) aw)) a8))
  (a7 (er (fQ N0 (ae 6) (ae 4) xo) (a_ (HS Ig oz Z0 Z1 Z2 MQ u.mono Z3 rfl (aj cz (aj (br jI (ae 4) (eY (aj (ae 6) aw))) aw)))) eB)
  (a7 (gL (i3 o' p7 p8 oo (ae 3) (aj (ae 5) aw)))
  (a_ (gL (i3 o' p7 p8 oo (ae 4) (aj (ae 6) aw))))))))))
  (a_ (cc (ae 3)))))))),4]
 show#[1,x,C,al,_,1,ar,g.cl,g.nn,2,n,fR,1,hn,7,n,bp,bl,l,_,U,2,W.g7,λfi=>?_,λZ=>i9 (.inl Z)];show#[1,x,C,al,_,1,ar,g.cl,g.nn,2,n,fR,1,hn,7,n,bp,bl,l,_,j,2,W.g7,λhK=>?_,λZ=>i9 (.inr Z)];show#[eu _,λT mR=>#[1,sz_,λb zD=>?_]];let q:=q fi hK;let s3:=bT (o:=.lst []) mR;let b3:=bT (o:=.lst [V.str U]) zD;let U8:b≠T:=λz=>by rw[z,aQ]at zD;cases zD
 let awx:H b=jp:=by rwa[aR U8]at zD
 show#[agY H Q E B x T b l ds X U j,#[13,U,[U],[],jp,jp,2,s3.trans b3,b3 _ _ aQ,aQ,2,4,4,q,2,2],4]
 .intro y N;rwa[e4.mp N]
 .exact kG.mpr #[dU,p4]
 rintro m aa cg ⟨c,a,M,qC,v6,rfl,J,a6,b8,p,sub,aA,q,hm,au⟩;let adk:a.Z<=12:=by have:=q1 aA sub;rw[aM]at this;show-dQ this G.bX
 obtain⟨m,rfl⟩:∃d9,m=d9+1:=#[m-1,9]
 let aDB:(rv a).Z=a.Z:=aM _;show#[5,b,_,3,aI.of b8,p,1,7,4];unfold ic at q;by_cases LB:c=j
 .rw[a' LB]at q;show-eM (by rw[LB];simp) #[1,q T cg mR J a6]
 rw[a4 LB]at q;show-d1 (by simp[LB]) #[_,λbx H' h=>#[m,yw _,h],4];let Us:=J _ _ ar;show#[1,x,C,al,_,1,Us,g.cl,g.fl,2,t,2,.inr #[X,.inl (J _ _ W.told)],5,b,_,3,aI.of b8,p,1,sz_,λr hh=>#[_,j9.t (k:=gu c j) ((bT hh) _ _ (J _ _ W.told)) aQ,4]];let s5:=bT (o:=.tup [V.str c,V.str j]) hh;let L:=J.trans s5;let Tb:=s5 _ _ a6;let I:=s5 _ _ b8;generalize upd cg r (.tup [V.str c,V.str j])=H1 at s5 L Tb I⊢;rcases tab.get c j with⟨aE,aC⟩|⟨i,aE,aC,hi⟩
 .rw[aC]at q;rw[aE];show#[1,7,d1 x8 #[1,sz_,λe ne=>Ų q L I ne]]
 rw[aC]at q;rw[aE];show#[1,7,eM xg ?_];obtain⟨cu,dH⟩:∃cu,rs[i]?=j3 cu:=#[_,cQ (by rwa[de.len])]
 let#[d,cG,atx,CD]:=de.get dH;let ow:jS l ds i=S (l.getD d.b []):=by unfold jS;rw[xb cG]
 let y1:aq.hp (aT rs) (i:Int)=j3 (.ref cu):=jG (by unfold aT;rw[cR,dH];rfl);show#[1,x,C,al,_,1,L _ _ ar,g.cl,g.nn,2,n,fR,1,L _ _ hn,7,n,bp,bl,6,(i:Int),2,W.g7.same L,λ_=>#[_,y1,4],λZ=>bt #[9,by rw[eW,de.len];lia] Z];show#[cu,_,3,cj.of (L _ _ CD),2,4];simp only[ow]at q;let zC:S (l.getD d.b [])∈l.map S:=bQ.mpr #[_,getD_mem' atx.b,2];generalize S (l.getD d.b [])=fH at q zC⊢;show#[5,b,1,.inl (aI.of I),2,HQ _,1,4];by_cases Y:fH∈a
 .rw[a' Y]at q;show-d1 (Ou Y) #[5,sz_,λaxv Mx=>#[b,axv,3,(bT Mx) _ _ I,aQ,n2 (el (by show(rv a).Z+1<=1000;lia)),λad6 vq=>#[sz_,λe ne=>Ų q (L.trans ((bT Mx).trans (bT vq))) (by rw[aQ];unfold rv;rw[eb];rfl) ne]]]
 rw[a4 Y]at q;show-eM (X7 Y) ?_;let aDD:(nats M).Z=M.Z:=aM _;show#[1,.inl #[2,_,aI.of Tb],1,T,3,Tb,el qI,4];let O:upd H1 T (.lst (nats M++[V.int (i:Int)])) b=j3 (.lst (rv a)):=by rwa[aR U8]
 show#[1,.inl #[2,_,aI.of O],1,b,3,O,el qI,4];show#[fH,a++[fH],M++[i],_,1,hq awx (hq mR L),4,4,4,4,4,q,4,4]
 .rw[aR (e5 U8),aQ];unfold nats;rw[eb];rfl
 .rw[aQ];unfold rv;rw[eb];rfl
 .exact Zr a fH
 .intro y N;rcases gU.mp N with N|N
  .exact sub y N
  rwa[e4.mp N]
 .exact HH aA Y
 .rw[c0];show m+(a.Z+1)=14;lia
 rw[c0,c0];show M.Z+1+1=a.Z+1;lia
end
end dP
namespace b4
open PySem PySem.Spec PyProof.Rows aq
def apX(K:aL)(k:p9)(R:Addr)(l:fo):fo:=λD d H=>k D (λf b g H'=>∃C c,b=.ref C/\g=j3 c/\l' K C R=q4/\∀a,H' a=jp->l D f (upd H' a (l4 a C c))) d H
def ó{X:bA}{st E:Stmt}{J:List Stmt}{M:p9}(w:X.stack=X.env::X.outer)(GO:X.env.frame=j3 X.env.locals)(af:J_ X st M)(bz:jd X x)(hm:X.mg x=j3 (.ref R))(de:l' X.K R R=q4)(GX:∀g,gm (sO X g) (E::J) ts)(iB:(x==("__debug__":Str))=q9:=by decide):f3 X (.Try [st] [.ExceptHandler (j3 (.Name x np)) jp (E::J) T'] [] [] pos) (apX X.K M R ts):=by
 intro a s aa H D I h;show-aeS (Od (fC (af a s aa H D _ I h) (λf A q=>?_) λe A q=>?_))
 .cases f with
  |next=>show-vI (vI q)
  |ret v=>show-q
  |brk=>show-q
  |cont=>show-q
 let#[G,cg,sc,g,cls,a0,H',B,d_,2,O,T,lk,C,r,2,2,jL,k]:=q;let#[o0,T5,zf]:=lk r rfl;let nv:X.A.frames=j3 (X.env::X.outer):=by rw[<-w];show-I.ok.frames
 let P:=T.eQ;rw[w]at P;show-Ö nv GO P λb8 GL Z Wh=>Ø GL λo K Ag Wi=>?_;let Q:=K;rw[<-w]at Q;let p:=T.move Q (Z.trans Ag);let y:Inv X a G H' {A with heap:=o}:=O.FZ (s':={A with heap:=o}) (ch:=[]) p.os p.un p.bu p.bare (λb z=>bt z xg);let#[ob,px,GV]:=K.there;show-aeU (abo (sL (X:=sO X g) (b4.Inv.oR y g) bz hm (O' y.eN jL de px GV ?_) iB)) (by intro q;cases q);show-codeAny_handlers_suite (Ù K λF U Im Wj=>?_);let Y:=U;rw[<-w]at Y;let lW:=p.move Y Im;let#[L,v6,j,N,i,_]:=U.first;let V:L.dict=j3 r:=(((Wh.trans Wi).trans Wj).dict T5 j).trans zf;let Cz:F.get? g=j3 #[.ref C,j3 r,.fields v6,L.slots]:=by rw[j];let#[c,d,sb,bK]:=L;dsimp only at N i V;rw[N,i,V]
 let hD:=T.new;let rK:Inv X a G (upd H' g (l4 g C r)) {A with heap:=F}:=kR.inv O lW (Ŋ Cz);show-fC (GX g a _ _ _ _ (b4.Inv.oR rK g) (k g hD)) (λGm ja t=>?_) λ_ _ z=>iu z;cases Gm with
 |next=>let#[n,l,m,q]:=t;show#[n,l,Inv.Ik I.ok.hd m,q]
 |brk=>let#[n,l,m,q]:=t;show#[n,l,Inv.Ik I.ok.hd m,q]
 |cont=>let#[n,l,m,q]:=t;show#[n,l,Inv.Ik I.ok.hd m,q]
 |ret u=>let#[Iq,n,l,m,zS,q]:=t;show#[Iq,n,l,Inv.Ik I.ok.hd m,zS,q]
section
variable{X:bA}{e o:Expr}{es:hy}{pos fP p:Pos}{k:Nat}{f C:Addr}{fd:m3}{ps:bE}{sp:fx}{ck:TE}{t:gb}{m x:Str}
def ô{pl:Sem Bool}(J:bq X.ud o ck)(c:fw X.K C)(hm:Meth X.K C m f)(F:aH X.prog X.w X.K X.mg X.base (iJ X.prog X.w) k f fd ps sp)(y:gD k X.A)(i:Binds X.K fd ps [])(L:fN X.ud (e::es) t)(M:dM (e::es) X.env=(q9,eval e X.env)::dM es X.env:=by rfl)(d3:(hr pos (dM es X.env)).any (·.1)=q9:=by rfl)(z:eval (.Call (.Attribute o m fP) (e::es) [] pos) X.env=(do
   let A <-eval o X.env
   vC fP.atName
   let(f,first) <-tW [A] (y9 A m pl)
   yQ pos f first (hr pos (dM (e::es) X.env)) (od pos (oH [] X.env))):=by rfl):
  J9 X (.Call (.Attribute o m fP) (e::es) [] pos) (ĸ C m sp ck t):=by intro pins s n H Q E I h;show-Fz (pl:=pl) (HB (X:=X) (pins:=pins) (bL (J pins s n H _ (I.mr _) h) λu O d=>?_)) z;let#[x,K,b,B,a,P,R,G,N,l,q]:=d;subst G;obtain rfl:u=cM a:=B;let b:=b.nM;show-HF b N c hm l ?_;show-yB (first:=[.ref a]) (h₀:=X.base) I.ok.mod.sJ hm.fK (HB (X:=X) (pins:=pins) (bL (L pos pins O n K _ (b.mr _) q) λus T d=>?_)) M d3;let#[vs,j,w,r,D]:=d;show#[w.nM.eN,4];show-Ò (us:=.ref a::us) (vs:=.ref a::vs) F y i w.nM (.cons rfl r) ?_;let g:sp (V.ref a::(vs++[])) j Q E:=D;rwa[lS]at g
def apY(c:tF)(i:Nat):p9:=λD E a H=>c (E a) a H λv b=>D.cX (a.set i (j3 v)) b
def Pt{i:Nat}{c:tF}(K:X.N.Nodup)(N:X.N[i]?=j3 x)(l:Loc X.env.scope x)(L:J9 X e c)(V:xq e (j3 (.Name x pos')) pos.line X.env=pure q9:=by rfl)(n:X.fn x=q4\/X.env.scope.names.lookup x=j3 .local:=by first|exact .inl rfl|exact .inr rfl|assumption):
  J_ X (.Assign [.Name x pos'] e pos) (apY c i):=by intro a s b H D E I h;show-aeP (fC (L a s b H _ _ I h) (λv z j=>?_) λe u q=>#[b,q]) V;let#[y,d,g,A,w]:=j;show-DZ g K N l A (λB r=>#[_,d,r,w]) n
end
end b4
namespace dP
open PySem aq b4 cm
def asn:Out->Bool
 |.ok _=>q4
 |.no _ _=>q9
def ue(a:eo)(b:bb)(ds:b0)(d:u0):Bool:=asn (ic a b ds d.2.2 13 d.1 [d.1] [])
inductive aaK(C CN:Addr)(vs:aV)(H:ag)(Q:aX)(fq:bM):Prop where
 |mk(lt x n t bp bl:Addr)(hs:bb)(rs:bS)(ds:b0)(kvs:eo)(d:u0)(_:vs=[.ref lt,.ref x])(_:H lt=j3 (.tup (q' d)))(_:mP C CN H x n t bp bl (c1 hs) (aT rs) kvs)(_:Good hs)(_:gG H hs rs ds)(_:lg kvs ds.Z)(_:d.1∈hs.map S)(_:d.2.2∈hs.map S)(_:∀H',aD H H'->Q (.bo (ue kvs hs ds d)) H')
section
variable{P:cq}{w:bW}{K:aL}{mg:b5}{base:Heap}
abbrev Nf:Stmt:=top 41
def aso:cJ Bt Bt (b_ Nf):=({})
def apZ{f:Addr}(F:cp K "has_route" "has_route" Nf f fd)(U:fw K C)(k:l' K i i=q4)(oz:mg "NoWay"=j3 (.ref i))(r:dn K C "route" "Ways.route" D3 fZ f1 J)(L:-aH (iJ P w) 3 f1 J fZ (KG C j hQ i)):
  -aH a9 4 f fd Bt (aaK C j):=by
 show-F.ok aso (λM A c s H vs Q E o h=>?_);let#[lt,x,n,t,I,D,p,rs,ds,a,d,2,m,W,G,O,g,R,T,q]:=h;let#[b,u]:=W.ins;show#[_,(a7 (ó rfl rfl (akY (ô (ae 1) U r.eO L o.mono r.bd (aj (cn ey (ae 0) a8) (aj (cn ey (ae 0) a8) aw)))) rfl oz k (λV=>(a_ (cc i2))))
  (a_ (cc i2))),4]
 show#[1,x,b,1,u,7,lt,_,3,cj.of m,7,lt,_,3,cj.of m,2,x,n,t,I,D,p,rs,ds,a,d.1,d.2.2,2,W,G,O,g,λ_ _=>?_,λZ=>Z.elim (λz=>bt R z) λz=>bt T z];unfold ue at q;cases e:ic a p ds d.2.2 13 d.1 [d.1] []with
 |ok aP=>
  rw[e]at q;intro l H' X B y;show-q H' B
 |no qF sn=>
  rw[e]at q;intro b l H' aA X w7 N zh y;show#[i,b,2,2,k,λV Y=>?_];show-q _ (N.trans (bT Y))
inductive me(kvs:eo)(hs:bb)(ds:b0)(g:Str):Str->List Nat->Prop
 |CB:me kvs hs ds g g []
 |on{h:Str}{k:Nat}{aP:bB}:h≠g->oM kvs h g=j3 k->k<ds.Z->me kvs hs ds g (jS hs ds k) aP->me kvs hs ds g h (k::aP)
end
theorem X_{l:eo}{a:bb}{ds:b0}(R:∀d∈ds,d.Ok a.Z)(T:lg l ds.Z)(i:a.Z<=12):∀(n:Nat)(c:Str)(f:bE)(p b:bB),n+f.Z=14->f.Nodup->(∀y∈f,y∈a.map S)->
  ic l a ds g n c f p=.ok b->∃r,b=p++r/\me l a ds g c r/\r.Z+f.Z<=a.Z
 |0,c,f,p,b,hn,aA,sub,e=>by
  have:=q1 aA sub;rw[aM]at this
  lia
 |n+1,c,f,p,b,hn,aA,sub,e=>by
  let t:=q1 aA sub;rw[aM]at t;unfold ic at e;by_cases z:c=g
  .rw[a' z]at e;cases e;subst z;show#[[],by rw[lS],.CB,by show 0+f.Z<=a.Z;lia]
  rw[a4 z]at e;rcases T.get c g with⟨_,w⟩|⟨k,_,w,h⟩
  .rw[w]at e;cases e
  rw[w]at e;by_cases m:jS a ds k∈f
  .simp only[a' m]at e;cases e
  simp only[a4 m]at e;let L:jS a ds k∈a.map S:=by unfold jS;show-vz (R _ (getD_mem' h)).b
  let#[r,N,V,K]:=X_ R T i n (jS a ds k) (f++[jS a ds k]) (p++[k]) b (by rw[c0];show n+(f.Z+1)=14;lia) (HH aA m) (λy j=>by
   rcases gU.mp j with A|A
   .exact sub y A
   rw[e4.mp A];show-L) e
  rw[c0]at K;simp only[ej,kf]at K;show#[k::r,by rw[N,jB];rfl,.on z w h V,by rw[ej];lia]
def agh{a:eo}{b:bb}{ds:b0}(R:∀d∈ds,d.Ok b.Z)(T:lg a ds.Z)(g:b.Z<=12){d:u0}(m:d.1∈b.map S)(h:ue a b ds d=q4):∃c,me a b ds d.2.2 d.1 c/\c.Z<=b.Z:=by
 unfold ue at h;cases e:ic a b ds d.2.2 13 d.1 [d.1] []with
 |ok out=>
  let#[c,_,f,l]:=X_ R T g 13 d.1 [d.1] [] out rfl (kG.mpr #[dU,p4]) (λy k=>by rwa[e4.mp k]) e;show#[c,f,9]
 |no i sn=>rw[e]at h;cases h
structure qr(hs:bb)(ds:b0)(kvs:eo)(ay:bE)(sss:dF)(go:bB)(rt:Nat->List Nat):Prop where
 len:sss.Z=ay.Z
 lt:∀n∈go,n<ay.Z
 aA:go.Nodup
 ne:∀ss∈sss,ss≠[]
 bX:∀n,(sss.getD n []).Z+(rt n).Z<=20
 gC:∀n∈go,(gE sss n).gC∈hs.map S
 goal:∀n∈go,hA ay n∈hs.map S
 way:∀n∈go,me kvs hs ds (hA ay n) (gE sss n).gC (rt n)
 on:∀n∈go,rt n≠[]
def me.way{f:eo}{ds:b0}(r:me f hs ds g h e)(m:e≠[]):∃k l,e=k::l/\h≠g/\oM f h g=j3 k/\k<ds.Z/\me f hs ds g (jS hs ds k) l:=by
 cases r with
 |CB=>exact bt rfl m
 |on a b c d=>show#[_,1,a,b,c,d]
def qr.za{ds:b0}{a:eo}{g:bB}{rt:Nat->List Nat}(T:lg a ds.Z)(O:qr hs ds a h e g rt):(∀n∈g,PQ hs a h e (gN e) (e_ a h e) n)/\∀n∈g,e_ a h e n<ds.Z:=by
 let f:∀n∈g,∃k,oM a (gE e n).gC (hA h n)=j3 k/\e_ a h e n=k/\k<ds.Z/\(gE e n).gC≠hA h n/\c8 a (gu (gE e n).gC (hA h n))=j3 (.int (k:Int)):=λn c=>by
  let#[k,A,_,d,b,l,_]:=(O.way n c).way (O.on n c);show#[k,b,by unfold e_;rw[b];rfl,l,d,4];rcases T.get (gE e n).gC (hA h n)with⟨_,w⟩|⟨i,v,w,_⟩
  .rw[w]at b;cases b
  rw[w]at b;cases b;show-v
 show#[λn c=>?_,λn c=>?_]
 .let#[k,t,d,b,l,r]:=f n c;let p:=O.lt n c;let m:e[n]?=j3 (e.getD n []):=xh (by rwa[O.len]);let#[i,K]:=M7 (O.ne _ (dm m));show#[i,gE e n,hA h n,4,2,xh p,O.gC n c,O.goal n c,l,by rwa[d]];rw[m];congr 1
 let#[k,_,d,b,_]:=f n c;rwa[d]
section
variable(hs:bb)(ds:b0)(kvs:eo)(ay:bE)
def nextT(T:Int)(b:bB)(a:dF):Int:=max (T+1) (qp (b.map (gN a)))
def nC(T:Int)(b:bB)(a:dF):List (hx×List Nat):=xH ds (gN a) (e_ kvs ay a) T b
def gO(T:Int)(b:bB)(a:dF):List (List Step):=pC hs ds (nC ds kvs ay T b a) a
def mf(T:Int)(b:bB)(a:dF)(i:Nat):Bool:=E0 ds (gN a) (e_ kvs ay a) T b i
def tP(b:bB)(a:dF):List Nat:=b.filter λn=>decide ((gE a n).gC≠hA ay n)
def lM:Nat->Int->List Nat->List (List Step)->List (hx×List Nat)
 |0,_,_,_=>[]
 |m+1,T,go,e=>if go=[]then[]else nC ds kvs ay (nextT T go e) go e++lM m (nextT T go e) (tP ay go (gO hs ds kvs ay (nextT T go e) go e)) (gO hs ds kvs ay (nextT T go e) go e)
end
section
variable{hs:bb}{ds:b0}{kvs:eo}{ay:bE}{sss:dF}{go:bB}{rt:Nat->List Nat}{T:Int}
def step_get(b:∀k∈go,e_ kvs ay sss k<ds.Z)(i:Nat):(gO hs ds kvs ay T go sss)[i]?=(sss[i]?).map λa=>a++(if mf ds kvs ay T go sss i=q4 then[stepK hs ds (T,e_ kvs ay sss i)]else[]):=by unfold gO;rw[OM];congr 1;funext a;congr 1;unfold nC;rw[Ps b i];show v9 _ (if mf ds kvs ay T go sss i=q4 then _ else _)=_;cases mf ds kvs ay T go sss i<;>rfl
def YI(a:∀k∈go,e_ kvs ay sss k<ds.Z){i:Nat}(b:i<sss.Z):(gO hs ds kvs ay T go sss).getD i []=sss.getD i []++(if mf ds kvs ay T go sss i=q4 then[stepK hs ds (T,e_ kvs ay sss i)]else[]):=by rw[dB,step_get a,xh (d:=[]) b];rfl
def Pu{i:Nat}(h:mf ds kvs ay T go sss i=q4):i∈go/\gN sss i<=T:=by have:=ub (nD h);show#[this.1,this.2.1]
def NQ(a:∀k∈go,e_ kvs ay sss k<ds.Z){i:Nat}(b:i<sss.Z):gE (gO hs ds kvs ay T go sss) i=if mf ds kvs ay T go sss i=q4 then stepK hs ds (T,e_ kvs ay sss i)else gE sss i:=by
 unfold gE;rw[YI a b];by_cases z:mf ds kvs ay T go sss i=q4
 .rw[a' z,a' z];show-WW _ _
 rw[a4 z,a4 z,lS]
def õ{r:Nat}(h:r<ds.Z):ru hs ds r=jS hs ds r:=by unfold ru jS;rw[show ds.getD r qy=ds[r] by rw[dB,cQ h];rfl,show ds.getD r e1=ds[r] by rw[dB,cQ h];rfl]
def uf(ds:b0)(kvs:eo)(ay:bE)(T:Int)(go:bB)(sss:dF)(rt:Nat->List Nat)(i:Nat):List Nat:=if mf ds kvs ay T go sss i=q4 then(rt i).tail else rt i
def me.nil_eq{kvs:eo}{g:Str}(r:me kvs hs ds g h i)(e:i=[]:=by rfl):h=g:=by
 cases r with
 |CB=>rfl
 |on=>cases e
def qr.step(R:∀d∈ds,d.Ok hs.Z)(h:lg kvs ds.Z)(O:qr hs ds kvs ay sss go rt):qr hs ds kvs ay (gO hs ds kvs ay T go sss) (tP ay go (gO hs ds kvs ay T go sss)) (uf ds kvs ay T go sss rt):=by
 let g:=(O.za h).2;let sub:∀n∈tP ay go (gO hs ds kvs ay T go sss),n∈go:=λn a=>(hH.mp a).1;let c:∀n∈go,me kvs hs ds (hA ay n) (gE (gO hs ds kvs ay T go sss) n).gC (uf ds kvs ay T go sss rt n):=λn a=>by
  let b:n<sss.Z:=by rw[O.len];show-O.lt n a
  rw[NQ g b];unfold uf;by_cases z:mf ds kvs ay T go sss n=q4
  .rw[a' z,a' z];let#[k,j,K,_,A,L,V]:=(O.way n a).way (O.on n a);let N:e_ kvs ay sss n=k:=by unfold e_;rw[A];rfl
   rw[K];show me kvs hs ds (hA ay n) (ru hs ds (e_ kvs ay sss n)) j;rw[N,õ L];show-V
  rw[a4 z,a4 z];show-O.way n a
 show#[4,λn a=>O.lt n (sub n a),O.aA.filter _,λs q=>?_,λn=>?_,λn a=>?_,λn a=>O.goal n (sub n a),λn a=>c n (sub n a),λn a e=>?_]
 .unfold gO;rw[N8];show-O.len
 .let#[i,r]:=nY q;rw[step_get g]at r;let#[t,l,2]:=e6.mp r;have:=O.ne t (dm l);intro e;show-this (ο.mp e).1
 .let f:=O.bX n;by_cases b:n<sss.Z
  .rw[YI g b];unfold uf;by_cases z:mf ds kvs ay T go sss n=q4
   .rw[a' z,a' z,c0,ω];have:=p3.mpr (O.on n (Pu z).1);simp only[ej,kf]
    lia
   rwa[a4 z,a4 z,lS]
  let l:(gO hs ds kvs ay T go sss).getD n []=[]:=by rw[dB,PZ (by unfold gO;rw[N8];lia)];rfl
  let z:¬mf ds kvs ay T go sss n=q4:=λz=>b (by rw[O.len];show-O.lt n (Pu z).1);rw[l];unfold uf;rw[a4 z];simp only[kf]
  lia
 .let m:=sub n a;let b:n<sss.Z:=by rw[O.len];show-O.lt n m
  rw[NQ g b];by_cases z:mf ds kvs ay T go sss n=q4
  .rw[a' z];let p:=g n m;show ru hs ds (e_ kvs ay sss n)∈_;unfold ru;rw[show ds.getD (e_ kvs ay sss n) qy=ds[e_ kvs ay sss n] by rw[dB,cQ p];rfl];show-vz (R _ (nZ p)).b
  rw[a4 z];show-O.gC n m
 let o:=nD (hH.mp a).2;let w:=c n (sub n a);rw[e]at w;show-o w.nil_eq
def ip(rt:Nat->List Nat)(go:bB):Nat:=(go.map λn=>(rt n).Z).sum
theorem ŏ{f g:Nat->List Nat}:∀{go:bB},(∀n∈go,(f n).Z<=(g n).Z)->ip f go<=ip g go
 |[],_=>b7 _
 |n::go,h=>by
  unfold ip;rw[e7,mx,e7,mx];let c:=h n (.head _);let a:ip f go<=ip g go:=ŏ λn b=>h n (.tail _ b);unfold ip at a
  lia
theorem Ő{f g:Nat->List Nat}:∀{go:bB},(∀n∈go,(f n).Z<=(g n).Z)->(∃n∈go,(f n).Z<(g n).Z)->ip f go<ip g go
 |[],_,⟨n,hn,_⟩=>nomatch hn
 |n::go,h,⟨m,hm,lt⟩=>by
  let b:=h n (.head _);let le:ip f go<=ip g go:=ŏ λn hn=>h n (.tail _ hn);unfold ip at le⊢;rw[e7,mx,e7,mx];rcases et.mp hm with rfl|hm
  .lia
  let a:ip f go<ip g go:=Ő (λn hn=>h n (.tail _ hn)) #[m,hm,lt];unfold ip at a
  lia
theorem Ya{f:Nat->List Nat}{p:Nat->Bool}:∀go:List Nat,ip f (go.filter p)<=ip f go
 |[]=>b7 _
 |n::go=>by
  let h:=Ya (f:=f) (p:=p) go;rw[tx];unfold ip at h⊢;split
  .rw[e7,mx,e7,mx]
   lia
  rw[e7,mx]
  lia
def qr.less(R:∀d∈ds,d.Ok hs.Z)(l:lg kvs ds.Z)(O:qr hs ds kvs ay sss go rt)(h:∃n∈go,gN sss n<=T):ip (uf ds kvs ay T go sss rt) (tP ay go (gO hs ds kvs ay T go sss))<ip rt go:=by
 let k:=(O.za l).2;show-p6 (Ya go) (Ő (λn c=>?_) ?_)
 .unfold uf;split
  .rw[ω];lia
  show-b7 _
 let#[n,c,p]:=h;let f:=k n c;let q:fT (gN sss) (e_ kvs ay sss) T go (e_ kvs ay sss n)≠[]:=ahZ (a:=(gN sss n,n)) (by
  unfold fT;show-bQ.mpr #[n,hH.mpr #[c,4],2];rw[cw p,cw rfl];rfl)
 let m:1<=kX ds (e_ kvs ay sss n):=by
  unfold kX;rw[show ds.getD (e_ kvs ay sss n) qy=ds[e_ kvs ay sss n] by rw[dB,cQ f];rfl];have:=(R _ (nZ f)).m.1
  lia
 let#[i,g]:=E3 _ (Ŏ m q);let b:=ub g;let z:mf ds kvs ay T go sss i=q4:=by unfold mf E0;rw[b.2.2];show-cw g
 show#[i,b.1,4];unfold uf;rw[a' z,ω];have:=p3.mpr (O.on i b.1)
 lia
def OQ(h:go≠[]):∃n∈go,gN sss n<=nextT T go sss:=by let a:=(Jv (ns:=go.map (gN sss)) (by simpa using h)).1;let#[n,b,e]:=bQ.mp a;show#[n,b,4];unfold nextT;rw[e];show-Int.le_max_right _ _
def om:Str×Int×Str:=(n7,0,n7)
end
def qs(c:bb)(ds:b0)(a:eo)(b:kl):List Nat:=(dY b.Z).filter λi=>ue a c ds (b.getD i om)
def ry(c:bb)(ds:b0)(a:eo)(b:kl):List (hx×List Nat):=lM c ds a (b.map λd=>d.2.2) 1300 (-1) (qs c ds a b) (b.map kS)
theorem aos{K:aL}{n:eV}{xs:aV}{rest:aq.St}{m:iL}{l:TE}{Q:aX}{H1:ag}(N:∀R:fF->ag->Prop,R (xW K a) H1->n h H R)(A:hX cs h=jp::jp::rest)(r:aI K H1 a xs)(w:xs.Z<sizeLine)(p:Nat->Bool)(f:Nat->aq.V)(d:∀(i:Nat)(x:aq.V)(b:ag)(R:Bool->ag->Prop),xs[i]?=j3 x->aD H1 b->(∀c,aD b c->R (p i) c)->m (j3 (.int i)::j3 x::rest) b R)(g:∀(i:Nat)(x:aq.V)(b:ag)(R:aX),xs[i]?=j3 x->p i=q4->aD H1 b->(∀c,aD b c->R (f i) c)->l (j3 (.int i)::j3 x::rest) b R)(k:∀(D:Addr)(H':ag),H1 D=jp->H' D=j3 (.lst (((dY xs.Z).filter p).map f))->aD H1 H'->Q (.ref D) H'):
  kD n cs (vS K 2 (qt (hW 0) (qt (hW 1) x4))) m l h H Q:=N _ (Ã A r w (λi _=>p i) (λi _=>f i) d g λD H' L bR t=>k D H' L (by
   let e:((xs.zipIdx.filter λz=>p z.2).map λz=>f z.2)=((dY xs.Z).filter p).map f:=by rw[ah1,<-ah6,E5,ek];rfl
   rw[<-e];show-bR) t)
def Ai{H:ag}{b:bS}(h:bV (hU H) b e):∀l∈b,∃a,H l=j3 (.lst (aT a)):=(λl d=>by let#[i,f]:=nY d;let#[g,_,a,c,_]:=bV.get h f;show#[a,c])
def aot{st:Addr}{a:bS}(W:qo C H x n g st i a)(e:bV (hU H) a j)(c:∀l∈a,l≠st/\l≠g):qo C (mask H a) x n g st i a:=by let#[d,b]:=W.ins;show#[#[d,nq b λz=>?_],nq W.goals λz=>(c g z).2 rfl,nq W.steps λz=>(c st z).1 rfl];let#[f,h]:=Ai e x z;rw[b]at h;cases h
def N9{b:hx×List Nat}(h:lH H a b)(e:bV (hU H) ls i):lH (mask H ls) a b:=by
 let#[c,d,f]:=h;show#[c,nq d λz=>?_,nq f λz=>?_]
 .let#[g,h]:=Ai e a z;rw[d]at h;cases h
 let#[g,h]:=Ai e c z;rw[f]at h;cases h
def ajo{H:ag}{a:bS}(c:aD H H')(d:∀l∈a,H l=jp):aD H (mask H' a):=(λb o e=>nq (c _ _ e) λz=>by rw[d b z]at e;cases e)
def ak4{H:ag}{a:bS}{p:Addr}(h:bV (hU H) a e)(g:H p=j3 (.lst xs))(k:p∉a):bV (hU (upd H p (.lst j))) a e:=by
 let all:∀{a:bS}{e:dF},bV (hU H) a e->p∉a->bV (hU (upd H p (.lst j))) a e:=λ{a e}q=>by
  induction q with
  |nil=>exactλ_=>.nil
  |cons r t i=>
   intro b;let#[l,c,f]:=r;show-.cons #[l,by rw[aR λz=>b (by rw[z];show-.head _)];show-c,f.upd g (by intro d z;cases z)] (i λz=>b (.tail _ z))
 show-all h k
def qo.upd{H:ag}{st:Addr}(W:qo C H x n g st e ls)(f:H p=j3 (.lst xs))(b:p≠g)(c:p≠st):qo C (aq.upd H p (.lst h)) x n g st e ls:=by let#[d,a]:=W.ins;show#[#[d,by rw[aR λz=>by rw[z,f]at a;cases a];show-a],by rw[aR (e5 b)];show-W.goals,by rw[aR (e5 c)];show-W.steps]
structure xM(C:Addr)(H cg:ag)(x n g st gl pl:Addr)(ay:bE)(ls as:bS)(sss:dF)(go:bB)(bs:pa):Prop where
 aF:aD H cg
 xA:qo C cg x n g st ay ls
 each:bV (hU cg) ls sss
 wK:cg gl=j3 (.lst (gM go))
 pI:gl∉ls
 Vo:gl≠pl
 DM:cg pl=j3 (.lst (aT as))
 yL:bV (lH cg) as bs
theorem xM.same{st:Addr}{a:pa}(h:xM C H j x n g st gl pl i ls as e go a)(s:aD j o):xM C H o x n g st gl pl i ls as e go a:=
 #[h.aF.trans s,h.xA.same s,NP h.each s,s _ _ h.wK,h.pI,h.Vo,s _ _ h.DM,bV.kv h.yL λ_ _ b=>b.same s]
def NR{a b:Type}{f:a->b}{l:List a}{i:Nat}{d:a}{e:b}(h:i<l.Z):(l.map f).getD i e=f (l.getD i d):=by rw[dB,cR,xh (d:=d) h];rfl
theorem ő{rt:Nat->List Nat}:∀a:List Nat,(∀n∈a,(rt n).Z<=12)->ip rt a<=12*a.Z
 |[],_=>b7 _
 |n::a,h=>by
  let b:=ő (rt:=rt) a λn c=>h n (.tail _ c);let d:=h n (.head _);unfold ip at b⊢;rw[e7,mx,ej]
  lia
def YJ{c:bb}{ds:b0}{kvs:eo}(R:∀d∈ds,d.Ok c.Z)(V:lg kvs ds.Z)(w:c.Z<=12){a:kl}(L:a.Z<=100)(p:∀d∈a,d.1∈c.map S/\d.2.2∈c.map S/\d.1≠d.2.2):
  ∃rt,qr c ds kvs (a.map λd=>d.2.2) (a.map kS) (qs c ds kvs a) rt/\ip rt (qs c ds kvs a)<=1300/\∀n,(rt n).Z<=c.Z:=by
 let f:∀n∈qs c ds kvs a,n<a.Z/\ue kvs c ds (a.getD n om)=q4:=λn b=>by let#[l,m]:=hH.mp b;show#[kF.mp l,m]
 let all:∀n,∃k:List Nat,k.Z<=c.Z/\(n∈qs c ds kvs a->me kvs c ds (a.getD n om).2.2 (a.getD n om).1 k):=λn=>by
  by_cases z:n∈qs c ds kvs a
  .let#[l,m]:=f n z;let#[k,K,N]:=agh R V w (p _ (getD_mem' l)).1 m;show#[k,N,λ_=>K]
  show#[[],eu _,λy=>bt y z]
 obtain⟨rt,g⟩:∃rt:Nat->List Nat,∀n,(rt n).Z<=c.Z/\(n∈qs c ds kvs a->me kvs c ds (a.getD n om).2.2 (a.getD n om).1 (rt n)):=#[λn=>Yx (all n),λn=>Ja (all n)]
 let t:∀n,n<a.Z->gE (a.map kS) n=#[(a.getD n om).2.1,jp,(a.getD n om).1,(a.getD n om).2.1]:=λn b=>by unfold gE;rw[NR (d:=om) b];rfl
 let A:∀n,n<a.Z->hA (a.map λd=>d.2.2) n=(a.getD n om).2.2:=λn b=>by unfold hA;rw[NR (d:=om) b]
 show#[rt,#[by rw[aM,aM],λn b=>by rw[aM];exact(f n b).1,(Δ).filter _,λj i=>?_,λn=>?_,λn b=>?_,λn b=>?_,λn b=>?_,λn b e=>?_],4]
 .let#[d,1]:=bQ.mp i;unfold kS;simp
 .let h:=(g n).1;have:((a.map kS).getD n []).Z<=1:=by
   by_cases z:n<a.Z
   .rw[NR (d:=om) z];show-b7 _
   rw[dB,PZ (by rw[aM];lia)];show-eu _
  lia
 .rw[t n (f n b).1];exact(p _ (getD_mem' (f n b).1)).1
 .rw[A n (f n b).1];exact(p _ (getD_mem' (f n b).1)).2.1
 .rw[t n (f n b).1,A n (f n b).1];exact(g n).2 b
 .let r:=(g n).2 b;exact(p _ (getD_mem' (f n b).1)).2.2 (r.nil_eq e)
 show#[4,λn=>(g n).1];let l:=ő (rt:=rt) (qs c ds kvs a) λn _=>dQ (g n).1 w;let m:(qs c ds kvs a).Z<=a.Z:=by unfold qs;show-dQ (yc _ _) (by rw[jg];show-b7 _)
 lia
inductive asp(C:Addr)(H:ag)(n e' y x g st pl:Addr)(ay:bE)(ls:bS)(hs:bb)(ds:b0)(kvs:eo)(bh:kl)(m:Nat)(aa:aq.St)(cg:ag):Prop where
 |mk(T:Int)(go:bB)(sss:dF)(rt:Nat->List Nat)(gl:Addr)(as:bS)(bs:pa)(nN:ji)(_:aa=[j3 (.ref n),j3 (.ref e'),j3 (.ref y),j3 (.ref x),j3 (.ref gl),j3 (.ref pl),j3 (.int T),nN])(_:xM C H cg x n g st gl pl ay ls as sss go bs)(_:qr hs ds kvs ay sss go rt)(_:ip rt go<=m)(_:bs++lM hs ds kvs ay m T go sss=ry hs ds kvs bh)(_:as.Z+m*100<=130000)(_:m<=1300)
inductive ap0(C:Addr)(H:ag)(n e' y x g st gl pl bo:Addr)(ay:bE)(ls as pb:bS)(sss:dF)(go:bB)(bs m1:pa)(hs:bb)(ds:b0)(eE:Int)(j:Nat)(aa:aq.St)(ho:ag):Prop where
 |mk(nN:ji)(_:aa=[j3 (.ref n),j3 (.ref e'),j3 (.ref y),j3 (.ref x),j3 (.ref gl),j3 (.ref pl),j3 (.int eE),nN])(_:xM C H ho x n g st gl pl ay ls (as++pb.take j) (pC hs ds (m1.take j) sss) go (bs++m1.take j))(_:ho bo=j3 (.lst (aT pb)))(_:bV (lH ho) pb m1)
inductive J6(C CW CN:Addr)(vs:aV)(H:ag)(Q:aX)(fq:bM):Prop where
 |mk(n e' y t bp bl:Addr)(hs:bb)(rs t9:bS)(ds:b0)(kvs:eo)(bh:kl)(_:vs=[.ref n,.ref e',.ref y])(_:H e'=j3 (.lst (aT t9)))(_:eG H t9 (bh.map q'))(_:t9.Z<=60)(_:mP CW CN H y n t bp bl (c1 hs) (aT rs) kvs)(_:Good hs)(_:gG H hs rs ds)(_:lg kvs ds.Z)(_:(∀d∈bh,d.1∈hs.map S/\d.2.2∈hs.map S/\d.1≠d.2.2))(_:∀(l:Addr)(H':ag)(as:bS),H l=jp->aD H H'->H' l=j3 (.lst (aT as))->bV (lH H') as (ry hs ds kvs bh)->Q (.ref l) H')
section
variable{P:cq}{w:bW}{K:aL}{mg:b5}{base:Heap}
abbrev BN:Stmt:=top 44
abbrev asq:List Str:=["net","letters","ways","walk","going","plan","turn","bag"]
def xI:cJ asq uQ (b_ BN):=({})
def aou{f:Addr}(F:cp K "run" "run" BN f fd)(B:fc mg)(cT:rf K C)(xi:mg "Walk"=j3 (.ref C))(Pw:o8 K C tM)(sh:nW K C "Walk.__init__" FF yk tM Gk)(WO:-aH a9 2 tM Gk yk (QH C))(CU:bU K mg "has_route" Nf Bt f1 cW)(ag4:-aH a9 4 f1 cW Bt (aaK CW CN))(ll:dn K C "last_turn" "Walk.last_turn" Ao eA f2 d8)(yT:-aH a9 1 f2 d8 eA (Iw C))(Dy:bU K mg "bags_at" Nc Fc cV iz)(aj8:-aH a9 5 cV iz Fc (Rl K C CW CN))(si:dn K C "send" "Walk.send" EY yo f4 u_)(WQ:-aH a9 2 f4 u_ yo (PG C CN))(oa:dn K C "home_turn" "Walk.home_turn" Ep eA fz Gi)(G7:-aH a9 2 fz Gi eA (Ow C)):
  -aH a9 6 f fd uQ (J6 C CW CN):=by
 let h8:=cT.cl;show-F.ok xI (λcdv A outer s H vs Q E ao h=>?_);let#[n,e',y,t,bp,bl,X,rs,t9,ds,kvs,bh,2,lB,ro,bX,p_,G,R,eJ,q3,q]:=h;show#[_,(a7 (cE 3 xI.aA (vr Pw WO ao.mono xo xi sh.bd .nil b9 (aj (ae 0) (aj (ae 1) aw))))
  (a7 (w3 (i:=4) xI.aA rfl rfl rfl (N':=["number","letter","ways"]) (cs:=[jp,jp,j3 2]) rfl (Ot rfl B.enumerate (aj (ae 1) aw)) rfl xL rfl xL (ia (gK.mpr #[2,(λp az=>bt az (dU))])) rfl
   (.own (.own (.mF rfl (.inl rfl) (.inl rfl) rfl .nil)))
   (λC s3 a5 bY da=>#[(It (K:=K) (n:=2) rfl rfl (iX (dV 0 (by show(["number","letter","ways"]:bE).Nodup;decide+kernel)) (iX (dV 1 (by show(["number","letter","ways"]:bE).Nodup;decide+kernel)) sM))),(Oq (kp (c2 ag4 CU ao.mono b9 (aj (ae 1) (aj (ae 2) aw))))),(ae 0)]))
  (a7 (cE 5 xI.aA (eY aw))
  (a7 (cE 6 xI.aA (AK Aa a8))
  (a7 (X3 kH (akt (ae 4) (λ_=>rfl))
   (a7 (cE 6 xI.aA (dp (ajJ rfl) B.max ap9 (aj (br h9 (ae 6) a8) (aj (dp (Y2 rfl) B.min ů (aj (mc (N':=Bu) (cs:=[jp,j3 3]) rfl (h7 (ae 4)) rfl xL rfl xL (ia (gK.mpr #[2,(λp az=>bt az (dU))])) rfl
   (.own (.mF rfl (.inl rfl) (.inl rfl) rfl .nil))
   (λC s3 a5 bY da=>#[(dV 0 (by show(Bu:bE).Nodup;decide+kernel)),jm,(gp (ae 1) h8 ll.eO yT ao.mono ll.bd .nil b9 (aj (ae 0) aw))])) aw)) aw))))
  (a7 (kq kH rfl (h7 (c2 aj8 Dy ao.mono b9 (aj (ae 0) (aj (ae 3) (aj (ae 4) (aj (ae 2) (aj (ae 6) aw))))))) (dV 7 xI.aA)
   (a7 (gL (gp (ae 3) h8 si.eO WQ ao.mono si.bd .nil b9 (aj (ae 7) aw)))
  (a_ (gL (i3 o' p7 p8 oo (ae 5) (aj (ae 7) aw))))))
  (a_ (w3 (i:=4) xI.aA rfl rfl rfl (N':=Bu) (cs:=[jp,j3 3]) rfl (h7 (ae 4)) rfl xL rfl xL (ia (gK.mpr #[2,(λp az=>bt az (dU))])) rfl
   (.own (.mF rfl (.inl rfl) (.inl rfl) rfl .nil))
   (λC s3 a5 bY da=>#[(dV 0 (by show(Bu:bE).Nodup;decide+kernel)),(Oq (fQ vy (gp (ae 1) h8 oa.eO G7 ao.mono oa.bd .nil b9 (aj (ae 0) aw)) iZ (eK _))),(ae 0)]))))))
  (a_ (cc (ae 5)))))))),4]
 show-cut λbZ bF=>?_;let awf:t9.Z=bh.Z:=by have:=ro.len;rwa [aM]at this
 obtain⟨u,Lc⟩:∃u,u=bh.map λd=>d.2.2:=#[1]
 let aDr:u.Z=bh.Z:=by rw[Lc,aM]
 let Mq:=eW t9;show#[5,λx al cX sU aA=>?_];let mk:∀{b:Addr}{v:hP},H b=j3 v->upd (upd H al (.own x)) x (.ins C al []) b=j3 v:=λ{b v}e=>by rwa[aR (dj e cX),aR (dj e sU)]
 show#[x,al,n,e',t9,bh,2,aQ,mk lB,ro.same (λb v e=>mk e),qI,λH1 g st Y c6 W Dp aEc w7 fr aDs=>#[2,4]];let s1:aD H H1:=YR cX sU c6;let ayA:∀{b:Addr},upd (upd H al (.own x)) x (.ins C al []) b=jp->H b=jp:=λ{b}e=>by
  cases aC:H b with
  |none=>rfl
  |some v=>rw[mk aC]at e;cases e
 let Lm:∀l∈Y,H l=jp:=λl au=>ayA (fr l au).1;let aui:∀l∈Y,l≠st/\l≠g:=λl au=>(fr l au).2;rw[<-Lc]at W;show-eL bZ bF λbZ bF=>?_;show-Ee ?_;refine aos (K:=K) (a:=e') (H1:=H1) (xs:=aT t9) (rest:=[j3 (.ref y)]) (λuX h=>#[1,e',2,#[_,aI.of (s1 _ _ lB)],h]) rfl (aI.of (s1 _ _ lB)) (el qI) (λi=>ue kvs X ds (bh.getD i om)) (λi=>.int (i:Int)) (λi v ah uX ev Z c4=>?_) (λi v ah uX ev _ Z c4=>#[1,c4 ah (aD.refl _)]) (λCr ah awO GP Z=>?_)
 .unfold aT at ev;rw[cR]at ev;let#[r,dH,2]:=e6.mp ev;let#[d',pf,tT]:=bV.get ro dH;rw[cR]at pf;let#[d,cG,2]:=e6.mp pf;let il:=s1.trans Z;let dz:=q3 d (dm cG);show#[5,r,y,n,t,bp,bl,X,rs,ds,kvs,d,2,il _ _ tT,p_.same il,G,R.same il,eJ,dz.1,dz.2.1,λa5 s3=>#[1,4]];have:=c4 a5 s3;rwa[kV cG]at this
 rw[Mq,awf]at GP;let GP:ah Cr=j3 (.lst (gM (qs X ds kvs bh))):=GP;show-eL bZ bF λbZ bF=>?_;show#[eu _,λpl w_=>?_];let s3:=bT (o:=.lst []) w_;let acU:upd ah pl (.lst []) pl=j3 (.lst []):=aQ;let Km:=W.same Z;let adO:=gH (s1.trans Z) w_;let aw2:pl≠g:=e5 (gP Km.goals w_);let aw3:pl≠st:=e5 (gP Km.steps w_);let adP:pl∉Y:=λz=>by let#[ts,h]:=Ai Km.each pl z;rw[w_]at h;cases h
 let awP:Cr∉Y:=λz=>by let#[ts,h]:=Ai W.each Cr z;rw[awO]at h;cases h
 let awQ:Cr≠pl:=gP GP w_;let acG:=s3 _ _ GP;let wo:=Km.same s3;let aed:=(s1.trans Z).trans s3;generalize upd ah pl (.lst [])=a5 at s3 acU acG wo aed⊢;let fV:=R.ok;let Lh:=G.bX;let J0:=YJ (kvs:=kvs) fV eJ Lh (show bh.Z<=100 by lia) q3;rw[<-Lc]at J0;let#[axD,J0,ays,_]:=J0;show-eL bZ bF λbZ bF=>?_;show#[1,4];show-eL bZ bF λbZ bF=>?_;let a0:xM C H a5 x n g st Cr pl u Y [] (bh.map kS) (qs X ds kvs bh) []:=#[aed,#[wo.ins,wo.goals,wo.steps],wo.each,acG,awP,awQ,acU,.nil]
 obtain⟨I,Sj⟩:∃I:Nat->aq.St->ag->Prop,I=asp C H n e' y x g st pl u Y X ds kvs bh:=#[1]
 show#[I,#[1300,by rw[Sj];show#[-1,6,axD,Cr,[],[],jp,2,a0,J0,ays,by rw[P5,Lc];rfl,b7 _,b7 _]],4];intro m aa cg Cs;rw[Sj]at Cs;let#[T,D,N,rt,gl,as,bs,nN,2,h2,O,aEE,Ub,aDU,aD0]:=Cs;let auv:D.Z<=60:=by
  have:=q1 (L:=dY u.Z) O.aA λk aN=>kF.mpr (O.lt k aN);rw[jg]at this
  lia
 let#[F3,Us]:=h2.xA.ins;let ok:=(O.za eJ).1;let b6:=(O.za eJ).2;show#[1,!(gM D).isEmpty,.inl #[_,aI.of h2.wK,2],4];by_cases bz:D=[]
 .subst bz;refine eM rfl (aq3 bZ bF #[1,q pl cg as adO h2.aF h2.DM ?_]);let cD:lM X ds kvs u m T [] N=[]:=by cases m<;>rfl
  rw[cD,lS]at Ub;rw[<-Ub];show-h2.yL
 obtain⟨U,Cd⟩:∃U,U=nextT T D N:=#[1]
 let less:=O.less (T:=U) fV eJ (by rw[Cd];show-OQ bz);obtain⟨m,rfl⟩:∃d9,m=d9+1:=#[m-1,9]
 show-d1 (by cases D with|nil=>exact bt rfl bz|cons _ _=>rfl) #[I m,λbx H' h=>#[m,9,h],4];let u1:=h2.xA.at_ h2.each;dsimp only[jQ,x5,pP,kT];show#[1,3,4];let aDX:(gM D).Z=D.Z:=aM _;refine zV (J:=kE K gl) (H1:=cg) (xs:=gM D) (rest:=[j3 (.ref x)]) (λuX h=>#[1,gl,2,#[_,aI.of h2.wK],h]) rfl (pB (aI.of h2.wK)) (el qI) (λv=>match v with|.int k=>.int (gN N k.X)|_=>.cf) (λi v ah uX ev Z c4=>?_) (λlQ dx aD2 ab5 b3=>?_)
 .let#[k,aN,2]:=bQ.mp (dm ev);let#[ss,axJ,nS,aE,aC,_]:=ok k aN;show#[1,x,F3,1,Z _ _ Us,7,x,n,g,st,u,Y,N,k,ss,axJ,2,u1.same Z,aE,4];rw[aC];have:=c4 ah (aD.refl _);rw[show(match V.int (k:Int)with|.int k=>V.int (gN N k.X)|_=>.cf)=V.int (gN N k) by show V.int (gN N (k:Int).toNat)=_;rw[jf]]at this;show-this
 let atA:(gM D).map (λv=>match v with|.int k=>V.int (gN N k.X)|_=>.cf)=(D.map (gN N)).map V.int:=by unfold gM;rw[ek,ek];rfl
 rw[atA]at ab5;show#[lQ,D.map (gN N),2,aI.of ab5,by simpa using bz,_,1,4];let atC:(if qp (D.map (gN N))>T+1 then qp (D.map (gN N))else T+1)=U:=by rw[Cd];unfold nextT;split<;>lia
 rw[atC];let AM:=h2.same b3;show-ŷ ?_;show#[5,5,1,x,n,g,st,gl,y,t,bp,bl,u,Y,rs,N,X,ds,kvs,D,gN N,e_ kvs u N,U,2,u1.same b3,aI.of AM.wK,p_.same AM.aF,R.same AM.aF,G,auv,O.aA,ok,b6,λbo bH pb eH Dn c5 wM K1 Ag adu=>#[bo,2,#[_,aI.of wM],4]];obtain rfl:=ak3 b6 Ag adu;obtain⟨m1,F5⟩:∃m1,m1=nC ds kvs u U D N:=#[1]
 let K1:bV (lH bH) pb m1:=by rw[F5];show-K1
 let OG:=AM.same c5;let awG:bo∉Y:=λz=>by let#[ts,h]:=Ai AM.each bo z;rw[Dn]at h;cases h
 let awF:bo≠pl:=e5 (gP AM.DM Dn);let ado:=lU K1;let aze:m1.Z<=100:=by
  rw[F5];unfold nC xH;rw[aM];let aA:(sQ ds.length (gN N) (e_ kvs u N) U D).Nodup:=(P8.filter _).imp λh=>e8 h;have:=q1 (L:=D.map (e_ kvs u N)) aA λr ao=>by let ai:=(adu r).mp ao;let#[c,av]:=E3 _ ai;unfold fT at av;let#[k,aN,_]:=bQ.mp av;let#[a6,b8]:=hH.mp aN;simp only[hN,decide_eq_true_eq]at b8;show-bQ.mpr #[k,a6,b8.2]
  rw[aM]at this
  lia
 refine q6 (xs:=aT pb) (ap0 C H n e' y x g st gl pl bo u Y as pb N D bs m1 X ds U)
  #[nN,2,by simpa[pC]using OG,wM,K1] (λj aa ho _⟨_,_,_,h,_⟩=>aI.of h) ?_ ?_
 .rintro j z aa ho fy ⟨nN,rfl,M,acm,R1⟩;unfold aT at fy;rw[cR]at fy;let#[hT,abx,2]:=e6.mp fy;let#[b,dW,af]:=bV.get R1 abx;let ate:=dm dW;let R4:=ate;rw[F5]at R4;unfold nC xH at R4;let#[r,ao,oN]:=bQ.mp R4;let axB:r<ds.Z:=by unfold sQ at ao;show-kF.mp (hH.mp ao).1
  let#[F3,Ut]:=M.xA.ins;let Wq:=ajo M.aF Lm;let X9:=aot M.xA M.each aui;show#[1,x,F3,1,Ut,7,mask ho Y,x,n,g,st,bp,bl,hT,u,Y,rs,_,X,ds,b,2,Xw ho Y,X9,M.each,w7,(λl au=>Ox au),p_.g7.same Wq,R.same Wq,N9 af M.each,4,4,4,4,λje fM atD=>?_]
  .rwa[<-oN]
  .rw[<-oN];show-ō O.aA r
  .intro i hi;rw[<-oN]at hi;rw[N8,O.len];show-O.lt i (ub hi).1
  .intro ss lD;let#[i,hi]:=nY lD;rw[OM]at hi;let#[Wt,cD,2]:=e6.mp hi;let f:=O.bX i;rw[show N.getD i []=Wt by rw[dB,cD];rfl]at f;let eg:((m1.take j).filter λb=>decide (i∈b.2)).Z<=(m1.filter λb=>decide (i∈b.2)).Z:=((Fa j m1).filter _).length_le;let eC:(m1.filter λb=>decide (i∈b.2)).Z<=1:=by
    rw[F5];unfold nC;rw[Ps b6 i];split
    .exact b7 _
    show-eu _
   rw[c0,aM]
   lia
  let zm:=fM _ _ (nq M.DM adP);let aDY:=lU M.yL;let aym:(as++pb.take j).Z<=200000:=by rw[c0];show-dQ (ais (Bj _ _) _) qI
  show#[1,.inl #[2,_,aI.of zm],1,pl,3,zm,(by rw[eW];show-p6 aym x8),1,4,4,4]
  .let t1:pb.take (j+1)=pb.take j++[hT]:=by rw[p5,abx];rfl
   let dT:m1.take (j+1)=m1.take j++[b]:=by rw[p5,dW];rfl
   rw[t1,dT,ajn,<-jB,<-jB];show#[hq adO (Wq.trans fM),(X9.same fM).upd zm aw2 aw3,ak4 atD zm adP,4,M.pI,M.Vo,by rw[aQ,tY],4]
   .rw[aR M.Vo];show-fM _ _ (nq M.wK M.pI)
   show-Paired.snoc (((N9 af M.each).same fM).upd zm) (bV.kv M.yL λa b h=>((N9 h M.each).same fM).upd zm)
  .rw[aR awF];show-fM _ _ (nq acm awG)
  show-bV.kv R1 λa b h=>((N9 h M.each).same fM).upd zm
 rintro aa ho ⟨nN,rfl,M,acm,R1⟩;rw[eW,ado,n1,show pb.take m1.Z=pb by rw[<-ado,n1],F5]at M;let M:xM C H ho x n g st gl pl u Y (as++pb) (gO X ds kvs u U D N) D (bs++nC ds kvs u U D N):=M;let yy:=O.step (T:=U) fV eJ;let#[F3,Ut]:=M.xA.ins;let rX:=M.xA.at_ M.each;dsimp only;refine anV (J:=kE K gl) (H1:=ho) (xs:=gM D) (rest:=[j3 (.ref x)]) (λuX h=>#[1,gl,2,#[_,aI.of M.wK],h]) rfl (pB (aI.of M.wK)) (el qI) (λv=>match v with|.int k=>decide ((gE (gO X ds kvs u U D N) k.X).gC≠hA u k.X)|_=>q9) id (λi v ah uX ev Z c4=>?_) (λi v ah uX ev _ Z c4=>#[1,c4 ah (aD.refl _)]) (λabW dx adG acF axL=>?_)
 .let#[k,aN,2]:=bQ.mp (dm ev);let lk:k<u.Z:=O.lt k aN;let aE:(gO X ds kvs u U D N)[k]?=j3 ((gO X ds kvs u U D N).getD k []):=xh (by rwa[yy.len]);let#[adf,gW]:=M7 (yy.ne _ (dm aE));show#[1,x,F3,1,Z _ _ Ut,7,x,n,g,st,u,Y,_,k,adf,gE (gO X ds kvs u U D N) k,hA u k,2,rX.same Z,4,xh lk,7,4]
  .rw[aE];congr 1
  let aC:decide (um (gE (gO X ds kvs u U D N) k) (hA u k)=V.cf)=decide ((gE (gO X ds kvs u U D N) k).gC≠hA u k):=by
   unfold um;by_cases z:(gE (gO X ds kvs u U D N) k).gC=hA u k
   .rw[a' z];simp[z]
   rw[a4 z];simp[z]
  rw[aC];have:=c4 ah (aD.refl _);rw[show(match V.int (k:Int)with|.int k=>decide ((gE (gO X ds kvs u U D N) k.X).gC≠hA u k.X)|_=>q9)=decide ((gE (gO X ds kvs u U D N) k).gC≠hA u k) by show decide ((gE (gO X ds kvs u U D N) (k:Int).toNat).gC≠hA u (k:Int).toNat)=_;rw[jf]]at this;show-this
 let Sn:((gM D).filter λv=>match v with|.int k=>decide ((gE (gO X ds kvs u U D N) k.X).gC≠hA u k.X)|_=>q9).map id=gM (tP u D (gO X ds kvs u U D N)):=by unfold gM tP;rw[uN,E5];rfl
 rw[Sn]at acF;rw[Sj];let EA:=M.same axL;show#[U,6,_,abW,as++pb,_,nN,2,#[EA.aF,EA.xA,EA.each,acF,λz=>?_,e5 (gP M.DM adG),EA.DM,EA.yL],yy,9,4,4,9]
 .let#[ts,h]:=Ai M.each abW z;rw[adG]at h;cases h
 .rw[<-Ub,jB];congr 1;show _=(if D=[]then[]else _);rw[a4 bz,<-Cd]
 rw[c0]
 lia
end
section
variable{hs:bb}{ds:b0}{kvs:eo}{ay:bE}{sss:dF}{go:bB}{rt:Nat->List Nat}{T:Int}
def ahz{st:Step}{a:bB}{n:Nat}(h:n∉a):gE (lG st a sss) n=gE sss n:=by
 unfold gE;rw[dB,t2,dB];cases sss[n]? with
 |none=>rfl
 |some ss=>simp[h]
def Jy(hs:bb)(ds:b0)(kvs:eo):Prop:=∀h g k,oM kvs h g=j3 k->rA hs ds k=h
theorem me.uniq:∀{a b:bB},me kvs hs ds g h a->me kvs hs ds g h b->a=b
 |[],_,e,i=>by
  cases e;cases i with
  |CB=>rfl
  |on ne _ _ _=>exact bt rfl ne
 |k::a,b,e,i=>by
  let#[m,n,c,l,f,_,d]:=e.way xg;cases c;cases i with
  |CB=>exact bt rfl l
  |on _ j _ o=>
   rw[f]at j;cases j;rw[d.uniq o]
def gone(P:pa)(n:Nat):List Nat:=(P.filter λb=>decide (n∈b.2)).map λb=>b.1.2
def aj9(a:∀k∈go,e_ kvs ay sss k<ds.Z)(n:Nat):gone (nC ds kvs ay T go sss) n=if mf ds kvs ay T go sss n=q4 then[e_ kvs ay sss n]else[]:=by unfold gone nC;rw[Ps a n];show v9 _ (if mf ds kvs ay T go sss n=q4 then _ else _)=_;cases mf ds kvs ay T go sss n<;>rfl
def ak5(P a:pa)(n:Nat):gone (P++a) n=gone P n++gone a n:=by unfold gone;rw[v7,eb]
theorem Z4(R:∀d∈ds,d.Ok hs.Z)(g:lg kvs ds.Z):∀(m:Nat)(T:Int)(go:bB)(sss:dF)(rt:Nat->List Nat),qr hs ds kvs ay sss go rt->ip rt go<=m->∀n,gone (lM hs ds kvs ay m T go sss) n=if n∈go then rt n else[]
 |0,T,go,sss,rt,O,e,n=>by
  let f:go=[]:=by
   cases go with
   |nil=>rfl
   |cons k go=>
    have:=p3.mpr (O.on k (.head _));unfold ip at e;rw[e7,mx]at e
    lia
  rw[f,a4 dU];rfl
 |m+1,T,go,sss,rt,O,e,n=>by
  unfold lM;by_cases f:go=[]
  .rw[a' f,f,a4 dU];rfl
  rw[a4 f,ak5];let r:=(O.za g).2;obtain⟨a,l⟩:∃a,a=nextT T go sss:=#[1]
  let less:=O.less (T:=a) R g (by rw[l];show-OQ f);rw[<-l,aj9 r n,Z4 R g m a _ _ _ (O.step R g) qI n];by_cases c:n∈go
  .rw[a' c];let V:n<sss.Z:=by rw[O.len];show-O.lt n c
   let#[k,N,p,h,K,L,A]:=(O.way n c).way (O.on n c);let t:e_ kvs ay sss n=k:=by unfold e_;rw[K];rfl
   let b:n∈tP ay go (gO hs ds kvs ay a go sss)↔(gE (gO hs ds kvs ay a go sss) n).gC≠hA ay n:=by unfold tP;rw[hH,decide_eq_true_iff];show#[λz=>z.2,λz=>#[c,z]]
   rw[NQ r V]at b;by_cases z:mf ds kvs ay a go sss n=q4
   .rw[a' z];rw[a' z]at b;let b:n∈tP ay go (gO hs ds kvs ay a go sss)↔ru hs ds (e_ kvs ay sss n)≠hA ay n:=b;rw[t,õ L]at b;rw[t,p];show[k]++_=[k]++N;congr 1;by_cases y:jS hs ds k=hA ay n
    .rw[a4 λw=>(b.mp w) y];rw[y]at A;exact(A.uniq .CB).symm
    rw[a' (b.mpr y)];unfold uf;rw[a' z,p];rfl
   rw[a4 z];rw[a4 z]at b;rw[a' (b.mpr h),P5];unfold uf;rw[a4 z]
  rw[a4 c,a4 (show¬n∈tP ay go (gO hs ds kvs ay a go sss) fromλw=>c (hH.mp w).1),a4 λz=>c (Pu z).1];rfl
end
section
variable{P:cq}{w:bW}{K:aL}{mg:b5}{base:Heap}
def x'(s:Step)(y h:Str)(t:Int):Bool:=decide (s.gC≠y)&&(decide (s.gC=h)&&decide (s.due<=t))
inductive ŝ(C:Addr)(vs:aV)(H:ag)(Q:aX)(fq:bM):Prop where
 |mk(x n g st:Addr)(ay:bE)(ls:bS)(sss:dF)(k:Nat)(ss:List Step)(s:Step)(y h:Str)(t:Int)(_:vs=[.ref x,.int k,.str h,.int t])(_:WalkAt C H x n g st ay ls sss)(_:sss[k]?=j3 (ss++[s]))(_:ay[k]?=j3 y)(_:Q (.bo (x' s y h t)) H)
abbrev J7:Stmt:=ij (top 34) 7
def aov:cJ Bn Bn (b_ J7):=({})
def amT{f:Addr}(F:cp K "can_leave" "Walk.can_leave" J7 f fd)(I:rf K C)(B:dn K C "last_house" "Walk.last_house" Eo eA f1 J)(G:-aH a9 1 f1 J eA (Ov C))(o:dn K C "last_turn" "Walk.last_turn" Ao eA f2 M)(U:-aH a9 1 f2 M eA (Iw C))(u:dn K C "home_turn" "Walk.home_turn" Ep eA cV T)(D:-aH a9 2 cV T eA (Ow C)):-aH a9 3 f fd Bn (ŝ C):=by
 let N:=I.cl;show-F.ok aov (λ_ A _ s H X Q E m h=>?_);let#[x,n,g,st,r,i,b,k,j,a,y,R,t,2,W,L,O,q]:=h;let#[l,p]:=W.ins;show#[_,(a_ (cc (jn (l7 vy (gp (ae 0) N u.eO D m.mono u.bd .nil b9 (aj (ae 1) aw)) iZ (eK _)) (jn (l7 nB (gp (ae 0) N B.eO G m.mono B.bd .nil b9 (aj (ae 1) aw)) (ae 2) (eK _)) (oF (l7 qu (gp (ae 0) N o.eO U m.mono o.bd .nil b9 (aj (ae 1) aw)) (ae 3) (eK _))))))),4];show#[1,x,l,1,p,7,x,n,g,st,r,i,b,k,j,a,y,2,W,L,O,7,4];unfold x' at q;by_cases c:a.gC=y
 .let e:decide (um a y=aq.V.cf)=q9:=by unfold um;rw[a' c];show-c9 (by intro z;cases z)
  rw[c9 (λz=>z c),EM]at q;show-eM e q
 let e:decide (um a y=aq.V.cf)=q4:=by unfold um;rw[a4 c];exact cw rfl
 rw[cw c,vO]at q;show-d1 e #[1,x,l,1,p,7,x,n,g,st,r,i,b,k,j,a,2,W,L,1,7,4];by_cases d:a.gC=R
 .rw[cw d,vO]at q;show-d1 (cw (fe V.str d)) #[1,x,l,1,p,7,x,n,g,st,r,i,b,k,j,a,2,W,L,1,3,q]
 rw[c9 d,EM]at q;show-eM (c9 λz=>d (V.str.inj z)) q
abbrev Jz:Stmt:=top 35
def amU:cJ iQ iQ (b_ Jz):=({})
abbrev Kx:Stmt:=top 36
def J2:cJ ["numbers","bound","ahead","number"] Fh (b_ Kx):=({})
def Ÿ:Option hx->hx->Prop
 |none,_=>True
 |some a,k=>a.1<k.1\/(a.1=k.1/\a.2<k.2)
structure QY(hs:bb)(ds:b0)(ay:bE)(sss:dF)(d0:Option hx)(b:hx×List Nat):Prop where
 ne:b.2≠[]
 bX:b.2.Z<=100
 ord:Ÿ d0 b.1
 rd:b.1.2<ds.Z
 room:(b.2.Z:Int)<=kX ds b.1.2
 M9:b.2.Pairwise (· < ·)
 lt:∀i∈b.2,i<sss.Z
 wy:∀i∈b.2,∃ss s y,sss[i]?=j3 (ss++[s])/\ay[i]?=j3 y/\x' s y (rA hs ds b.1.2) b.1.1=q4
abbrev Ky:Stmt:=top 37
def QZ:cJ ["walk","net","letters","ahead","thing","roads","road"] Fb (b_ Ky):=({})
inductive rY(hs:bb)(ds:b0)(ay:bE):List (List Step)->Option hx->List (hx×List Nat)->List (List Step)->Prop
 |nil{sss d0}:rY hs ds ay sss d0 [] sss
 |cons{sss d0 b bs fin}(_:QY hs ds ay sss d0 b)(_:rY hs ds ay (lG (stepK hs ds b.1) b.2 sss) (j3 b.1) bs fin):rY hs ds ay sss d0 (b::bs) fin
abbrev J3:Stmt:=top 38
def Aj:cJ ["net","letters","plan","walk","ahead","place","thing","reason"] m4 (b_ J3):=({})
def ql:PyData->Bool
 |.tuple [a,b,.tuple ns]=>mH a&&(mH b&&(decide (0<ns.Z)&&ns.all mH))
 |_=>q9
def uJ(t r:Int)(a:gz):PyData:=.tuple [.int t,.int r,.tuple (a.map wd)]
def intD:PyData->Int
 |.int i=>i
 |_=>0
def gi:PyData->Int×Int×List Int
 |.tuple [a,b,.tuple ns]=>(intD a,intD b,ns.map intD)
 |_=>(0,0,[])
def XA{d:PyData}(h:mH d=q4):d=.int (intD d):=by cases d<;>first|rfl|cases h
theorem Yf:∀{ds:gy},ds.all mH=q4->ds=(ds.map intD).map wd
 |[],_=>rfl
 |d::ds,h=>by rw[ξ,hN]at h;rw[e7,e7,<-XA h.1,<-Yf h.2]
def YK{d:PyData}(h:ql d=q4):d=uJ (gi d).1 (gi d).2.1 (gi d).2.2/\(gi d).2.2≠[]:=by
 unfold ql at h;split at h
 .rename_i a b c;simp only[hN,decide_eq_true_eq]at h;let#[g,k,f,l]:=h;show#[4,λz=>?_]
  .show PyData.tuple [a,b,.tuple c]=.tuple [.int (intD a),.int (intD b),.tuple ((c.map intD).map wd)];rw[<-XA g,<-XA k,<-Yf l]
  let z:c.map intD=[]:=z;rw[Bk]at z;rw[z]at f;show-bt f xg
 cases h
def ß(t r:Int)(a:gz):gi (uJ t r a)=(t,r,a):=by show(t,r,(a.map wd).map intD)=_;rw[ek];have:(intD∘wd)=id:=funext λi=>rfl;rw[this,uN]
def akb{t r:Int}(h:ns≠[]):ql (uJ t r ns)=q4:=by show(q4&&(q4&&(decide (0<(ns.map wd).Z)&&(ns.map wd).all mH)))=q4;rw[cw (by rw[aM];show-p3.mpr h),vO,vO,vO,PS,tv];intro i _;rfl
def amV{ds:gy}(h:ds.Z≠3):ql (.tuple ds)=q9:=by
 rcases ds with _|⟨a,_|⟨b,_|⟨c,_|⟨e,r⟩⟩⟩⟩
 .rfl
 .rfl
 .rfl
 .exact bt rfl h
 cases c<;>rfl
def amW{a b c:PyData}(h:isTup c=q9):ql (.tuple [a,b,c])=q9:=by cases c<;>first|rfl|cases h
theorem Z5{H:ag}:∀{d:aV}{c:gz},gn H d (c.map wd)->d=c.map V.int
 |[],[],_=>rfl
 |_::_,[],h=>nomatch h
 |[],_::_,h=>nomatch h
 |v::d,n::c,h=>by
  cases h with
  |cons a b=>
   cases a;rw[e7,Z5 b]
end
def Ş{H:ag}{t r:Int}{d:gz}(h:cO H v (uJ t r d)):∃a c,v=.ref a/\H a=j3 (.tup [.int t,.int r,.ref c])/\H c=j3 (.tup (d.map V.int))/\d.Z<=100:=by let#[a,N,ds,2,e,f,_,p]:=Jj h rfl;cases e;let#[A,K,L,2,m,n,k]:=Rm p;let#[c,i,w,2,e,g,b,l]:=Jj k rfl;cases e;rw[Jm m,Jm n]at f;rw[Z5 l]at g b;rw[aM]at b;show#[a,c,2,f,g,b]
def BU(a:Option (Int×Int))(t r:Int):Bool:=match a with
 |none=>q9
 |some k=>if t=k.1 then decide (r<=k.2)else decide (t<=k.1)
def oV(m:Int):Int->List Int->Bool
 |_,[]=>q4
 |a,n::r=>if a<n/\n<m then oV m n r else q9
def pU(c:bb)(ds:b0)(b:bE)(a:dF)(t r:Int)(n:Int):Bool:=x' (zz a n.X) (b.getD n.toNat n7) (rA c ds r.X) t
where zz (a:dF) (n:Nat):Step:=(a.getD n []).getLastD #[0,jp,n7,0]
def ş:Str:=cU "order"
def aow:Str:=cU "road"
def Ź:Str:=cU "room"
def à:Str:=cU "letter"
def Š:Str:=cU "there"
def ap1:Str:=cU "bag"
def FP(f:bb)(ds:b0)(c:bE)(a:dF)(d:Option (Int×Int))(b:Int×Int×List Int):Option Str:=
 if BU d b.1 b.2.1=q4 then j3 ş
 else if¬(0<=b.2.1/\b.2.1<ds.Z)then j3 aow
 else if kX ds b.2.1.toNat < b.2.2.Z then j3 Ź
 else if oV a.length (-1) b.2.2=q9 then j3 à
 else if b.2.2.all (pU f ds c a b.1 b.2.1)=q9 then j3 Š
 else jp
def rz(f:bb)(ds:b0)(b:bE)(a:dF)(c:Option (Int×Int))(d:PyData):Option Str:=if ql d=q4 then FP f ds b a c (gi d)else j3 ap1
def aaL:Option Str->aq.V
 |none=>.cf
 |some e=>.str e
theorem Px{m:Int}:∀{d:gz}{a:Int},oV m a d=q4->d.Pairwise (· < ·)/\∀n∈d,a<n/\n<m
 |[],_,_=>#[.nil,λn h=>nomatch h]
 |n::r,a,h=>by
  unfold oV at h;split at h
  .rename_i c;let#[g,f]:=Px h;show#[P6.mpr #[λx b=>(f x b).1,g],λx b=>?_];rcases et.mp b with rfl|b
   .exact c
   have:=f x b;show#[9,this.2]
  cases h
structure aiN(hs:bb)(ds:b0)(ay:bE)(sss:dF)(d0:Option (Int×Int))(d:PyData)(t:Int)(r:Nat)(ns:bB):Prop where
 d:d=uJ t r (ns.map λn:Nat=>(n:Int))
 ne:ns≠[]
 rd:r<ds.Z
 M9:ns.Pairwise (· < ·)
 lt:∀i∈ns,i<sss.Z
def alA{k:Option (Int×Int)}{d:PyData}(h:rz hs ds o j k d=jp):aiN hs ds o j k d (gi d).1 (gi d).2.1.toNat ((gi d).2.2.map tu):=by
 unfold rz at h;split at h
 .rename_i p;let#[e,w]:=YK p;unfold FP at h;split at h
  .cases h
  split at h
  .cases h
  rename_i f;split at h
  .cases h
  split at h
  .cases h
  rename_i g;let g:oV j.length (-1) (gi d).2.2=q4:=by
   cases z:oV j.length (-1) (gi d).2.2 with
   |true=>rfl
   |false=>show-bt z g
  let#[m,a]:=Px g;let f:0<=(gi d).2.1/\(gi d).2.1<ds.Z:=Decidable.not_not.mp f;let c:((gi d).2.2.map tu).map (λn:Nat=>(n:Int))=(gi d).2.2:=by
   rw[ek];refine(rP λx b=>?_).trans (uN _);have:=(a x b).1;show((x.X:Nat):Int)=x
   lia
  show#[4,λz=>w (Bk.mp z),9,4,λi t=>?_]
  .rwa[c,la f.1]
  .rw[yd];show-ahA (λ{x y}b r l=>?_) m;let A:=(a x b).1;let K:=(a y r).1
   lia
  let#[x,b,2]:=bQ.mp t;have:=a x b
  lia
 cases h
section
variable{P:cq}{w:bW}{K:aL}{mg:b5}{base:Heap}
inductive š(vs:aV)(H:ag)(Q:aX)(fq:bM):Prop where
 |mk(v:aq.V)(d:PyData)(_:vs=[v])(_:cO H v d)(_:∀H',aD H H'->Q (.bo (ql d)) H')
def all_map{a:Type}(p:a->Bool)(l:List a):(l.map p).all id=l.all p:=by rw[PS];rfl
seal fN bq f3 gm
def amX{f:Addr}(F:cp K "is_bag" "is_bag" Jz f fd)(B:fc mg)(x:bU K mg "is_whole" Am iQ f1 cW)(M:-aH a9 1 f1 cW iQ OH)(qb:bU K mg "is_tuple_of" An rR f2 d8)(y7:-aH a9 1 f2 d8 rR OI):-aH a9 2 f fd iQ š:=by
 show-F.ok amU (λcdv A y s H vs Q E t h=>?_);let#[v,d,2,Y,q]:=h;show#[_,(a_ (cc (jn (c2 y7 qb t.mono b9 (aj (ae 0) (aj a8 aw))) (jn (c2 M x t.mono b9 (aj (cn ey (ae 0) a8) aw)) (jn (c2 M x t.mono b9 (aj (cn ey (ae 0) a8) aw)) (jn (dp sG B.isinstance jj (aj (cn ey (ae 0) a8) (aj (q_ xo B.tuple DV) aw))) (jn (l7 AY (dp hI B.len g_ (aj (cn ey (ae 0) a8) aw)) a8 (eK _)) (oF (dp (DR rfl) B.B5 Et (aj (mc (N':=o7) (cs:=[jp]) rfl (IV (cn ey (ae 0) a8)) rfl xL rfl xL (ia (λp az=>bt az (dU))) rfl
   (.own .nil)
   (λC s3 a5 bY da=>#[(dV 0 (by show(o7:bE).Nodup;decide+kernel)),jm,(c2 M x t.mono b9 (aj (ae 0) aw))])) aw)))))))))),4]
 let L:ql d=q9->Q (.bo q9) H:=λz=>z▸q H (aD.refl _);show#[1,v,d,(3),2,Y,1,BP (λr=>?_) λr=>L (ç (λ_=>amV) (λd _=>by cases d<;>first|rfl|contradiction) r)];let#[a,v0,v1,v2,e1,l,b,2,2,aB,t0,t1,Z]:=æ Y (KB r).1 (KB r).2;let m:=cj.of (K:=K) aB;let N:isTup b=q4->ql (.tuple [e1,l,b])=(mH e1&&(mH l&&match b with|.tuple ns=>decide (0<ns.Z)&&ns.all mH|_=>q9)):=λz=>by cases b<;>first|rfl|cases z
 let V:isTup b=q9->ql (.tuple [e1,l,b])=q9:=λz=>amW z;let u:mH e1=q9->ql (.tuple [e1,l,b])=q9:=λz=>by
  cases j:isTup b with
  |false=>show-V j
  |true=>rw[N j,z];rfl
 let I:mH l=q9->ql (.tuple [e1,l,b])=q9:=λz=>by
  cases j:isTup b with
  |false=>show-V j
  |true=>rw[N j,z,EM,afA]
 show#[1,a,_,3,m,2,v0,e1,2,t0,1,BP (λAq=>?_) λz=>L (u z)];show#[1,a,_,3,m,2,v1,l,2,t1,1,BP (λea=>?_) λz=>L (I z)];show#[1,a,_,3,m,2,6,6,1,#[2,Z.ty,A0 K (ZA b)],1,BP (λtt=>?_) λz=>L (V z)];rw[N tt,Aq,ea,vO,vO]at q;let#[c,O,g,2,2,X,OC,nI]:=Jj Z tt;let G:=cj.of (K:=K) X;let q:∀H',aD H H'->Q (.bo (decide (0<g.Z)&&g.all mH)) H':=q;let ib:=nI.len;show#[1,a,_,3,m,2,c,1,.inr G,3,1,4];by_cases n:0<g.Z
 .rw[cw n,vO]at q;show-d1 (cw qI) ?_;dsimp only[pP,kT];refine vu (J:=xY K c) (H1:=H) (xs:=O) (rest:=[]) (λR h=>#[1,a,_,3,m,2,c,2,#[_,G],h]) rfl (PM G λH' o=>cj.of (o _ _ X)) (el qI) (λi=>.bo (mH (g.getD i .none))) (λi v T R ev o k=>?_) (λD T hL bR ju=>?_)
  .let#[e,yY,he]:=nI.get ev;have:=k T (aD.refl _);rw[kV yY]at this;show#[1,v,e,2,he.same o,this]
  show#[D,(dY O.Z).map (λi=>mH (g.getD i .none)),2,aI.of (by rw[bR,ek];rfl),4];let aC:(dY O.Z).map (λi=>mH (g.getD i PyData.none))=g.map mH:=by rw[ib];show-x_ xg λi ai U=>?_;rw[aM]at U;rw[rM,Bi,rM,kV (cQ U)]
  rw[aC,all_map];show-q _ ju
 rw[c9 n,EM]at q;show-eM (c9 qI) (q H (aD.refl _))
inductive ź(vs:aV)(H:ag)(Q:aX)(fq:bM):Prop where
 |mk(c:Addr)(ns:gz)(m:Int)(_:vs=[.ref c,.int m])(_:H c=j3 (.tup (ns.map V.int)))(_:Q (.bo (oV m (-1) ns)) H)
inductive asr(c:Addr)(m:Int)(ns:gz)(H:ag)(j:Nat)(aa:aq.St)(cY:ag):Prop where
 |mk(d0:Int)(v:ji)(_:aa=[j3 (.ref c),j3 (.int m),j3 (.int d0),v])(_:cY=H)(_:oV m (-1) ns=oV m d0 (ns.drop j))
def aox{f:Addr}(F:cp K "are_rising_below" "are_rising_below" Kx f fd):-aH a9 1 f fd Fh ź:=by
 show-F.ok J2 (λu A r s H B Q E y h=>?_);let#[c,d,m,2,L,q]:=h;show#[_,(a7 (cE 2 J2.aA (AK Aa a8))
  (a7 (kq kH rfl (IV (ae 0)) (dV 3 J2.aA)
   (a7 (er (j2 (DQ xD xD (ae 2) (ae 3) (ae 1))) (a_ (cc i2)) eB)
  (a_ (cE 2 J2.aA (ae 3)))))
  (a_ (cc i2)))),4]
 show#[5,c,2,#[_,cj.of L],4];show-Χ (K:=K) (a:=c) (xs:=d.map V.int) (asr c m d H) #[-1,jp,2,2,2] (λj t e _⟨_,_,_,h,_⟩=>h▸cj.of L) ?_ ?_
 .rintro j z t e i ⟨l,v,rfl,rfl,b⟩;rw[cR]at i;let#[n,p,2]:=e6.mp i;let N:=(fU.mp p).1;let o:d[j]=n:=by rw[cQ N]at p;show-gk p
  let x:d.drop j=n::d.drop (j+1):=by rw[PV N,o]
  rw[x]at b;let b:oV m (-1) d=if l<n/\n<m then oV m n (d.drop (j+1))else q9:=b
  show#[5,3,1,4];by_cases g:l<n
  .refine d1 (cw g) #[1,3,1,4];by_cases k:n<m
   .refine AQ k ?_;rw[a' #[g,k]]at b;show#[1,n,j3 (.int n),2,2,b]
   rw[a4 (λz=>k z.2)]at b;rw[b]at q;show-d1 (by rw[c9 k];rfl) q
  rw[a4 (λz=>g z.1)]at b;rw[b]at q;show-eM (c9 g) #[1,jr q]
 rintro t e ⟨l,v,rfl,rfl,b⟩;rw[aM,ahI]at b;rwa[b]at q
unseal fN bq f3 gm
def AN(H:ag)(v:aq.V):Option (Int×Int)->Prop
 |none=>v=.cf
 |some k=>∃a c,v=.ref a/\H a=j3 (.tup [.int k.1,.int k.2,c])
theorem AN.same(b:aD H H'):∀{o:Option (Int×Int)},AN H v o->AN H' v o
 |none,h=>h
 |some _,⟨a,c,e,h⟩=>#[a,c,e,b _ _ h]
def alB{a:dF}{n:Nat}{b:List Step}(e:a[n]?=j3 b)(c:b≠[]):∃pre,a[n]?=j3 (pre++[pU.zz a n]):=by
 rcases ahK b with z|⟨pre,s,z⟩
 .exact bt z c
 rw[ahD]at z;show#[pre,4];have:pU.zz a n=s:=by unfold pU.zz;rw[kV e,z];simp
 rw[this,e,z]
inductive Ż(C CN:Addr)(vs:aV)(H:ag)(Q:aX)(fq:bM):Prop where
 |mk(x n g st bp bl e':Addr)(ay:bE)(ls rs:bS)(sss:dF)(hs:bb)(ds:b0)(v nO:aq.V)(d:PyData)(d0:Option (Int×Int))(ts:aV)(_:vs=[.ref x,.ref n,.ref e',nO,v])(_:WalkAt C H x n g st ay ls sss)(_:iC CN H n bp bl (c1 hs) (aT rs))(_:gG H hs rs ds)(_:rs.Z<=40)(_:cO H v d)(_:AN H nO d0)(_:H e'=j3 (.lst ts))(_:ts.Z=sss.Z)(_:ay.Z=sss.Z)(_:∀ss∈sss,ss≠[])(_:∀H',aD H H'->Q (aaL (rz hs ds ay sss d0 d)) H')
seal fN bq f3 gm
def aoy{f:Addr}(F:cp K "reason_against" "reason_against" Ky f fd)(B:fc mg)(h8:fw K C)(eZ:fw K CN)(DX:bU K mg "is_bag" Jz iQ f1 cW)(alC:-aH a9 2 f1 cW iQ š)(Cc:bU K mg "are_rising_below" Kx Fh f2 d8)(ayB:-aH a9 1 f2 d8 Fh ź)(lp:dn K CN "roads" "Net.roads" zX gx cV iz)(qV:-aH a9 1 cV iz gx (DW CN))(yU:dn K C "can_leave" "Walk.can_leave" J7 Bn f4 u_)(ay0:-aH a9 3 f4 u_ Bn (ŝ C)):
  -aH a9 4 f fd Fb (Ż C CN):=by
 show-F.ok QZ (λcdv A outer s H vs Q E Z h=>?_);let#[x,n,g,st,bp,bl,e',T,ls,rs,L,I,ds,v,nO,d,d0,ts,2,W,N,R,bX,bc,GC,lB,dv,gl,ne,q]:=h;show#[_,(a7 (er (j2 (kp (c2 alC DX Z.mono b9 (aj (ae 4) aw)))) (a_ (cc cz)) eB)
  (a7 (er (mB.pt (Ġ (fQ Ol (ae 3) iZ (eK _)) (Φ (fQ (aoI (Ì (lF Z))) (mG ĥ (ae 4) mJ (kn a8)) (mG ĥ (ae 3) mJ (kn a8)) (eK _))))) (a_ (cc cz)) eB)
  (a7 (cE 5 QZ.aA (sF (ae 1) eZ lp.eO qV Z.mono lp.bd .nil b9))
  (a7 (er (j2 (DQ qu xD a8 (cn ey (ae 4) a8) (dp hI B.len g_ (aj (ae 5) aw)))) (a_ (cc cz)) eB)
  (a7 (cE 6 QZ.aA (cn fG (ae 5) (cn ey (ae 4) a8)))
  (a7 (er (fQ AY (dp hI B.len g_ (aj (cn ey (ae 4) a8) aw)) (cn ey (ae 6) a8) (eK _)) (a_ (cc cz)) eB)
  (a7 (er (j2 (kp (c2 ayB Cc Z.mono b9 (aj (cn ey (ae 4) a8) (aj (dp hI B.len g_ (aj (ae 2) aw)) aw))))) (a_ (cc cz)) eB)
  (a7 (er (j2 (kp (dp (DR rfl) B.B5 Et (aj (mc (N':=["number","walk","road","thing"]) (cs:=[jp,j3 0,j3 6,j3 4]) rfl (IV (cn ey (ae 4) a8)) rfl xL rfl xL (ia (gK.mpr #[2,(gK.mpr #[2,(gK.mpr #[2,(λp az=>bt az (dU))])])])) rfl
   (.own (.mF rfl (.inl rfl) (.inl rfl) rfl (.mF rfl (.inl rfl) (.inl rfl) rfl (.mF rfl (.inl rfl) (.inl rfl) rfl .nil))))
   (λC b a5 bY da=>#[(dV 0 (by show(["number","walk","road","thing"]:bE).Nodup;decide+kernel)),jm,(gp (ae 1) h8 yU.eO ay0 Z.mono yU.bd .nil b9 (aj (ae 0) (aj (cn (Ef (K:=K) rfl) (ae 2) a8) (aj (cn (Ef (K:=K) rfl) (ae 3) a8) aw))))])) aw)))) (a_ (cc cz)) eB)
  (a_ (cc iZ)))))))))),4]
 unfold rz at q;show#[1,v,d,2,bc,λH1 s1=>#[1,QC (λaf=>?_) λaf=>?_]]
 .rw[af]at q;show-q H1 s1
 rw[a' af]at q;let#[cG,w8]:=YK af;generalize gi d=n' at q cG w8;let#[t,r,j]:=n';let cG:d=uJ t r j:=cG;let w8:j≠[]:=w8;subst cG;let#[G,c,2,j4,i1,awb]:=Ş bc;dsimp only[uk,jQ];unfold FP at q;show-Pb (t:=x3 _ _ _) (λdN=>(BU d0 t r=q4->∀u,aD H u->dN.rt (.str ş) u)/\(BU d0 t r=q9->∀u,aD H u->dN.cX [j3 (.ref x),j3 (.ref n),j3 (.ref e'),j3 nO,j3 (.ref G),jp,jp] u)) #[λaW u M=>?_,λaW u M=>?_] λdN rest=>?_
 .have:=q u M;rwa[a' aW]at this
 .rw[a4 (by rw[aW];simp)]at q;let#[fR,hn]:=N.ins;show#[1,n,fR,1,M _ _ hn,2,n,bp,bl,_,1,N.same M,λl nl=>?_];let b:=M.trans (bT (o:=.lst (aT rs)) nl);let pw:=aQ (H:=u) (a:=l) (o:=.lst (aT rs));generalize upd u l (.lst (aT rs))=a5 at b pw⊢;let t1:=cj.of (K:=K) (b _ _ j4);let dT:=cj.of (K:=K) (b _ _ i1);let eH:=R.len;let rfl':=eW rs;show#[1,G,_,3,t1,2,3,1,4];by_cases bj:0<=r
  .refine d1 (cw bj) #[1,l,1,.inl (aI.of pw),3,1,4];by_cases ai:r<ds.Z
   .refine AQ qI ?_;rw[a4 (λz=>z #[bj,ai])]at q;obtain⟨e,atN⟩:∃e:Nat,r=(e:Int):=#[r.X,9]
    subst atN;obtain⟨X,dH⟩:∃X,rs[e]?=j3 X:=#[_,cQ qI]
    let#[dd,cG,_,hd]:=R.get dH;let cD:ds.getD e qy=dd:=kV cG;let Sk:kA I dd=[.str (rA I ds e),.str (ru I ds e),.int (nG ds e),.int (kX ds e)]:=by unfold kA rA ru nG kX;rw[cD]
    rw[Sk]at hd;let eS:=cj.of (K:=K) (b _ _ hd);show#[5,G,_,3,t1,2,l,_,3,aI.of pw,(show aq.hp (aT rs) (e:Int)=j3 (.ref X)from jG (by unfold aT;rw[cR,dH];rfl)),4];show#[1,G,_,3,t1,2,c,1,.inr dT,1,X,_,3,eS,2,3,1,4];let q:∀H',aD H H'->Q (aaL (if kX ds e<(j.Z:Int)then j3 Ź else if oV L.length (-1) j=q9 then j3 à else if j.all (pU I ds T L t (e:Int))=q9 then j3 Š else jp)) H':=q;by_cases O:kX ds e<(j.Z:Int)
    .rw[a' O]at q;show-d1 (cw (by rwa[aM])) (q _ b)
    rw[a4 O]at q;show-eM (c9 (by rwa[aM])) ?_;show#[1,G,_,3,t1,7,e',1,.inl (aI.of (b _ _ lB)),c,j,1,b _ _ i1,1,4];rw[dv];show-QC (λb8=>?_) λb8=>?_
    .rw[a' b8]at q;show-q _ b
    rw[a4 (by rw[b8];simp)]at q;let#[DO,mem]:=Px b8;dsimp only[uk,jQ,x3,aaG,WK,pP,kT];let wo:=W.same b;let#[al,ar]:=wo.ins;refine vu (J:=xY K c) (H1:=a5) (xs:=j.map V.int) (rest:=[j3 (.ref x),j3 (.ref X),j3 (.ref G)]) (λR h=>#[1,G,_,3,t1,2,c,2,#[_,dT],h]) rfl (PM dT λH' U=>cj.of (U _ _ (b _ _ i1))) (el (by rw[aM];lia)) (λi=>.bo (pU I ds T L t (e:Int) (j.getD i 0))) (λi v dx Rr ev U k=>?_) (λD dx hL bR ju=>?_)
    .rw[cR]at ev;let#[m,em,2]:=e6.mp ev;let aws:=mem m (dm em);obtain⟨d9,rfl⟩:∃d9:Nat,m=(d9:Int):=#[m.X,9]
     let hm:d9<L.Z:=by lia
     let#[pre,es]:=alB (cQ hm) (ne _ (nZ hm));obtain⟨y,dt⟩:∃y,T[d9]?=j3 y:=#[_,cQ qI]
     show#[1,x,al,1,U _ _ ar,7,1,X,_,3,cj.of (U _ _ (b _ _ hd)),7,G,_,3,cj.of (U _ _ (b _ _ j4)),2,x,n,g,st,T,ls,L,d9,pre,_,y,_,1,wo.same U,es,dt,4];have:=k dx (aD.refl _);rw[kV em]at this;unfold pU at this;rwa[jf,jf,kV dt]at this
    show#[D,(dY (j.map V.int).Z).map (λi=>pU I ds T L t (e:Int) (j.getD i 0)),2,aI.of (by rw[bR,ek];rfl),1,4];let aC:(dY (j.map V.int).Z).map (λi=>pU I ds T L t (e:Int) (j.getD i 0))=j.map (pU I ds T L t (e:Int)):=by rw[aM];show-x_ xg λi ai O=>?_;rw[aM]at O;rw[rM,Bi,rM,kV (cQ O)]
    rw[aC,all_map];show-QC (λdC=>?_) λdC=>?_
    .rw[a' dC]at q;show-q _ (b.trans ju)
    rw[a4 (by rw[dC];simp)]at q;show-q _ (b.trans ju)
   rw[a' (λz=>ai z.2)]at q;show-d1 (by rw[c9 qI];rfl) (q _ b)
  rw[a' (λz=>bj z.1)]at q;show-eM (c9 bj) #[1,jr (q _ b)]
 show#[1,7,4];cases d0 with
 |none=>
  obtain rfl:nO=.cf:=GC;exact eM rfl (iN (rest.2 rfl H1 s1))
 |some Y=>
  let#[a0,R5,2,auz]:=GC;refine d1 rfl #[5,G,1,cj.of (s1 _ _ j4),(by show¬((0:Nat)=0/\(2:Nat)=3);lia),λdk HC=>?_];let M:=s1.trans (bT (o:=.tup [V.int t,V.int r]) HC);let kP:=aQ (H:=H1) (a:=dk) (o:=.tup [V.int t,V.int r]);show#[5,a0,1,cj.of (M _ _ auz),(by show¬((0:Nat)=0/\(2:Nat)=3);lia),λdI HD=>?_];let b:=M.trans (bT (o:=.tup [V.int Y.1,V.int Y.2]) HD);show#[dk,dI,6,3,cj.of (bT HD _ _ kP),cj.of aQ,1,4];show if(if t=Y.1 then decide (r<=Y.2)else decide (t<=Y.1))=q4 then _ else _
  cases aW:BU (j3 Y) t r with
  |true=>show-d1 aW (rest.1 aW _ b)
  |false=>show-eM aW (rest.2 aW _ b)
unseal fN bq f3 gm
abbrev yf:Stmt:=top 39
def ż:cJ ["net","letters","plan","walk"] m4 (b_ yf):=({})
def aoz{a c:ag}(d:aD a c)(e:c b=jp):a b=jp:=by
 cases h:a b with
 |none=>rfl
 |some o=>rw[d _ _ h]at e;cases e
def yg(d:PyData):Int×Int:=((gi d).1,(gi d).2.1)
def rC(b:bb)(ds:b0)(d:PyData)(a:dF):List (List Step):=lG (stepK b ds ((gi d).1,(gi d).2.1.toNat)) ((gi d).2.2.map tu) a
def kt(a:bb)(ds:b0)(b:bE):Option (Int×Int)->List (List Step)->Nat->List PyData->(Nat×Str) ⊕ List (List Step)
 |_,h,_,[]=>.inr h
 |i,h,p,d::r=>match rz a ds b h i d with
  |some e=>.inl (p,e)
  |none=>kt a ds b (j3 (yg d)) (rC a ds d h) (p+1) r
theorem amY{d:PyData}{a:dF}(h:∀b∈a,b≠[]):∀b∈rC l ds d a,b≠[]:=λb g=>by
 let#[i,c]:=nY g;unfold rC at c;rw[t2]at c;let#[k,f,2]:=e6.mp c;have:=h k (dm f);split
 .simp
 show-this
theorem alD{d:PyData}{a:dF}{k:Nat}(h:∀b∈a,b.Z<=k):∀b∈rC m ds d a,b.Z<=k+1:=λb g=>by
 let#[i,c]:=nY g;unfold rC at c;rw[t2]at c;let#[l,f,2]:=e6.mp c;have:=h l (dm f);split
 .simp;lia
 lia
inductive aaM(C:Addr)(vs:aV)(H:ag)(Q:aX)(fq:bM):Prop where
 |mk(e:Addr)(v u:aq.V)(_:vs=[.ref e,v,u])(_:H e=j3 (ng e C))(_:∀al H',H al=jp->al≠e->(∀b o,H b=j3 o->b≠e->H' b=j3 o)->H' e=j3 (nf e C al)->H' al=j3 (mX al [("place",v),("reason",u)])->Q .cf H')
abbrev V_:Stmt:=ij (top 7) 0
def aig:cJ Bo Bo (b_ V_):=({})
def ap2{f:Addr}(F:cp K "__init__" "BadBag.__init__" V_ f fd)(a:m' K mg "RoadError" C R)(N:mg "RoadError"=j3 (.ref R))(p:c7 K (.ref C) "place"=j3 jp)(r:c7 K (.ref C) "reason"=j3 jp):-aH a9 1 f fd Bo (aaM C):=by
 show-F.ok aig (λt A k s H i Q E V h=>?_);let#[e,v,u,2,m,q]:=h;show#[_,(a7 (gL (XY xo N a.rd a.Gg a.z3 (aj (ae 0) (aj cz aw))))
  (a7 (ww (y:="RoadError") (R:=R) (ae 0) (ae 1) rfl)
  (a_ (ww (y:="RoadError") (R:=R) (ae 0) (ae 2) rfl)))),4]
 show#[1,e,C,1,m,a,sz_,4];show#[5,e,C,2,a,p,.inl #[m,λd l g=>?_]];show#[5,e,C,2,a,r,.inr #[d,[("place",v)],aQ,4,(by show 1<100;decide),4]]
 .rw[aR g];show-aQ
 show-q d _ l g (λb o c L=>?_) ?_ aQ
 .let n:b≠d:=λz=>by rw[z,l]at c;cases c
  rwa[aR n,aR L,aR n]
 rw[aR (e5 g)];show-aQ
inductive Ž(C CN fD:Addr)(vs:aV)(H:ag)(Q:aX)(E:bM):Prop where
 |mk(n bp bl e' pp:Addr)(rs dA:bS)(eh:kl)(hs:bb)(ds:b0)(zs:aV)(gR:gy)(_:vs=[.ref n,.ref e',.ref pp])(_:iC CN H n bp bl (c1 hs) (aT rs))(_:gG H hs rs ds)(_:rs.Z<=40)(_:H e'=j3 (.lst (aT dA)))(_:eG H dA (eh.map q'))(_:dA.Z<=100)(_:H pp=j3 (.lst zs))(_:gn H zs gR)(_:gR.Z<=98)(_:∀sss,kt hs ds (eh.map λd=>d.2.2) jp (eh.map kS) 0 gR=.inr sss->sss.Z=eh.Z->(∀ss∈sss,ss≠[])->(∀ss∈sss,ss.Z<=100)->∀(H':ag)(x g st:Addr)(ls:bS),aD H H'->WalkAt C H' x n g st (eh.map λd=>d.2.2) ls sss->Q (.ref x) H')(_:∀p e,kt hs ds (eh.map λd=>d.2.2) jp (eh.map kS) 0 gR=.inl (p,e)->∀al H',H al=jp->aD H H'->H' al=j3 (mX al [("place",.int (p:Int)),("reason",.str e)])->E (.ref fD) (j3 al) H')
inductive ass(n e' pp x:Addr)(h3:ag)(iD:bS)(hs:bb)(ds:b0)(eh:kl)(gR:gy)(j:Nat)(aa:aq.St)(cY:ag):Prop where
 |mk(nO:aq.V)(d0:Option (Int×Int))(sss:dF)(qC v6 nN:ji)(_:aa=[j3 (.ref n),j3 (.ref e'),j3 (.ref pp),j3 (.ref x),j3 nO,qC,v6,nN])(_:aD h3 cY)(_:bV (hU cY) iD sss)(_:AN h3 nO d0)(_:kt hs ds (eh.map λd=>d.2.2) jp (eh.map kS) 0 gR=kt hs ds (eh.map λd=>d.2.2) d0 sss j (gR.drop j))(_:sss.Z=eh.Z)(_:∀ss∈sss,ss≠[])(_:∀ss∈sss,ss.Z<=j+1)
seal fN bq f3 gm
def aoO{f:Addr}(F:cp K "walk_of" "walk_of" J3 f fd)(B:fc mg)(cT:rf K C)(xi:mg "Walk"=j3 (.ref C))(Ck:bU K mg "reason_against" Ky Fb f1 cW)(ay1:-aH a9 4 f1 cW Fb (Ż C CN))(Pw:o8 K C f2)(sh:nW K C "Walk.__init__" FF yk f2 d8)(WO:-aH a9 2 f2 d8 yk (QH C))(si:dn K C "send" "Walk.send" EY yo cV iz)(WQ:-aH a9 2 cV iz yo (PG C CN))(NS:m' K mg "RoadError" U R)(pg:mg "BadBag"=j3 (.ref U))(akc:mC K (.ref U)=q4)(akd:c7 K (.ref U) "__init__"=j3 (j3 (.ref nh)))(ake:qP K (.ref nh)=q4)(afU:-aH a9 1 nh Gj Bo (aaM U))(akf:Binds K Gj Bo []):
  -aH (iJ P w) 5 f fd m4 (Ž C CN U):=by
 let h8:=cT.cl;show-DK F Aj (λcdv A outer s H vs Q E y h=>?_);let#[n,bp,bl,e',pp,rs,dA,t,m,ds,zs,Y,2,N,R,bX,lB,ro,SH,CC,LR,ad1,q,i9]:=h;show#[_,(a7 (cE 3 Aj.aA (vr Pw WO y.mono xo xi sh.bd .nil b9 (aj (ae 0) (aj (ae 1) aw))))
  (a7 (cE 4 Aj.aA iZ)
  (a7 (kq ā rfl (Ot rfl B.enumerate (aj (ae 2) aw)) (Ad rfl (iX (dV 5 Aj.aA) (iX (dV 6 Aj.aA) sM)))
   (a7 (cE 7 Aj.aA (c2 ay1 Ck y.mono b9 (aj (ae 3) (aj (ae 0) (aj (ae 1) (aj (ae 4) (aj (ae 6) aw)))))))
  (a7 (er (fQ Ol (ae 7) iZ (eK _)) (a_ (HS NS pg akc akd ake afU y.mono akf rfl (aj (ae 5) (aj (ae 7) aw)))) eB)
  (a7 (gL (gp (ae 3) h8 si.eO WQ y.mono si.bd .nil b9 (aj (ae 6) aw)))
  (a_ (cE 4 Aj.aA (ae 6)))))))
  (a_ (cc (ae 3)))))),4]
 show#[5,λx D cX sU aA=>?_];let mk:∀{b:Addr}{v:hP},H b=j3 v->upd (upd H D (.own x)) x (.ins C D []) b=j3 v:=λ{b v}e=>by rwa[aR (dj e cX),aR (dj e sU)]
 show#[x,D,n,e',dA,t,2,aQ,mk lB,ro.same (λb v e=>mk e),SH,λH1 g st r c6 W pI pJ w7 X awS=>#[2,4]];let s1:aD H H1:=YR cX sU c6;let Lm:∀l∈r,H l=jp:=λl u=>by
  cases e:H l with
  |none=>rfl
  |some o=>have:=(X l u).1;rw[mk e]at this;cases this
 obtain⟨L,I⟩:∃L,L=mask H1 r:=#[1]
 let axR:aD L H1:=by rw[I];show-Xw _ _
 let G:aD H L:=λb o e=>by rw[I];show-nq (s1 _ _ e) λaf=>by rw[Lm b af]at e;cases e
 let auj:∀l∈r,L l=jp:=λl u=>by rw[I];show-Ox u
 let IG:x∉r:=λu=>by have:=(X x u).1;rw[aQ]at this;cases this
 let tO:g∉r:=λu=>(X g u).2.2 rfl;let sn:st∉r:=λu=>(X st u).2.1 rfl;let Kn:qo C L x n g st (t.map λd=>d.2.2) r:=by let#[K_,e]:=W.ins;rw[I];show#[#[K_,nq e IG],nq W.goals tO,nq W.steps sn]
 let Mq:dA.Z=t.Z:=by have:=ro.len;rwa[aM]at this
 let axi:=LR.len;let dW:=W.each;clear W c6 mk cX sU aA pI pJ X awS IG tO sn Lm I;show#[1,pp,2,#[_,aI.of (s1 _ _ CC)],4];show-ZC (K:=K) (a:=pp) (xs:=zs) (ass n e' pp x L r m ds t Y) #[.cf,jp,t.map kS,jp,jp,jp,2,axR,dW,2,2,aM _,λss m=>by let#[d,1]:=bQ.mp m;simp[kS],λss m=>by let#[d,1]:=bQ.mp m;show-b7 _] (λj aa cY⟨_,_,_,_,_,_,_,h,_,_,_,_,_,_⟩=>aI.of (h _ _ (G _ _ CC))) ?_ ?_
 .rintro j v aa cY p fy ⟨nO,d0,k,qC,v6,nN,rfl,d5,fJ,GC,i,ln,MC,j0⟩ np;let#[d,Sm,M]:=LR.get fy;let zw:=(fU.mp Sm).1;let O:=bT (o:=.tup [V.int (j:Int),v]) np;show#[p,1,cj.of aQ,2,4];let rj:=d5.trans O;let Sq:=NP fJ O;generalize upd cY p (.tup [V.int (j:Int),v])=ags at rj Sq⊢;let wz:Y.drop j=d::Y.drop (j+1):=by rw[PV zw];rw[cQ zw]at Sm;rw[gk Sm]
  rw[wz]at i;let nb:=G.trans rj;show#[_,1,3,4];show#[5,5,1,x,n,g,st,bp,bl,e',_,r,rs,k,m,ds,v,nO,d,d0,1,(Kn.same rj).at_ Sq,N.same nb,R.same nb,bX,M.same nb,GC.same rj,nb _ _ lB,(by rw[eW,Mq,ln]),(by rw[aM,ln]),MC,λZo bK=>?_];let Wg:=rj.trans bK;let T:=G.trans Wg;let i:kt m ds (t.map λd=>d.2.2) jp (t.map kS) 0 Y=(match rz m ds (t.map λd=>d.2.2) k d0 d with|some e=>.inl (j,e)|none=>kt m ds (t.map λd=>d.2.2) (j3 (yg d)) (rC m ds d k) (j+1) (Y.drop (j+1))):=i;cases y:rz m ds (t.map λd=>d.2.2) k d0 d with
  |some e=>
   rw[y]at i;show#[1,7,d1 rfl ?_];show#[5,sz_,λaG awM=>?_];show#[aG,_,1,aQ,λD a5 aA mS Z auE auD=>#[2,D,auE,4]];let zG:Zo D=jp:=by rwa[aR mS]at aA
   show-i9 j e i D _ (aoz T zG) (λb o af=>?_) ?_
   .let wM:=T _ _ af;let Vj:b≠aG:=dj wM awM;rw[qk Vj];exact Z b o (by rwa[aR Vj]) Vj
   rwa[qk mS]
  |none=>
   rw[y]at i;show#[1,7,eM rfl ?_];let ok:=alA y;let J:=M.same G;rw[ok.d]at J;let#[hT,c,2,j4,i1,_]:=Ş J;let yL:lH L hT (((gi d).1,(gi d).2.1.toNat),(gi d).2.2.map tu):=#[c,j4,by rw[i1,ek];rfl]
   let#[K_,gf]:=Kn.ins;show#[1,x,K_,1,Wg _ _ gf,7,L,x,n,g,st,bp,bl,hT,_,r,rs,k,m,ds,1,Wg,Kn,NP Sq bK,w7,auj,N.same G,R.same G,yL,ok.rd,(ok.M9.imp λh=>e8 h),ok.lt,(λss lD=>by have:=j0 ss lD;lia),λrJ aF em=>?_];let aqT:AN L (.ref hT) (j3 (yg d)):=by show#[hT,.ref c,2,4];rw[j4];let e:=ok.d;let aC:=fe gi e;rw[ß]at aC;show j3 (hP.tup [V.int (gi d).1,V.int ((gi d).2.1.toNat:Int),V.ref c])=j3 (hP.tup [V.int (gi d).1,V.int (gi d).2.1,V.ref c]);rw[show(gi d).2.1=((gi d).2.1.toNat:Int)from fe (λz=>z.2.1) aC];simp
   show#[1,6,6,_,1,aF,em,aqT,i,by rwa[DH],amY MC,alD j0]
 rintro aa cY ⟨nO,d0,k,qC,v6,nN,rfl,d5,fJ,GC,i,ln,MC,j0⟩;rw[axi,ahI]at i;show#[1,q k i ln MC (λss h=>by have:=j0 ss h;lia) cY x g st r (G.trans d5) ((Kn.same d5).at_ fJ)]
unseal fN bq f3 gm
end
end dP
namespace b4
open PySem PySem.Spec PyProof.Rows aq Builtin Builtin.Str
theorem YL:∀l:List (Str×Tok),cI ((l.map (·.1)).map V.str) (strValues l)
 |[]=>.nil
 | (x,t)::r=>.cons #[t,2] (YL r)
section
variable{X:bA}
def aoP:aq.V->List aq.V->ag->aX->Prop:=λx a H Q=>∃z y,x=.str z/\a=[.str y]/\(y.Z==0)=q9/\z.Z+2<=sizeLine/\∀p,H p=jp->Q (.ref p) (upd H p (.lst ((n9 z y).map V.str)))
def OR:Bw X "str.split" aoP:=by
 intro c s g H x K v A Q I n rs h;let#[z,y,2,2,f,w,q]:=h;let#[t,2]:=n;let#[u,2,d,2]:=vals1 rs;let b:∀{l:List (Str×Tok)}{k:Nat},l.map (·.1)=n9 z y->l.Z<=sizeLine->ir X c g Q (.ref s.L) {s with heap:=s.heap.push {cls:=.type "list",data:=.seq (strValues l).toArray},toks:=k}:=λ{l k}e m=>by show#[.ref _,_,I.Mp (ys:=(n9 z y).map V.str) (by rw[<-e];show-YL l) ?_,2,q _ I.fresh];rwa[aM,<-e,aM]
 let one:∀{a:Str×Tok},[a].Z<=sizeLine:=λ{a}=>by show 1<=sizeLine;decide
 cases ai:(decide (z.Z<y.Z)||decide (strKind z<strKind y))
 .cases i:(occurrences z y 0 z.length (z.Z+1)).isEmpty
  .let p:(partsBetween z (occurrences z y 0 z.length (z.Z+1)) y.Z).Z<=sizeLine:=by
    rw[length_partsBetween];let r:=StrLaws.occ_length_le_len z y 0 z.length (z.Z+1)
    lia
   show-yR F.slot_str_split (Ii _ _ _) F.entry_str_split (F.args_str_split_2 _ _) (meets_str_split_sep z y t d ai f i qI p) ?_;show wants _ _ _ {s with toks:=_,heap:=s.heap.push {cls:=.type "list",data:=.seq (strsFrom s.toks (partsBetween z (occurrences z y 0 z.length (z.Z+1)) y.Z)).toArray}};rw[strsFrom_eq];show-b ((aw6 _ _).trans ((a4 (ne_true_of_eq_false ai)).trans (a4 (ne_true_of_eq_false i))).symm) ?_;have:=fe rN (aw6 s.toks (partsBetween z (occurrences z y 0 z.length (z.Z+1)) y.Z));rw[aM]at this
   lia
  exact yR F.slot_str_split (Ii _ _ _) F.entry_str_split (F.args_str_split_2 _ _) (meets_str_split_not_found z y t d ai f i)
   (b (l:=[(z,t)]) ((a4 (ne_true_of_eq_false ai)).trans (a' i)).symm one)
 exact yR F.slot_str_split (Ii _ _ _) F.entry_str_split (F.args_str_split_2 _ _) (meets_str_split_cannot_occur z y t d ai)
  (b (l:=[(z,t)]) (a' ai).symm one)
def ap3:aq.V->List aq.V->ag->aX->Prop:=λx a H Q=>∃z y,x=.str z/\a=[.str y]/\Q (.bo (QE z y)) H
def amZ:Bw X "str.endswith" ap3:=by intro a s c H x g v f Q I b rs h;let#[z,y,2,2,q]:=h;let#[t,2]:=b;let#[u,2,d,2]:=vals1 rs;show-SC.endswith #[.bo _,H,I,2,q]
def YM:ks X (.type "int") (λb H Q=>∃z n,b=[.str z]/\ajk z=j3 n/\z.Z<=640/\Q (.int n) H):=by intro a s f H b g Q I r h;let#[z,n,2,d,c,q]:=h;let#[u,2,t,2]:=vals1 r;show-aAg d c #[.int n,H,I.tok _,#[1],q]
end
end b4
namespace dP
open PySem aq b4 Builtin Builtin.Str StrLaws
def cK(y:bB):List bB->List Nat
 |[]=>[]
 |[p]=>p
 |p::r=>p++y++cK y r
def xN(w:Nat):Nat->List bB->List Nat
 |_,[]=>[]
 |_,[_]=>[]
 |a,p::r=>(a+p.Z)::xN w (a+p.Z+w) r
section
variable{x y:bB}{c:Nat}
theorem N_{sub:Str}{hi limit:Nat}:∀(l:bB)(st:Array Nat×Nat),(∀i∈l,st.2<=i->i+sub.Z<=hi->subAt s sub i=q9)->∀r,(forIn (l++r) st (occBody s sub hi limit)).run=(forIn r st (occBody s sub hi limit)).run
 |[],_,_,_=>rfl
 |a::l,st,h,r=>by
  rw[π,JH];unfold occBody;rw[a4 (λz=>by
   have:=h a (.head _) z.1.1.2 z.1.2;rw[this]at z;show-gZ z.2)]
  show-N_ l st (λi b=>h i (.tail _ b)) r
def am0{sub:Str}{d b a:Nat}{r:bB}{st:Array Nat×Nat}(g:st.1.size<b)(k:st.2<=a)(f:a+sub.Z<=d)(l:subAt s sub a=q4):
  (forIn (a::r) st (occBody s sub d b)).run=(forIn r (st.1.push a,a+sub.Z) (occBody s sub d b)).run:=by rw[JH];unfold occBody;rw[a' #[#[#[g,k],f],l]];rfl
def Oa(x y:bB)(i:Nat):subAt (S x) (S y) i=((x.drop i).take y.Z==y):=by rw[subAt_eq];simp[S,Ĭ]
theorem YN{d:Nat}{y:bB}:∀(n:bb),n≠[]->(∀p∈n,d∉p)->∀(x:bB)(a:Nat)(st:Array Nat×Nat)(limit:Nat),a<=x.Z->x.drop a=cK (d::y) n->st.2<=a->st.1.size+x.Z+1-a<=limit->
  (forIn (E' a (x.Z+1-a)) st (occBody (S x) (S (d::y)) x.length limit)).run.1.toList=st.1.toList++xN (y.Z+1) a n
 |[],h,_,_,_,_,_,_,_,_,_=>bt rfl h
 |[p],_,az,x,a,st,limit,aB,e,hs,D=>by
  let m:=N_ (s:=S x) (sub:=S (d::y)) (hi:=x.Z) (limit:=limit) (E' a (x.Z+1-a)) st (λi b f k=>?_) []
  .rw[lS]at m;rw[m];show st.1.toList=st.1.toList++[];rw[lS]
  rw[ew,ej]at k;rw[Γ]at b;rw[Oa];show-xO.mpr λz=>?_;let w:=eq_of_beq z;let t:x[i]?=j3 d:=by have:=fe (λl=>l[0]?) w;simpa using this
  let g:(x.drop a)[i-a]?=j3 d:=by rw[ahP];rwa[show a+(i-a)=i by lia]
  rw[e]at g;show-az p (.head _) (dm g)
 |p::q::r,_,az,x,a,st,limit,aB,e,hs,D=>by
  let N:x.drop a=p++(d::y)++cK (d::y) (q::r):=e;obtain⟨L,V⟩:∃L,x.Z=a+p.Z+(y.Z+1)+L:=#[(cK (d::y) (q::r)).Z,by
   have:=fe rN N;simp only[rO,c0,ej]at this;rw[<-Nat.add_sub_cancel' aB,this];simp only[air]]
  let K:E' a (x.Z+1-a)=E' a p.Z++(a+p.Z)::(E' (a+p.Z+1) y.Z++E' (a+p.Z+(y.Z+1)) (x.Z+1-(a+p.Z+(y.Z+1)))):=by
   let m:x.Z+1-(a+p.Z+(y.Z+1))=L+1:=by rw[V,air,ait]
   let B:x.Z+1-a=p.Z+((y.Z+(x.Z+1-(a+p.Z+(y.Z+1))))+1):=by rw[m,V,show a+p.Z+(y.Z+1)+L+1=a+(p.Z+(y.Z+(L+1)+1)) by lia,ait]
   rw[B,<-ah0,List.range'_succ,<-ah0];congr 4
   lia
  let A:∀i,a<=i->i<a+p.Z->x[i]?≠j3 d:=λi f k z=>by
   let g:(x.drop a)[i-a]?=j3 d:=by rw[ahP];rwa[show a+(i-a)=i by lia]
   rw[N,jB,JI qI]at g;show-az p (.head _) (dm g)
  let j:x.drop (a+p.Z)=(d::y)++cK (d::y) (q::r):=by rw[<-PU,N,jB,JF]
  let o:x.drop (a+p.Z+(y.Z+1))=cK (d::y) (q::r):=by rw[<-PU,j];show-JF
  rw[K,N_ _ _ (λi b f k=>?_),am0 qI qI (by rw[ew,ej];lia) ?_,N_ _ _ (λi b f k=>?_)]
  .rw[ew,ej];let u:=YN (d:=d) (y:=y) (q::r) xg (λE F=>az E (.tail _ F)) x (a+p.Z+(y.Z+1)) (st.1.push (a+p.Z),a+p.Z+(y.Z+1)) limit qI o (b7 _) (by simp;lia);rw[u];show(st.1.push (a+p.Z)).toList++_=st.1.toList++(a+p.Z)::xN (y.Z+1) (a+p.Z+(y.Z+1)) (q::r);rw[Array.toList_push,jB];rfl
  .-- within C glue
   rw[ew,ej]at f;rw[Γ]at b;exfalso;let f:a+p.Z+(y.Z+1)<=i:=f
   lia
  .rw[Oa,j];simp
  rw[Γ]at b;rw[Oa];show-xO.mpr λz=>?_;let w:=eq_of_beq z;let t:x[i]?=j3 d:=by have:=fe (λl=>l[0]?) w;simpa using this
  show-A i b.1 b.2 t
theorem afh{d:Nat}{y:bB}:∀(b:bb),b≠[]->∀(x:bB)(a:Nat),a<=x.Z->x.drop a=cK (d::y) b->partsFrom (S x) (y.Z+1) a (xN (y.Z+1) a b)=b.map S
 |[],h,_,_,_,_=>bt rfl h
 |[p],_,x,a,aB,e=>by let e:x.drop a=p:=e;show[strSub (S x) a (S x).Z]=[S p];congr 1;apply Qx;apply I2.mp;rw[strSub_toList,ew];show(x.drop a).take (x.Z-a)=p;rw[o6 xg,e]
 |p::q::r,_,x,a,aB,e=>by
  let f:x.drop a=p++(d::y)++cK (d::y) (q::r):=e;let l:x.Z-a=p.Z+(y.Z+1)+(cK (d::y) (q::r)).Z:=by have:=fe rN f;simp only[rO,c0,ej]at this;show-this
  let g:x.drop (a+p.Z+(y.Z+1))=cK (d::y) (q::r):=by
   let k:x.drop (a+p.Z)=(d::y)++cK (d::y) (q::r):=by rw[<-PU,f,jB,JF]
   rw[<-PU,k];show-JF
  show strSub (S x) a (a+p.Z)::partsFrom (S x) (y.Z+1) (a+p.Z+(y.Z+1)) (xN (y.Z+1) (a+p.Z+(y.Z+1)) (q::r))=S p::(q::r).map S;rw[afh (q::r) xg x _ qI g];congr 1;apply Qx;apply I2.mp;rw[strSub_toList];show(x.drop a).take (a+p.Z-a)=p;rw[show a+p.Z-a=p.Z by lia,f,jB];show-ah4
def am1{d:Nat}{y:bB}{p q:bB}{r:bb}:y.Z+1<=(cK (d::y) (p::q::r)).Z:=by
 show _<=(p++(d::y)++cK (d::y) (q::r)).Z;rw[c0,c0,ej]
 lia
def ž{l:bB}(h:∀c∈l,c<256):Str.strKind (S l)=1:=by
 unfold Str.strKind;rw[a'];show l.toArray.all (λc=>decide (c<256))=q4;rw[List.all_toArray,tv]
 exactλc a=>cw (h c a)
def WT{d:Nat}{y:bB}{a:bb}(f:a≠[])(l:∀p∈a,d∉p)(b:∀c∈cK (d::y) a,c<256)(n:∀c∈d::y,c<256):n9 (S (cK (d::y) a)) (S (d::y))=a.map S:=by
 let m:=YN (d:=d) (y:=y) a f l (cK (d::y) a) 0 (#[],0) ((cK (d::y) a).Z+1) (eu _) rfl (b7 _) xg;let k:=afh (d:=d) (y:=y) a f (cK (d::y) a) 0 (eu _) rfl;let g:occurrences (S (cK (d::y) a)) (S (d::y)) 0 (S (cK (d::y) a)).length ((S (cK (d::y) a)).Z+1)=xN (y.Z+1) 0 a:=by rwa[occ_eq,ew]
 unfold n9;rw[g,partsBetween_eq,ew,ew];cases a with
 |nil=>exact bt rfl f
 |cons p r=>
  cases r with
  |nil=>
   split
   .rfl
   rfl
  |cons q r=>
   have:=am1 (d:=d) (y:=y) (p:=p) (q:=q) (r:=r);rw[a4,a4]
   .exact k
   .show¬(xN (y.Z+1) 0 (p::q::r)).isEmpty=q4;show-gZ
   rw[ž b,ž n,ej];simp
   lia
def DY(y:bB):∀a:List bB,Txt.join (S y) (a.map S)=S (cK y a):=by
 let h:∀a:List bB,Str.join (S y) (a.map S)=S (cK y a):=λa=>by
  induction a with
  |nil=>rfl
  |cons p r e=>
   cases r with
   |nil=>rfl
   |cons q r=>
    show S p++S y++Str.join (S y) ((q::r).map S)=S (p++y++cK y (q::r));rw[e];apply Qx;apply I2.mp;simp only[Str.cps_append,Array.toList_append]
 exactλa=>(glued_eq_join _ _).trans (h a)
def ct(m:Nat):List Nat:=(yx 10 m).map Yw
def nz(m:Nat):cU (toString ((m:Nat):Int))=S (ct m):=by apply Qx;apply I2.mp;show-aAi m
def l_{m c:Nat}(h:c∈ct m):48<=c/\c<=57:=by let#[a,jK,2]:=bQ.mp h;have:=Nat.isDigit_of_mem_toDigits (b:=10) x8 x8 jK;unfold Char.isDigit at this;simp only[ge_iff_le,hN,decide_eq_true_eq]at this;show#[this.1,this.2]
theorem E1(m:Nat):ct m≠[]:=λe=>by
 let h:=Bk.mp e;by_cases hm:m<10
 .rw[Qe hm]at h;cases h
 let t:yx 10 (m/10)++yx 10 (m%10)=yx 10 (10*(m/10)+m%10):=Ñ x8 qI qI;rw[aiu,h]at t;have:=fe rN t;rw[Qe (Ï m x8),c0]at this;simp at this
def ma{m:Nat}(h:m<10 ^ 10):(ct m).Z<=10:=by have:=aAk (n:=(m:Int)) qI qI;rwa[nz,ew]at this
def am2(m:Nat):∀r,ct m=48::r->m=0:=by
 induction m using aiC with
 |_ m h=>
  intro r e;by_cases hm:m<10
  .have:m=0\/m=1\/m=2\/m=3\/m=4\/m=5\/m=6\/m=7\/m=8\/m=9:=by lia
   unfold ct at e;rw[Qe hm]at e;rcases this with rfl|rfl|rfl|rfl|rfl|rfl|rfl|rfl|rfl|rfl
   .rfl
   all_goals (simp at e)
   all_goals (show-bt e.1 x8)
  let t:yx 10 (m/10)++yx 10 (m%10)=yx 10 (10*(m/10)+m%10):=Ñ x8 qI qI;rw[aiu]at t;unfold ct at e;rw[<-t,eb]at e;let f:=E1 (m/10);let b:ct (m/10)++(yx 10 (m%10)).map Yw=48::r:=e;cases hd:ct (m/10)with
  |nil=>show-bt hd f
  |cons a s=>
   rw[hd]at b;let d:a=48:=(Bh b).1;subst d;have:=h (m/10) qI s hd
   lia
def am3:ct 0=[48]:=by decide
def Ob{m:Nat}(h:m<10 ^ 10):ajk (S (ct m))=j3 (m:Int):=by rw[<-nz];show-aAh qI qI
abbrev df:=Nat×Nat×List Nat
def lJ(a:bB):List aq.V:=a.map λn:Nat=>V.int (n:Int)
end
def i7(H:ag)(a:Addr)(b:df):Prop:=∃c,H a=j3 (.tup [.int (b.1:Int),.int (b.2.1:Int),.ref c])/\H c=j3 (.tup (lJ b.2.2))
def i7.same{b:df}(h:i7 H a b)(d:aD H H'):i7 H' a b:=(let⟨c,f,g⟩:=h;#[c,d _ _ f,d _ _ g])
structure Kz(b:df):Prop where
 t:b.1<10 ^ 10
 r:b.2.1<10 ^ 10
 n:∀n∈b.2.2,n<10 ^ 10
 ne:b.2.2≠[]
 bX:b.2.2.Z<=40
def hZ(b:df):List Nat:=ct b.1++[32]++ct b.2.1++[58,32]++cK [32] (b.2.2.map ct)
def ie(a:List df):List Nat:=cK [59,32] (a.map hZ)
theorem Js(y:bB)(k:Nat):∀a:List bB,(∀p∈a,p.Z<=k)->(cK y a).Z<=a.Z*(k+y.Z)
 |[],_=>eu _
 |[p],h=>by
  have:=h p (.head _);show p.Z<=1*(k+y.Z)
  lia
 |p::q::r,h=>by
  let f:=h p (.head _);let b:=Js y k (q::r) λc d=>h c (.tail _ d);show(p++y++cK y (q::r)).Z<=(r.Z+1+1)*(k+y.Z);rw[c0,c0,Fq];rw[ej]at b
  lia
def Z6{b:df}(ok:Kz b):(hZ b).Z<=500:=by
 let g:=ma ok.t;let k:=ma ok.r;let a:=Js [32] 10 (b.2.2.map ct) λp c=>by let#[n,f,2]:=bQ.mp c;show-ma (ok.n n f)
 rw[aM]at a;let d:=ok.bX;let l:b.2.2.Z*(10+[32].Z)<=40*11:=Fp d (b7 _);unfold hZ;simp only[c0,ej,kf]at *
 lia
theorem Ah{c:Type}(f:c->Nat)(k:Nat):∀l:List c,(∀a∈l,f a<=k)->(l.map f).sum<=l.Z*k
 |[],_=>eu _
 |a::l,h=>by
  let g:=h a (.head _);let m:=Ah f k l λb d=>h b (.tail _ d);rw[e7,mx,ej,Fq]
  lia
def aaa:fx:=λc H Q _=>∃(a:Addr)(b:df),c=[.ref a]/\i7 H a b/\Kz b/\∀H',aD H H'->Q (.str (S (hZ b))) H'
def Q0(K:aL):fx:=λd H Q _=>∃(p:Addr)(c:bS)(a:List df),d=[.ref p]/\aI K H p (aT c)/\bV (i7 H) c a/\(∀b∈a,Kz b)/\a.Z<=1000/\∀H',aD H H'->Q (.str (S (ie a))) H'
def Pm{n:Nat}(h:n<10 ^ 10):((n:Int)).natAbs.log2<1920:=by
 rw[agz];by_cases a:n=0
 .subst a;decide
 exact(aiA a).mpr (iR h xL)
section
variable{P:cq}{w:bW}{K:aL}{mg:b5}{base:Heap}
abbrev Kt:Stmt:=top 82
def aab:cJ ["bag","numbers"] ["bag"] (b_ Kt):=({})
def aoQ{f:Addr}(F:cp K "show_bag" "show_bag" Kt f fd)(B:fc mg):-aH a9 1 f fd ["bag"] aaa:=by
 show-F.ok aab (λM A L s H vs Q E Y h=>?_);let#[a,b,2,#[c,e,l],ok,q]:=h;show#[_,(a7 (cE 1 aab.aA (i3 uS Kg Kh Ir cz (aj (mc (N':=o7) (cs:=[jp]) rfl (IV (cn ey (ae 0) a8)) rfl xL rfl xL (ia (λp d=>bt d (dU))) rfl
   (.own .nil)
   (λC s3 X Z da=>#[(dV 0 (by show(o7:bE).Nodup;decide+kernel)),jm,(hS oh B.str mO (aj (ae 0) aw))])) aw)))
  (a_ (cc (br gA (br gA (br gA (br gA (hS oh B.str mO (aj (cn ey (ae 0) a8) aw)) cz) (hS oh B.str mO (aj (cn ey (ae 0) a8) aw))) cz) (ae 1))))),4]
 ac_rfl
 let I:(lJ b.2.2).Z=b.2.2.Z:=aM _;let g:=ok.bX;show#[2,4];dsimp only[kT];refine vu (J:=xY K c) (H1:=H) (xs:=lJ b.2.2) (rest:=[]) (λR h=>#[1,a,_,3,cj.of e,2,c,2,#[_,cj.of l],h]) rfl (PM (cj.of l) λH' j=>cj.of (j _ _ l)) (el qI) (λi=>.str (S (ct (b.2.2.getD i 0)))) (λi v o R r j k=>?_) (λD o hL bR y=>?_)
 .unfold lJ at r;rw[cR]at r;let#[n,u,2]:=e6.mp r;show#[5,Pm (ok.n n (dm u)),4];rw[nz];have:=k o (aD.refl _);rwa[dB,u]at this
 let U:(dY (lJ b.2.2).Z).map (λi=>V.str (S (ct (b.2.2.getD i 0))))=((b.2.2.map ct).map S).map V.str:=by rw[I,range_getD (λn=>V.str (S (ct n))) 0 b.2.2,ek,ek];rfl
 rw[U]at bR;let O:cU " "=S [32]:=by left
 let T:cU ": "=S [58,32]:=by left
 let eg:=ma ok.t;let eC:=ma ok.r;let m:=Js [32] 10 (b.2.2.map ct) λp d=>by let#[n,t,2]:=bQ.mp d;show-ma (ok.n n t)
 let z:(cK [32] (b.2.2.map ct)).Z<=440:=dQ m (by rw[aM];show-Fp g (b7 _));rw[O,T];show#[S [32],D,(b.2.2.map ct).map S,2,2,aI.of bR,4,4]
 .have:=Ah (λx:Str=>x.Z) 10 ((b.2.2.map ct).map S) λx G=>by let#[p,d,2]:=bQ.mp G;let#[n,t,2]:=bQ.mp d;rw[ew];show-ma (ok.n n t)
  rw[aM,aM,ew]at *;simp only[ej,kf]
  lia
 rw[DY];let N:=cj.of (K:=K) (y _ _ e);show#[1,a,_,3,N,7,Pm ok.t,4];rw[nz];show#[3,4,1,a,_,3,N,7,Pm ok.r,4]
 .rw[ew,ew];show _+1<=16777216
  lia
 rw[nz,kU];show#[3,4,3,4,1,3,4,4]
 .rw[ew,ew,c0];show _+1+_<=16777216
  lia
 .rw[kU,ew,ew,c0,c0];show _+1+_+2<=16777216
  lia
 .rw[kU,kU,ew,ew,c0,c0,c0];show _+1+_+2+_<=16777216
  lia
 rw[kU,kU,kU];show-q _ y
abbrev FQ:Stmt:=top 83
def ap4:cJ ["plan"] ["plan"] (b_ FQ):=({})
def aoR{f:Addr}(F:cp K "show_plan" "show_plan" FQ f fd)(j:bU K mg "show_bag" Kt ["bag"] f1 G)(l:-aH a9 1 f1 G ["bag"] aaa):-aH a9 2 f fd ["plan"] (Q0 K):=by
 show-F.ok ap4 (λI A t s H vs Q E z h=>?_);let#[p,m,d,2,c,e,ok,Y,q]:=h;show#[_,(a_ (cc (i3 uS Kg Kh Ir cz (aj (mc (N':=["bag"]) (cs:=[jp]) rfl (h7 (ae 0)) rfl xL rfl xL (ia (λp c=>bt c (dU))) rfl
   (.own .nil)
   (λC s3 X Z da=>#[(dV 0 (by show(["bag"]:bE).Nodup;decide+kernel)),jm,(c2 l j z.mono b9 (aj (ae 0) aw))])) aw)))),4]
 ac_rfl
 let n:=lU e;let L:=eW m;show#[2,4];dsimp only[kT];refine vu (J:=kE K p) (H1:=H) (xs:=aT m) (rest:=[]) (λR h=>#[1,p,2,#[_,c],h]) rfl (pB c) (by rw[L];show _<16777216;lia) (λi=>.str (S (hZ (d.getD i (0,0,[]))))) (λi v y R r o k=>?_) (λD y hL bR M=>?_)
 .unfold aT at r;rw[cR]at r;let#[a,u,2]:=e6.mp r;let#[b,N,g]:=bV.get e u;show#[1,a,b,2,g.same o,ok b (dm N),λH' T=>?_];have:=k H' T;rwa[dB,N]at this
 let U:(dY (aT m).Z).map (λi=>V.str (S (hZ (d.getD i (0,0,[])))))=((d.map hZ).map S).map V.str:=by rw[L,n,range_getD (λb=>V.str (S (hZ b))) (0,0,[]) d,ek,ek];rfl
 rw[U]at bR;let O:cU "; "=S [59,32]:=by left
 rw[O];show#[S [59,32],D,(d.map hZ).map S,2,2,aI.of bR,4,4]
 .have:=Ah (λx:Str=>x.Z) 500 ((d.map hZ).map S) λx B=>by let#[p,c,2]:=bQ.mp B;let#[b,g,2]:=bQ.mp c;rw[ew];show-Z6 (ok b g)
  rw[aM,aM,ew]at *;simp only[ej,kf]
  lia
 rw[DY];show-q _ M
end
open cm
def FU:Option hx->Option (Int×Int):=Option.map λk=>(k.1,(k.2:Int))
def lO(b:hx×List Nat):PyData:=uJ b.1.1 b.1.2 (b.2.map λn:Nat=>(n:Int))
def J1(b:hx×List Nat):gi (lO b)=(b.1.1,(b.1.2:Int),b.2.map λn:Nat=>(n:Int)):=(ß ..)
section
variable{hs:bb}{ds:b0}{kvs:eo}{ay:bE}{sss fin mid:dF}{go:bB}{rt:Nat->List Nat}{T:Int}{d0:Option hx}{bs:pa}
def alE(R:∀d∈ds,d.Ok hs.Z)(H:lg kvs ds.Z)(df:Jy hs ds kvs)(S5:ay.Z<=100)(O:qr hs ds kvs ay sss go rt)(q:Option hx)(o:∀b,q=j3 b->b.1<T){P:pa}(w:∀k,(∀b,k=j3 b->b.1<=T)->rY hs ds ay (gO hs ds kvs ay T go sss) k P fin):
  rY hs ds ay sss q (nC ds kvs ay T go sss++P) fin:=by
 let b6:=(O.za H).2;let g:∀(f:bB)(k:Option hx)(a:dF),f.Pairwise (· < ·)->(∀r∈f,r∈sQ ds.length (gN sss) (e_ kvs ay sss) T go)->(∀b,k=j3 b->b.1<T\/(b.1=T/\∀r∈f,b.2<r))->a.Z=sss.Z->(∀C∈a,C≠[])->
   (∀n,(∃r∈f,n∈(j6 ds (gN sss) (e_ kvs ay sss) T go r).2)->gE a n=gE sss n)->pC hs ds (f.map (j6 ds (gN sss) (e_ kvs ay sss) T go)) a=gO hs ds kvs ay T go sss->rY hs ds ay a k (f.map (j6 ds (gN sss) (e_ kvs ay sss) T go)++P) fin:=by
  intro f
  induction f with
  |nil=>
   intro k a _ _ h _ _ _ t;let t:a=gO hs ds kvs ay T go sss:=t;rw[t];show-w k λb e=>by
    rcases h b e with z|z
    .lia
    lia
  |cons r f D=>
   intro k a L sub h y B same t;rw[P6]at L;let A:=sub r (.head _);let K:r<ds.Z/\fT (gN sss) (e_ kvs ay sss) T go r≠[]:=by unfold sQ at A;let#[j,s]:=hH.mp A;show#[kF.mp j,λz=>?_];rw[z]at s;cases s
   let Z:ds.getD r qy=ds[r]:=by rw[dB,cQ K.1];rfl
   let I:1<=kX ds r:=by unfold kX;rw[Z];exact(R _ (nZ K.1)).m.1
   let X:∀n∈(j6 ds (gN sss) (e_ kvs ay sss) T go r).2,gE a n=gE sss n:=λn c=>same n #[r,.head _,c];let lt:∀n∈(j6 ds (gN sss) (e_ kvs ay sss) T go r).2,n<a.Z:=λn c=>by rw[y,O.len];show-O.lt n (ub c).1
   show-.cons #[Ŏ I K.2,4,4,K.1,4,ZZ (Pr O.aA _),lt,λn c=>?_] (D (j3 (T,r)) _ L.2 (λl m=>sub l (.tail _ m)) (λb e=>?_) ?_ ?_ (λn c=>?_) t)
   .let j:=q1 (ō (ds:=ds) (due:=gN sss) (rd:=e_ kvs ay sss) (T:=T) O.aA r) (λn c=>(kF.mpr (O.lt n (ub c).1):n∈dY ay.Z));rw[jg]at j
    lia
   .unfold Ÿ;cases k with
    |none=>trivial
    |some b=>
     rcases h b rfl with z|z
     .exact .inl z
     show-.inr #[z.1,z.2 r (.head _)]
   .show(((j6 ds (gN sss) (e_ kvs ay sss) T go r).2.Z:Nat):Int)<=kX ds r;unfold j6 FH;rw[(Dh _).length_eq,aM,jh]
    lia
   .let p:=ub c;let V:a[n]?=j3 (a.getD n []):=xh (lt n c);let#[i,gW]:=M7 (B _ (dm V));let#[Q,fY,_,M,N,6]:=(O.way n p.1).way (O.on n p.1);let G:e_ kvs ay sss n=Q:=by unfold e_;rw[N];rfl
    let E:(gE sss n).gC=rA hs ds r:=by rw[<-p.2.2,G];exact(df _ _ _ N).symm
    show#[i,gE a n,hA ay n,4,xh (O.lt n p.1),4]
    .rw[V];congr 1
    rw[X n c];show x' (gE sss n) (hA ay n) (rA hs ds r) T=q4;let J:(gE sss n).due<=T:=p.2.1;unfold x';rw[<-E];simp[M,J]
   .cases e;exact .inr #[2,λl m=>L.1 l m]
   .rwa[DH]
   .intro C U;let#[i,x]:=nY U;rw[t2]at x;let#[Y,F,2]:=e6.mp x;have:=B Y (dm F);split
    .simp
    show-this
   let#[l,m,u]:=c;rw[ahz (λz=>?_)]
   .exact same n #[l,.tail _ m,u]
   let V:=(ub z).2.2;let N:=(ub u).2.2;have:=L.1 l m
   lia
 unfold nC xH;exact g _ q sss (P8.filter _) (λr A=>A) (λb e=>.inl (o b e)) rfl O.ne (λn _=>rfl) rfl
theorem á(R:∀d∈ds,d.Ok hs.Z)(b:lg kvs ds.Z)(df:Jy hs ds kvs)(c:ay.Z<=100):∀(m:Nat)(T:Int)(go:bB)(sss:dF)(rt:Nat->List Nat)(k:Option hx),qr hs ds kvs ay sss go rt->(∀a,k=j3 a->a.1<=T)->rY hs ds ay sss k (lM hs ds kvs ay m T go sss) (pC hs ds (lM hs ds kvs ay m T go sss) sss)
 |0,T,go,sss,rt,k,_,_=>.nil
 |m+1,T,go,sss,rt,k,O,h=>by
  unfold lM;by_cases f:go=[]
  .rw[a' f];show-.nil
  rw[a4 f];let n:T<nextT T go sss:=by unfold nextT;lia
  let e:∀P,pC hs ds (nC ds kvs ay (nextT T go sss) go sss++P) sss=pC hs ds P (gO hs ds kvs ay (nextT T go sss) go sss):=λP=>ahO ..;rw[e];show-alE R b df c O k (λa e=>by have:=h a e;lia) λg l=>á R b df c m _ _ _ _ g (O.step R b) l
def alF(a:bB):(a.map λn:Nat=>(n:Int)).map tu=a:=by rw[ek];exact(rP λn _=>jf n).trans (uN _)
theorem Ţ{m:Int}:∀{b:bB}{a:Int},b.Pairwise (· < ·)->(∀n∈b,a<(n:Int)/\(n:Int)<m)->oV m a (b.map λn:Nat=>(n:Int))=q4
 |[],_,_,_=>rfl
 |n::r,a,e,h=>by rw[e7];unfold oV;rw[a' (h n (.head _))];rw[P6]at e;show-Ţ e.2 λx c=>#[by have:=e.1 x c;lia,(h x (.tail _ c)).2]
def QY.axC{b:hx×List Nat}(ok:QY hs ds ay sss d0 b):rz hs ds ay sss (FU d0) (lO b)=jp:=by
 unfold rz;let t:(b.2.map λn:Nat=>(n:Int))≠[]:=λz=>ok.ne (Bk.mp z);rw[a' (show ql (lO b)=q4 from akb t),J1];unfold FP;let o:BU (FU d0) b.1.1 (b.1.2:Int)=q9:=by
  let o:=ok.ord;cases d0 with
  |none=>rfl
  |some k=>
   let o:k.1<b.1.1\/(k.1=b.1.1/\k.2<b.1.2):=o;show(if b.1.1=k.1 then decide ((b.1.2:Int)<=(k.2:Int))else decide (b.1.1<=k.1))=q9;split
   .exact c9 qI
   show-c9 qI
 let w:=ok.rd;let m:¬¬((0:Int)<=(b.1.2:Int)/\(b.1.2:Int)<ds.Z):=λz=>z #[9,9];let f:=ok.room;let l:¬kX ds ((b.1.2:Int)).toNat < ((b.2.map λn:Nat=>(n:Int)).Z:Int):=by
  rw[jf,aM]
  lia
 let p:oV sss.length (-1) (b.2.map λn:Nat=>(n:Int))=q4:=Ţ ok.M9 λn a=>#[9,by have:=ok.lt n a;lia]
 let r:(b.2.map λn:Nat=>(n:Int)).all (pU hs ds ay sss b.1.1 (b.1.2:Int))=q4:=by
  rw[PS,tv];intro n a;let#[A,s,y,d,c,g]:=ok.wy n a;show x' (pU.zz sss (n:Int).toNat) (ay.getD (n:Int).toNat n7) (rA hs ds (b.1.2:Int).toNat) b.1.1=q4;rw[jf,jf,kV c];have:pU.zz sss n=s:=by unfold pU.zz;rw[kV d];simp
  rwa[this]
 show(if BU (FU d0) b.1.1 (b.1.2:Int)=q4 then _ else _)=jp;rw[a4 (by rw[o];simp),a4 m,a4 l,a4 (by rw[p];simp),a4 (by rw[r];simp)]
def rY.walk(w:rY hs ds ay sss d0 bs mid):∀p:Nat,kt hs ds ay (FU d0) sss p (bs.map lO)=.inr mid:=by
 induction w with
 |nil=>intro p;rfl
 |@cons sss d0 b bs mid ok t h=>
  intro p;show(match rz hs ds ay sss (FU d0) (lO b)with|some e=>kk (p,e)|none=>kt hs ds ay (j3 (yg (lO b))) (rC hs ds (lO b) sss) (p+1) (bs.map lO))=_;rw[ok.axC];let c:yg (lO b)=(b.1.1,(b.1.2:Int)):=by unfold yg;rw[J1]
  let a:rC hs ds (lO b) sss=lG (stepK hs ds b.1) b.2 sss:=by unfold rC;rw[J1];show lG (stepK hs ds (b.1.1,((b.1.2:Int)).toNat)) ((b.2.map λn:Nat=>(n:Int)).map tu) sss=_;rw[alF,jf]
  show kt hs ds ay (j3 (yg (lO b))) (rC hs ds (lO b) sss) (p+1) (bs.map lO)=_;rw[c,a];show-h (p+1)
def rY.all(w:rY hs ds ay sss d0 bs mid):∀b∈bs,b.2≠[]/\b.1.2<ds.Z/\b.2.Pairwise (· < ·)/\∀i∈b.2,i<sss.Z:=by
 induction w with
 |nil=>exactλ_ h=>nomatch h
 |@cons sss d0 b bs mid ok t e=>
  intro c a;rcases et.mp a with rfl|a
  .show#[ok.ne,ok.rd,ok.M9,ok.lt]
  let h:=e c a;rwa[DH]at h
theorem YO(R:∀d∈ds,d.Ok hs.Z)(f:lg kvs ds.Z):∀(m:Nat)(T:Int)(go:bB)(sss:dF)(rt:Nat->List Nat),qr hs ds kvs ay sss go rt->∀M:Int,T<=M->(∀n∈go,gN sss n<=M)->∀b∈lM hs ds kvs ay m T go sss,b.1.1<=M+10*m
 |0,_,_,_,_,_,_,_,_,b,af=>nomatch af
 |m+1,T,go,sss,rt,O,M,e,hd,b,af=>by
  unfold lM at af;by_cases a:go=[]
  .rw[a' a]at af;show-bt af dU
  rw[a4 a]at af;let l:=(O.za f).2;let w:nextT T go sss<=M+1:=by
   let#[n,c,K]:=OQ (T:=T) (sss:=sss) a;let A:=(Jv (ns:=go.map (gN sss)) (by intro z;rw[Bk]at z;show-a z)).2 (gN sss n) (bQ.mpr #[n,c,2]);have:=hd n c;unfold nextT
   lia
  rcases gU.mp af with h|h
  .unfold nC xH at h;let#[r,1]:=bQ.mp h;show nextT T go sss<=_
   lia
  have:=YO R f m (nextT T go sss) _ _ _ (O.step (T:=nextT T go sss) R f) (M+10) qI (λn c=>?_) b h
  .lia
  let g:=(hH.mp c).1;let t:n<sss.Z:=by rw[O.len];show-O.lt n g
  let p:=NQ (hs:=hs) (T:=nextT T go sss) l t;unfold gN;rw[p];split
  .show nextT T go sss+nG ds (e_ kvs ay sss n)<=_;let k:=l n g;have:nG ds (e_ kvs ay sss n)<=9:=by unfold nG;rw[show ds.getD (e_ kvs ay sss n) qy=ds[e_ kvs ay sss n] by rw[dB,cQ k];rfl];exact(R _ (nZ k)).t.2
   lia
  have:=hd n g;unfold gN at this
  lia
theorem â:∀(m:Nat)(T:Int)(go:bB)(sss:dF),∀b∈lM hs ds kvs ay m T go sss,T<b.1.1
 |0,_,_,_,_,h=>nomatch h
 |m+1,T,go,sss,b,h=>by
  unfold lM at h;split at h
  .exact nomatch h
  let a:T<nextT T go sss:=by unfold nextT;lia
  rcases gU.mp h with h|h
  .unfold nC xH at h;let#[r,1]:=bQ.mp h;show-a
  have:=â m _ _ _ b h
  lia
theorem Z7{N:Nat}:∀P:List (hx×List Nat),(∀b∈P,∃n∈b.2,n<N)->P.Z<=((dY N).map λn=>(gone P n).Z).sum
 |[],_=>eu _
 |b::P,h=>by
  let p:=Z7 P λc m=>h c (.tail _ m);let#[a,g,k]:=h b (.head _);let d:∀l:List Nat,(l.map λn=>(gone P n).Z).sum+(if a∈l then 1 else 0)<=(l.map λn=>(gone (b::P) n).Z).sum:=λl=>by
   induction l with
   |nil=>show-b7 _
   |cons n l i=>
    rw[e7,e7,mx,mx];let e:(gone (b::P) n).Z=(if n∈b.2 then 1 else 0)+(gone P n).Z:=by
     unfold gone;rw[tx];by_cases z:n∈b.2
     .rw[a' z,a' (cw z),e7,ej]
      lia
     rw[a4 z,a4 (by rw[c9 z];decide)]
     lia
    rw[e];by_cases z:a=n
    .subst z;rw[a' (.head _),a' g];split at i<;>lia
    let f:(a∈n::l)↔a∈l:=by rw[et];show#[λy=>y.resolve_left z,.inr]
    simp only[f]
    lia
  have:=d (dY N);rw[a' (kF.mpr k)]at this;rw[ej]
  lia
end
structure asu(hs:bb)(ds:b0)(bh:kl)(bs:pa):Prop where
 jc:∃fin,kt hs ds (bh.map λd=>d.2.2) jp (bh.map kS) 0 (bs.map lO)=.inr fin
 bX:bs.Z<=7*bh.Z
 each:∀b∈bs,b.2≠[]/\b.1.2<ds.Z/\b.2.Z<=bh.Z/\(∀i∈b.2,i<bh.Z)/\0<=b.1.1/\b.1.1<=2000013000
def akg{c:bb}{ds:b0}{kvs:eo}(R:∀d∈ds,d.Ok c.Z)(l:lg kvs ds.Z)(df:Jy c ds kvs)(s:c.Z<=7){a:kl}(q:a.Z<=40)(p:∀d∈a,d.1∈c.map S/\d.2.2∈c.map S/\d.1≠d.2.2/\d.2.1<=2000000000):asu c ds a (ry c ds kvs a):=by
 let#[rt,O,e,V]:=YJ (kvs:=kvs) R l qI (show a.Z<=100 by lia) λd t=>#[(p d t).1,(p d t).2.1,(p d t).2.2.1]
 let K:=á R l df (by rw[aM];lia) 1300 (-1) _ _ rt jp O (λ_ h=>nomatch h);let all:=K.all;show#[#[_,K.walk 0],4,λb f=>?_]
 .let k:=Z7 (N:=a.Z) (ry c ds kvs a) λb f=>by let#[k,6,g]:=all b f;let#[i,m]:=E3 _ k;have:=g i m;rw[aM]at this;show#[i,m,this]
  let r:=Ah (λn=>(gone (ry c ds kvs a) n).Z) 7 (dY a.Z) λn _=>by
   let o:gone (ry c ds kvs a) n=_:=Z4 R l 1300 (-1) _ _ rt O e n;rw[o];have:=V n;split
   .lia
   show-eu _
  rw[jg]at r
  lia
 let#[k,r,L,g]:=all b f;rw[aM]at g;let A:=q1 (L.imp λh=>e8 h) λi m=>kF.mpr (g i m);rw[jg]at A;let lo:=â _ _ _ _ b f;show#[k,r,A,g,9,4];have:=YO R l 1300 (-1) _ _ rt O 2000000000 x8 (λn j=>?_) b f
 .lia
 let w:=kF.mp (hH.mp j).1;unfold gN gE;rw[NR (d:=om) w];exact(p _ (getD_mem' w)).2.2.2
end dP
namespace b4
open PySem PySem.Spec PyProof.Rows aq
structure rH(prog:cq)(w:bW)(i l:Addr)(S:Nat->Heap->Prop)(xs:lY):Prop where
 ext:∀{k:Nat}{h h':Heap},S k h->(∀o,h.get? i=j3 o->h'.get? i=j3 o)->(∀o,h.get? l=j3 o->h'.get? l=j3 o)->S k h'
 lt:∀{k:Nat}{h:Heap},S k h->i<h.Y
 item:∀{A:ee}{E:cC}{s:aS}{k:Nat}{x:Value}{Q:cC},S k s.Q->xs[k]?=j3 x->(∀h',S (k+1) h'->jT i s.heap h'->Q x {s with heap:=h'})->aO (ba prog w) A (vP (.ref i)) Q E s
 stop:∀{A:ee}{E:cC}{s:aS}{k:Nat}{Q:cC},A.handled=jp->S k s.Q->xs[k]?=jp->(∀h' e,Py i s.heap h'->(∃o,h'.get? e=j3 o/\o.cls=.type "StopIteration")->E (.ref e) {s with heap:=h'})->aO (ba prog w) A (vP (.ref i)) Q E s
theorem Z8(t:l≠i):rH prog w i l (λk h=>h.IsListIter i l k/\h.IsList l xs) xs where
 ext:=λ⟨a,b⟩f g=>#[a.at λo e=>f o e,let⟨o,e,r⟩:=b;#[o,g o e,r]]
 lt:=λ⟨⟨_,e,_⟩,_⟩=>dE e
 item:=λ⟨a,b⟩c q=>wpAny_nextOf_list_item a b c λp m d=>q p #[m,b.extBut d.extBut t] d
 stop:=λn⟨a,b⟩c q=>wpAny_nextOf_list_end n a b c q
section
variable{prog:cq}{w:bW}
def aoS{E:cC}{s:aS}{t:Addr}{i:Nat}{a:lY}{Q:cC}(b:EW s.heap it t i)(k:o5 s.heap t a)(f:a[i]?=j3 x)(l:∀d,EW d it t (i+1)->jT it s.heap d->Q x {s with heap:=d}):aO (ba prog w) A (vP (.ref it)) Q E s:=by let#[o,aW,g,c]:=id b;let#[ol,m,_,p,n]:=k;unfold vP;show-ax (xB (name:=cU "__next__") b.typeIs Wo (nP Wo b.typeIs atL ?_ (as6 _)));change aO _ _ (va (.ref it) 0 >>=_) _ _ s;show-ax (kb aW c (x:=.ref t) rfl ?_);change aO _ _ (if(cM t==fW)=q4 then _ else _) _ _ s;rw[a4 (λz:(cM t==fW)=q4=>gZ z)];change aO _ _ (va (.ref it) 1 >>=_) _ _ s;show-ax (kb aW c (x:=.int i 0) rfl ?_);change aO _ _ (Nx (.ref t) >>=_) _ _ s;show-ax (vK m n ?_);simp only[jf,f];show-ax (Ek aW c xg (bk #[x,2,bk (l _ #[_,xT _ aW (è (Fs c _)),(aiL ..).trans g,4] (Ba ..))]));rw[Fs c];simp[mU]
def amN{A:ee}{E:cC}{s:aS}{t:Addr}{i:Nat}{b:lY}{Q:cC}(g:A.handled=jp)(c:EW s.heap it t i)(l:o5 s.heap t b)(k:b[i]?=jp)(n:∀d e,Py it s.heap d->(∃o,d.get? e=j3 o/\o.cls=.type "StopIteration")->E (.ref e) {s with heap:=d}):aO (ba prog w) A (vP (.ref it)) Q E s:=by
 let#[o,aW,K,f]:=id c;let#[ol,p,_,L,r]:=l;unfold vP;show-ax (xB (name:=cU "__next__") c.typeIs Wo (nP Wo c.typeIs atL ?_ (as6 _)));change aO _ _ (va (.ref it) 0 >>=_) _ _ s;show-ax (kb aW f (x:=.ref t) rfl ?_);change aO _ _ (if(cM t==fW)=q4 then _ else _) _ _ s;rw[a4 (λz:(cM t==fW)=q4=>gZ z)];change aO _ _ (va (.ref it) 1 >>=_) _ _ s;show-ax (kb aW f (x:=.int i 0) rfl ?_);change aO _ _ (Nx (.ref t) >>=_) _ _ s;show-ax (vK p r ?_);simp only[jf,k];show-ax (vJ (ax (Ek aW f xg ?_)));change aO _ _ (Hy (.type "StopIteration") [] >>=_) _ _ _;show-ax ?_;simp only[Hy,newTuple];show-ax (pW (ax (m:=Gl _ _) (IE (a:=fW) (by first|rfl|(simp only[Gl];rfl)) (pW ?_ (by size_fits)))) (by size_fits));simp only[raiseNew];show-ax (aeV ?_)
 first|rw[show A.in1.handled=jp from g]|rw[g]
 show-ax (bk (Xk (n _ _ (((Ba ..).extBut.push _).push _) #[_,gJ _ rfl,2])))
theorem amO{t:Addr}(L:t≠i):rH prog w i t (λk h=>EW h i t k/\o5 h t xs) xs where
 ext:=λ⟨⟨o,e,r⟩,⟨f,g,p⟩⟩l m=>#[#[o,l o e,r],#[f,m f g,p]]
 lt:=λ⟨⟨_,e,_⟩,_⟩=>dE e
 item:=λ⟨a,b⟩c q=>aoS a b c λK n d=>q K #[n,let⟨o,e,r⟩:=b;#[o,d.extBut _ _ L e,r]] d
 stop:=λA⟨a,b⟩c q=>amN A a b c q
variable{A:ee}{E:cC}{s:aS}{z eV f6 fv gr eg eC:Addr}{rV yD:Nat->Heap->Prop}{xs ys:lY}{k1 k2:Nat}{a b:Value}
def rH.out{S:Nat->Heap->Prop}{k:Nat}(D:rH prog w i l S dX)(st:S k h)(d:jT c h j)(g:i≠c)(f:l≠c):S k j:=(D.ext st (λo e=>d.extBut _ _ g e) λo e=>d.extBut _ _ f e)
def amP{Q:cC}(Z:Q8 z eV f6 fv gr eg eC)(k:rH prog w fv eg rV xs)(g:rH prog w gr eC yD ys)(r:nX s.heap z eV f6 .none)(l8:jU s.heap eV (.ref fv) (.ref gr))(nt:jU s.heap f6 a b)(ai:rV k1 s.Q)(ak:yD k2 s.Q)(ar:xs[k1]?=j3 x)(cd:ys[k2]?=j3 y)(dh:∀f,nX f z eV f6 (mU s.L)->jU f f6 x y->rV (k1+1) f->yD (k2+1) f->jU f s.heap.objs.size x y->(∀c o,c≠z->c≠f6->c≠fv->c≠gr->s.heap.get? c=j3 o->f.get? c=j3 o)->Q (.ref s.L) {s with heap:=f}):
  aO (ba prog w) A (Builtin.«zip.__next__» #[[.ref z],[]]) (λC s'=>∃v,C=.done (.ret v)/\Q v s') E s:=by
 change aO _ _ (va (.ref z) 2 >>=_) _ _ _;show-ax (kb r rfl (x:=.bool q9) rfl ?_);change aO _ _ (va (.ref z) 3 >>=_) _ _ _;show-ax (kb r rfl (x:=.ref eV) rfl (ax (vK l8 rfl ?_)));change aO _ _ (O0 (.ref z) >>=_) _ _ _;show-ax ?_;unfold O0;show-ax (kb r rfl (x:=.none) rfl (bk ?_));simp only[if_true];show-ax (vJ (ax (kb r rfl (x:=.ref f6) rfl (ax (vL r xg λg1 q t=>ax ?_)))));let q:nX g1 z eV f6 .ellipsis:=q;simp only[ah5,ah7,JH,σ];show-ax (ax (ae2 ?_));change aO _ _ (vP (.ref fv) >>=_) _ _ _;show-ax (k.item (k.out ai t Z.i1z Z.l1z) ar λg2 gc K=>bk ?_);let J:jU g2 f6 a b:=K.extBut _ _ Z.TOi1 (t.extBut _ _ Z.TOz nt);show-ax (vK J rfl (ax (ayY J λg3 G L=>ax (Ax (bk ?_)))));let G:jU g3 f6 x b:=G;show-ax (ax (ae2 ?_));change aO _ _ (vP (.ref gr) >>=_) _ _ _;show-ax (g.item (g.out (g.out (g.out ak t Z.i2z Z.l2z) K Z.i12.symm Z.l2i1) L Z.TOi2.symm Z.l2TO) cd λq0 fu m=>bk ?_);let T:jU q0 f6 x b:=m.extBut _ _ Z.TOi2 G;show-ax (vK T rfl (ax (ayY T λd j p=>ax (Ax (bk (bk ?_))))));let j:jU d f6 x y:=j;show-ax (vK j rfl (ax (ae0 ?_)));let P:d.Y=s.L:=by rw[p.1,m.1,L.1,K.1,t.1]
 let I:nX d z eV f6 .ellipsis:=p.extBut _ _ Z.TOz.symm (m.extBut _ _ Z.i2z.symm (L.extBut _ _ Z.TOz.symm (K.extBut _ _ Z.i1z.symm q)));let F:∀c o,c≠z->c≠f6->c≠fv->c≠gr->s.heap.get? c=j3 o->d.get? c=j3 o:=λc o i V D H e=>p.extBut _ _ V (m.extBut _ _ H (L.extBut _ _ V (K.extBut _ _ D (t.extBut _ _ i e))));let Y:rV (k1+1) d:=k.out (k.out (k.out gc L Z.TOi1.symm Z.l1TO) m Z.i12 Z.l1i2) p Z.TOi1.symm Z.l1TO;let X:yD (k2+1) d:=g.out fu p Z.TOi2.symm Z.l2TO;let R:z<d.Y:=dE I;change aO _ _ (afN (.ref z) (.ref d.Y) >>=_) _ _ _;show-ax ?_;unfold afN;let dc:nX (d.push {cls:=.type "tuple",data:=.seq (List.toArray [x,y])}) z eV f6 .ellipsis:=dO _ I;show-ax (vL dc xg λu B M=>?_);let B:nX u z eV f6 (mU d.Y):=B;show-vL B xg λN h O=>?_;let h:nX N z eV f6 (mU d.Y):=h;let l:∀c o,c≠z->d.get? c=j3 o->N.get? c=j3 o:=λc o n e=>O.extBut _ _ n (M.extBut _ _ n (dO _ e));let U:jU N d.objs.size x y:=O.extBut _ _ (wb R) (M.extBut _ _ (wb R) (gJ _ rfl));rw[P]at h U;show-bk #[1,4];change Q (.ref d.Y) _;rw[P];show-dh N h (l _ _ Z.TOz j) (k.ext Y (λo e=>l _ o Z.i1z e) λo e=>l _ o Z.l1z e) (g.ext X (λo e=>l _ o Z.i2z e) λo e=>l _ o Z.l2z e) U λc o i V D H e=>l c o i (F c o i V D H e)
def aoT{Q:Fin->aS->Prop}(h:A.handled=jp)(Z:Q8 z eV f6 fv gr eg eC)(p:rH prog w fv eg rV xs)(f:nX s.heap z eV f6 .none)(C:jU s.heap eV (.ref fv) (.ref gr))(F:jU s.heap f6 a b)(N:rV k1 s.Q)(V:xs[k1]?=jp)(i:∀l e,(∀c o,c≠z->c≠fv->s.heap.get? c=j3 o->l.get? c=j3 o)->(∃o,l.get? e=j3 o/\o.cls=.type "StopIteration")->E (.ref e) {s with heap:=l}):
  aO (ba prog w) A (Builtin.«zip.__next__» #[[.ref z],[]]) Q E s:=by
 change aO _ _ (va (.ref z) 2 >>=_) _ _ _;show-ax (kb f rfl (x:=.bool q9) rfl ?_);change aO _ _ (va (.ref z) 3 >>=_) _ _ _;show-ax (kb f rfl (x:=.ref eV) rfl (ax (vK C rfl ?_)));change aO _ _ (O0 (.ref z) >>=_) _ _ _;show-ax ?_;unfold O0;show-ax (kb f rfl (x:=.none) rfl (bk ?_));simp only[if_true];show-ax (vJ (ax (kb f rfl (x:=.ref f6) rfl (ax (vL f xg λj k r=>ax ?_)))));let k:nX j z eV f6 .ellipsis:=k;simp only[ah5,ah7,JH,σ];show-ax (ax (ae2 ?_));change aO _ _ (vP (.ref fv) >>=_) _ _ _;show-ax (p.stop h (p.out N r Z.i1z Z.l1z) V λq e t y=>?_);let#[D,g,d]:=y;let m:nX q z eV f6 .ellipsis:=t _ _ Z.i1z.symm k;let L:e≠z:=λx=>by subst x;rw[m]at g;cases g;simp at d
 show-vL m xg λu _ K=>i u e (λc o n B x=>K.extBut _ _ n (t _ _ B (r.extBut _ _ n x))) #[D,K.extBut _ _ L g,d]
def amQ{Q:Option Value->aS->Prop}(Z:Q8 z eV f6 fv gr eg eC)(h:rH prog w fv eg rV xs)(V:rH prog w gr eC yD ys)(g:nX s.heap z eV f6 .none)(e:jU s.heap eV (.ref fv) (.ref gr))(j:jU s.heap f6 a b)(p:rV k1 s.Q)(r:yD k2 s.Q)(t:xs[k1]?=j3 x)(K:ys[k2]?=j3 y)(L:∀d,nX d z eV f6 (mU s.L)->jU d f6 x y->rV (k1+1) d->yD (k2+1) d->jU d s.heap.objs.size x y->(∀c o,c≠z->c≠f6->c≠fv->c≠gr->s.heap.get? c=j3 o->d.get? c=j3 o)->Q (j3 (.ref s.L)) {s with heap:=d}):
  aO (ba prog w) A (ky (.ref z)) Q E s:=by
 let k:s.TypeIs (.ref z) "zip":=#[_,g,2]
 unfold ky;show-ax (Au (xB (name:=cU "__next__") k F.slot_zip_next (nP F.slot_zip_next k F.entry_zip_next
   (amP Z h V g e j p r t K λd m n N i l f=>bk (L d m n N i l f)) (F.args_zip_next_1 _))))
def amR{Q:Option Value->aS->Prop}(r:A.handled=jp)(Z:Q8 z eV f6 fv gr eg eC)(L:rH prog w fv eg rV xs)(f:nX s.heap z eV f6 .none)(K:jU s.heap eV (.ref fv) (.ref gr))(N:jU s.heap f6 a b)(l:rV k1 s.Q)(m:xs[k1]?=jp)(p:∀d,(∀c o,c≠z->c≠fv->s.heap.get? c=j3 o->d.get? c=j3 o)->Q jp {s with heap:=d}):aO (ba prog w) A (ky (.ref z)) Q E s:=by
 let g:s.TypeIs (.ref z) "zip":=#[_,f,2]
 unfold ky;show-ax (Au (xB (name:=cU "__next__") g F.slot_zip_next (nP F.slot_zip_next g F.entry_zip_next (aoT r Z L f K N l m λd e k t=>?_) (F.args_zip_next_1 _))));let#[o,aW,n]:=t;show-ax (Xh (T:="StopIteration") (b:=q4) #[o,aW,n] adi (bk (p _ k)))
abbrev IU(t:Addr):Obj:={cls:=.type "tuple_iterator",data:=.fields (List.toArray [.ref t,.int 0 0])}
abbrev azc(l:Addr):Obj:={cls:=.type "list_iterator",data:=.fields (List.toArray [.ref l,.int 0 0])}
abbrev IQ(h:Heap)(t l:Addr):Heap:=(h.push (IU t)).push (azc l)
abbrev IS(h:Heap)(t l:Addr):Heap:=(IQ h t l).push {cls:=.type "tuple",data:=.seq (List.toArray [.ref h.Y,.ref (h.push (IU t)).objs.size])}
abbrev IT(h:Heap)(t l:Addr):Heap:=(IS h t l).push {cls:=.type "tuple",data:=.seq (List.toArray [.none,.none])}
abbrev Ez(h:Heap)(t l:Addr):Heap:=(IT h t l).push {cls:=.type "zip",data:=.fields (List.toArray [.none,.bool q9,.bool q9,.ref (IQ h t l).objs.size,.ref (IS h t l).objs.size])}
end
theorem aoU(t l:Addr)(m n:lY):
  Meets (Builtin.«zip.__new__» #[[.type "zip",.ref t,.ref l],[]]) (λ_ R s=>o5 s.heap t m/\s.heap.IsList l n/\R (.ok (.ret (.ref (IT s.heap t l).objs.size))) {s with heap:=Ez s.heap t l}):=
 .of_wp λk w A R s h=>by
  let#[f,g,d,c,os]:=s;let#[p,r,h]:=h;let K:=sub_zip;let a:o5 (Shared.heap #[f,g,d,c,os]) t m:=p;let b:Heap.IsList (Shared.heap #[f.push (IU t),g,d,c,os]) l n:=Heap.IsList.push r _
  wp_walk using iter_tuple a,Ej b
  show#[1,h]
section
variable{prog:cq}{w:bW}{A:ee}{E:cC}{s:aS}
def akh{t:Addr}{Q:cC}(N:o5 s.heap t xs)(V:s.heap.IsList l i)(h:∀a,nX a (s.L+4) (s.L+2) (s.L+3) .none->jU a (s.L+2) (.ref s.L) (.ref (s.L+1))->
   jU a (s.L+3) .none .none->EW a s.heap.objs.size t 0->a.IsListIter (s.L+1) l 0->(∀c o,s.heap.get? c=j3 o->a.get? c=j3 o)->Q (.ref (s.L+4)) {s with heap:=a}):
  aO (ba prog w) A (call (.type "zip") [.ref t,.ref l]) Q E s:=by
 show-callType_new F.called_zip x8 (F.typeCall_zip_2 _ _) (F.newCall_zip_2 _ _) (λm=>F.args_object_init_3 m _ _) F.entry_zip_new (aoU t l xs i) #[N,V,4];let f:(s.heap.push (IU t)).objs.size=s.L+1:=uM ..;let d:(IQ s.heap t l).objs.size=s.L+2:=by rw[uM,f]
 let g:(IS s.heap t l).objs.size=s.L+3:=by rw[uM,d]
 let n:(IT s.heap t l).objs.size=s.L+4:=by rw[uM,g]
 let b:=λ{c:Addr}{o:Obj}(e:(IT s.heap t l).get? c=j3 o)=>dO {cls:=.type "zip",data:=.fields (List.toArray [.none,.bool q9,.bool q9,.ref (IQ s.heap t l).objs.size,.ref (IS s.heap t l).objs.size])} e;let k:(Ez s.heap t l).get? (IT s.heap t l).objs.size=j3 _:=gJ _ rfl;let K:(Ez s.heap t l).get? (IS s.heap t l).objs.size=j3 _:=b (gJ _ rfl);let r:(Ez s.heap t l).get? (IQ s.heap t l).objs.size=j3 _:=b (dO _ (gJ _ rfl));let p:(Ez s.heap t l).get? (s.heap.push (IU t)).objs.size=j3 _:=b (dO _ (dO _ (gJ _ rfl)));let L:(Ez s.heap t l).get? s.L=j3 _:=b (dO _ (dO _ (dO _ (gJ _ rfl))));show _/\_;rw[d,g,n]at k;rw[f,d]at r;rw[g]at K;rw[f]at p;rw[n];show#[#[_,k,2],h _ k r K #[_,L,2,2] #[_,p,2,2] λc o x=>b (dO _ (dO _ (dO _ (dO _ x))))]
abbrev AE(n:Nat):List Addr:=[n+4,n+2,n+3,n,n+1]
def EF{n b:Nat}:b∈AE n↔b=n+4\/b=n+2\/b=n+3\/b=n\/b=n+1:=by simp[AE]
def amS:iW "zip"=j3 (.type "zip"):=by left
def yE(t:Bool)(K:aL)(H:ag)(a:Addr)(b:aV):Prop:=match t with
 |true=>cj K H a b
 |false=>aI K H a b
def vZ(t:Bool)(h:Heap)(n l i:Nat):Prop:=match t with
 |true=>EW h n l i
 |false=>h.IsListIter n l i
def EE(t:Bool)(h:Heap)(l:Addr)(a:lY):Prop:=match t with
 |true=>o5 h l a
 |false=>h.IsList l a
def vZ.ext{t:Bool}{h a:Heap}{n l i:Nat}(q:vZ t h n l i)(k:∀o,h.get? n=j3 o->a.get? n=j3 o):vZ t a n l i:=by
 cases t
 .exact Heap.IsListIter.at q k
 let#[o,e,r]:=q;show#[o,k o e,r]
def vZ.obj{t:Bool}{h:Heap}{n l i:Nat}(q:vZ t h n l i):∃o,h.get? n=j3 o/\∀v,o.data≠.cell v:=by
 cases t
 .let#[o,e,_,d]:=q;show#[o,e,λv z=>by rw[d]at z;cases z]
 let#[o,e,_,d]:=q;show#[o,e,λv z=>by rw[d]at z;cases z]
def EE.lt{t:Bool}{h:Heap}(q:EE t h l xs):l<h.Y:=by
 cases t
 .let#[_,e,_]:=q;show-dE e
 let#[_,e,_]:=q;show-dE e
end
def aaN(t:Bool)(a:l≠i):rH prog w i l (λk h=>vZ t h i l k/\EE t h l xs) xs:=by
 cases t
 .exact Z8 a
 show-amO a
def Rt{X:bA}{t:Bool}{s:aS}(I:Inv X pins e H s)(h:yE t X.K H a xs):∃b:List Value,cI xs b/\EE t s.heap a b.toArray:=by
 cases t
 .let#[b,r,p,_]:=I.list h;show#[b,r,p.isList]
 let#[b,r,p,_]:=I.tuple h;show#[b,r,p]
def asv{X:bA}{t:Bool}{b:aV}(I:Inv X pins e H s)(h:yE t X.K H a xs)(g:yE t X.K H a b):xs=b:=by
 cases t
 .exact I.Mo h g
 show-I.aeB h g
def aki{E:cC}{s:aS}{t:Addr}{Q:cC}(b:EE cN s.heap t xs)(d:s.heap.IsList l e)(h:∀a,nX a (s.L+4) (s.L+2) (s.L+3) .none->jU a (s.L+2) (.ref s.L) (.ref (s.L+1))->
   jU a (s.L+3) .none .none->vZ cN a s.heap.objs.size t 0->a.IsListIter (s.L+1) l 0->(∀c o,s.heap.get? c=j3 o->a.get? c=j3 o)->Q (.ref (s.L+4)) {s with heap:=a}):
  aO (ba prog w) A (call (.type "zip") [.ref t,.ref l]) Q E s:=by
 cases cN
 .exact call_zip_2 b d λa b1 k m n f _ g=>h a b1 k m n f g
 show-akh b d h
structure FT(t:Bool)(n eg eC:Nat)(i:Nat)(f0:Value)(h:Heap):Prop where
 hz:nX h (n+4) (n+2) (n+3) f0
 l8:jU h (n+2) (.ref n) (.ref (n+1))
 nt:∃a b,jU h (n+3) a b
 ai:vZ t h n eg i
 ak:h.IsListIter (n+1) eC i
def FT.keep{t:Bool}{n d c:Nat}{i:Nat}{h f:Heap}(z:FT t n d c i f0 h)(k:∀b∈AE n,∀o,h.get? b=j3 o->f.get? b=j3 o):FT t n d c i f0 f:=by let#[m,p,#[a,b,r],g,l]:=z;show#[k _ xg _ m,k _ xg _ p,#[a,b,k _ xg _ r],g.ext λo e=>k _ xg o e,l.at λo e=>k _ xg o e]
def JC(t:Bool)(K:aL)(a b:Nat):fF:=
 #[λi H=>∃c d x y,yE t K H a c/\aI K H b d/\c[i]?=j3 x/\d[i]?=j3 y,
 λi H u H'=>∃p x y,H p=jp/\u=.ref p/\(∀c,yE t K H a c->c[i]?=j3 x)/\(∀d,aI K H b d->d[i]?=j3 y)/\H'=upd H p (.tup [x,y]),
 λi H=>∃c d,yE t K H a c/\aI K H b d/\c.Z<=i]
def alG(t:Bool){K:aL}{k:Nat}(n a b:Nat)(u:a<n)(G:b<n):
  Turn P w K (.Tuple elts k pos) (JC t K a b) (AE n) (n+4) (λi h=>FT t n a b i .none h)where
 mem:=by simp
 obj:=λi h st d f=>by
  let#[D,r,#[ck,tb,L],A,#[oK,aC,fH,fu]]:=st;rcases EF.mp f with rfl|rfl|rfl|rfl|rfl
  .show#[_,D,λv z=>by
    let j:O7 _=ER v:=z;cases j]
  .show#[_,r,λv z=>by
    let j:Data.seq _=ER v:=z;cases j]
  .show#[_,L,λv z=>by
    let j:Data.seq _=ER v:=z;cases j]
  .exact A.obj
  show#[oK,aC,λv z=>by rw[fu]at z;cases z]
 keep:=λi h h' st c4=>st.keep c4
 item:=by
  intro X gI hw gd m i g s J H E I B st Z;subst gI hw gd;let#[xs,ys,x,y,LU,F,O,C]:=Z;let#[av4,M,dk]:=Rt I LU;let#[sC,V6,dI,_]:=I.list F;let#[fa,Uk,U]:=M.get O;let#[gT,Ul,Y]:=V6.get C;let#[D,r,#[ck,tb,L],A,g2]:=id st;show-amQ (zipApart_new u G) (aaN t (e8 u)) (Z8 (e8 (wa G))) D r L #[A,dk] #[g2,dI.isList] (x:=fa) (y:=gT) (by simpa using Uk) (by simpa using Ul) λai b1 dg n' rZ jJ aN=>#[1,4]
  let n':=n'.1;let rZ:=rZ.1;show-wpAny_letOwnedTupleGo_zip (s:={s with heap:=ai}) b1 λV L8 l=>?_;let l:jT (n+4) ai V:=l;let hn:H s.L=jp:=I.fresh;let sX:∀d o,d∉AE n->s.heap.get? d=j3 o->V.get? d=j3 o:=λd o f q=>by let f:=λz=>f (EF.mpr z);exact(l.2 d (λz=>f (.inl z))).trans (aN d o (λz=>f (.inl z)) (λz=>f (.inr (.inr (.inl z)))) (λz=>f (.inr (.inr (.inr (.inl z))))) (λz=>f (.inr (.inr (.inr (.inr z))))) q)
  let N:n+4<s.L:=dE D;let zd:V.get? s.L=j3 {cls:=.type "tuple",data:=.seq (List.toArray [fa,gT])}:=(l.2 _ (wb N)).trans jJ;let xp:FT t n a b (i+1) .none V:=#[L8,(l.2 _ (by show @Ne Nat _ _;lia)).trans (aN _ _ (by show @Ne Nat _ _;lia) (by show @Ne Nat _ _;lia) (by show @Ne Nat _ _;lia) (by show @Ne Nat _ _;lia) r),#[6,(l.2 _ (by show @Ne Nat _ _;lia)).trans dg],n'.ext λo q=>(l.2 _ (by show @Ne Nat _ _;lia)).trans q,rZ.at λo q=>(l.2 _ (by show @Ne Nat _ _;lia)).trans q]
  show#[.ref s.L,upd H s.heap.objs.size (.tup [x,y]),4,2,#[s.L,x,y,hn,2,(λys C=>by rwa[asv I C LU]),(λOy Uu=>by rwa[I.Mo Uu F]),2],xp,λd f=>?_]
  .show Inv X g J (upd H s.heap.objs.size (.tup [x,y])) {s with heap:=V,gens:=s.gens,drawn:=s.drawn,toks:=s.toks};show-XU I B sX zd (.cons U (.cons Y .nil))
  let dl:d≠s.L:=λz=>by
   let R:d<s.L:=by
    rcases EF.mp f with rfl|rfl|rfl|rfl|rfl
    .exact N
    .exact dE r
    .exact dE L
    .let#[_,q,_]:=A.obj;show-dE q
    let#[_,q,_]:=g2;show-dE q
   show-bt z (e8 R)
  rw[aR dl];exact(B d f).1
 done:=by
  intro X gI hw gd m i g s J H E I B st Z;subst gI hw gd;let#[xs,ys,bf,F,O]:=Z;let#[its,cA,p]:=Rt I bf;let#[sC,V6,dI,_]:=I.list F;let au:=cA.Z;let#[T,r,#[ck,tb,L],A,g2]:=id st;show-amR (I.ok.hd m) (zipApart_new u G) (aaN t (e8 u)) T r L #[A,p] (by simp;lia) λh' Q=>#[2,4]
  let dW:∀c o,c∉AE n->s.heap.get? c=j3 o->h'.get? c=j3 o:=λc o m e=>by let m:=λz=>m (EF.mpr z);show-Q c o (λz=>m (.inl z)) (λz=>m (.inr (.inr (.inr (.inl z))))) e
  show Inv X g J H {s with heap:=h',gens:=s.gens,drawn:=s.drawn,toks:=s.toks};exact alM I B dW
 self:=λ_ _ _ _ _ st h=>ayW st.hz h
section
variable{X:bA}{elts:hy}{k:Nat}{z9:Pos}
def asw(t:Bool)(K:aL)(g:gb):eV:=λf H R=>g f H λl c=>∃a b,l=[.ref a,.ref b]/\(∃d,yE t K c a d)/\(∃d,aI K c b d)/\R (JC t K a b) c
def ţ{t:Bool}{f:Expr}{m:gb}{p:Pos}(C:jd X "zip")(hm:X.mg "zip"=jp)(u:fN X [i,f] m)(M:dM [i,f] X.env=(q9,eval i X.env)::dM [f] X.env:=by rfl)(d3:(hr pos (dM [f] X.env)).any (·.1)=q9:=by rfl):
  m6 X (.Tuple elts k z9) (.Call (.Name "zip" p) [i,f] [] pos) (asw t X.K m):=by
 intro l s x H R I h;show-Call_ (Ab I C hm amS (Qm (bL (u pos l s x H _ I h) λus c O=>?_) M d3));let#[vs,A,g,F,B]:=O;let#[a,b,e,#[xs,K],#[ys,T],q]:=B;subst e;cases F with
 |cons r j=>
  cases j with
  |cons E j=>
   cases j;cases r;cases E;let#[z,y,w]:=Rt g K;let#[sC,Y,n,U]:=g.list T;let N:a<c.L:=w.lt;let V:b<c.L:=by let#[_,e,_]:=n.isList;show-dE e
   show-aki w n.isList λZ b1 G P Q L D=>?_;show-ayW b1 ?_;show#[c.L+4,AE c.L,6,A,2,g.kept (t':=c.toks) λb o e=>D b o e,alG t _ a b N V,#[b1,G,#[6,P],Q,L],λd J=>?_,q];let le:c.L<=d:=by rcases EF.mp J with rfl|rfl|rfl|rfl|rfl<;>first|exact b7 _|show-Qa _ _
   show-g.tN le (g.bu.fresh le)
abbrev agG(K:aL)(a b:Nat):fF:=JC q9 K a b
abbrev PC(K:aL)(a b:Nat):fF:=JC q4 K a b
end
def alH{K:aL}{a b:Nat}{xs ys:aV}{g:kK}{n:fo}{D:Ends}{H:ag}(z:ys.Z=xs.Z)(d:Nat->aq.St->ag->Prop)(N:d 0 c H)(L:∀i c H,d i c H->aI K H a xs/\aI K H b ys)(o:∀i x y c H p,xs[i]?=j3 x->ys[i]?=j3 y->d i c H->H p=jp->g (.ref p) c (upd H p (.tup [x,y])) λq t=>n {D with cX:=d (i+1),fI:=d (i+1),jk:=D.cX} q t)(j:∀c H,d xs.length c H->D.cX c H):
  xC (agG K a b) g n D c H:=by
 show#[λi m c H=>m=xs.Z-i/\i<=xs.Z/\d i c H,#[xs.Z,by simp,eu _,N],4];rintro i m c H ⟨rfl,B,p⟩;let#[f,k]:=L i c H p;by_cases l:i<xs.Z
 .refine .inr #[#[xs,ys,xs[i],ys[i],f,k,by simp[l],cQ qI],d (i+1),λs H' h=>#[xs.Z-(i+1),9,2,l,h],λu H' y=>?_];let#[r,x,y,w,2,A,V,2]:=y;show-o i x y c H r (A xs f) (V ys k) p w
 let e:i=xs.Z:=by lia
 subst e;show-.inl #[#[xs,ys,f,k,b7 _],j c H p]
end b4
namespace dP
open PySem aq b4
inductive ag1(H1:ag)(D:Addr)(rest:aq.St)(us:aV)(i m:Nat)(zs:aV)(aa:aq.St)(H:ag):Prop where
 |mk(o cF:ji)(_:m=us.Z-i)(_:i<=us.Z)(_:zs=us.take i)(_:aa=o::cF::rest)(_:aD H1 H)(_:H D=j3 (.lst zs))
def alI{K:aL}{wi:eV}{a b:Nat}{d g f:aV}{c:aq.St}{A:TE}{Q:aX}{H1:ag}(T:∀R:fF->ag->Prop,R (PC K a b) H1->wi j H R)(O:hX cs j=jp::jp::c)(C:cj K H1 a d)(E:aI K H1 b g)(F:d.Z<sizeLine)(Z:g.Z=d.Z)(U:f.Z=d.Z)(L:∀(i:Nat)(x y u:aq.V)(l:ag)(R:aX),d[i]?=j3 x->g[i]?=j3 y->f[i]?=j3 u->aD H1 l->(∀w,aD l w->R u w)->A (j3 x::j3 y::c) l R)(N:∀(D:Addr)(H':ag),H1 D=jp->H' D=j3 (.lst f)->aD H1 H'->Q (.ref D) H'):
  kD wi cs (vS K 2 (qt (hW 0) (qt (hW 1) x4))) pR A j H Q:=by
 show-T _ λD bR=>?_;show#[ag1 H1 D c f,#[f.Z,#[jp,jp,by simp,eu _,by simp,O,bT bR,aQ]],4];rintro i m zs X H' ⟨o,Y,rfl,hi,rfl,rfl,k,p⟩;let V:cj K H' a d:=b4.aD.tup k C;let t:aI K H' b g:=k.seq E;show#[p,p6 (by rw[jh];lia) F,4];by_cases G:i<d.Z
 .let M:d[i]?=j3 d[i]:=cQ G;let J:g[i]?=j3 (g[i]'(by lia)):=cQ qI;let z:f[i]?=j3 (f[i]'(by lia)):=cQ qI;show-.inr #[#[d,g,6,V,t,M,J],λx l y=>?_];let#[q,r,n,I,2,P,B,2]:=y;let h:aD H' (upd H' q (.tup [r,n])):=bT I;show#[q,1,cj.of aQ,2,#[_,1,#[3,4]]];show A (j3 r::j3 n::c) _ _;show-L i r n _ _ _ (P d V) (B g t) z (k.trans h) λw s=>#[s _ _ (h _ _ p),f.Z-(i+1),9,j3 r,j3 n,2,9,4,2,hq bR ((k.trans h).trans s),aQ]
  rw[p5,z];rfl
 let e:i=f.Z:=by lia
 subst e;rw[n1]at p;show-.inl #[#[d,g,V,t,9],N D H' bR p k]
theorem alu{K:aL}{wi:eV}{a:Nat}{xs ys us:aV}{rest:aq.St}{l:TE}{Q:aX}{H:ag}(s:∀R:fF->ag->Prop,(∀p H1,H p=jp->aD H H1->H1 p=j3 (.lst ys)->R (PC K a p) H1)->wi j H R)(q:hX cs j=jp::jp::rest)(r:cj K H a xs)(t:xs.Z<sizeLine)(N:ys.Z=xs.Z)(n:us.Z=xs.Z)(f:∀(i:Nat)(x y u:aq.V)(b:ag)(R:aX),xs[i]?=j3 x->ys[i]?=j3 y->us[i]?=j3 u->aD H b->(∀k,aD b k->R u k)->l (j3 x::j3 y::rest) b R)(g:∀(D:Addr)(H':ag),H D=jp->H' D=j3 (.lst us)->aD H H'->Q (.ref D) H'):
  kD wi cs (vS K 2 (qt (hW 0) (qt (hW 1) x4))) pR l j H Q:=
 s _ λp H1 B c w=>alI (wi:=λ_ _ R=>R (PC K a p) H1) (H:=H) (H1:=H1) (λ_ h=>h) q (b4.aD.tup c r) (aI.of w) t N n (λi x y u b R V L z d A=>f i x y u b R V L z (c.trans d) A) λD H' m bR d=>g D H' (by
  cases e:H D with
  |none=>rfl
  |some o=>rw[c _ _ e]at m;cases m) bR (c.trans d)
end dP
namespace b4
open PySem PySem.Spec PyProof.Rows aq
inductive aoV(cs:Addr->fx->Prop)(v:V)(R:fx->Prop):Prop where
 |mk(f:Addr)(sp:fx)(_:v=.ref f)(_:cs f sp)(_:R sp)
def apc(f:Addr->fx->Prop)(E:bM)(c:TE)(t:gb):TE:=λa H Q=>c a H λv b=>aoV f v λg=>t a b λk d=>g (k++[]) d Q E
inductive WF(P:cq)(w:bW)(K:aL)(mg:b5)(base:Heap)(CX:o4)(k:Nat)(f:Addr)(sp:fx):Prop where
 |mk(fd:m3)(ps:bE)(_:-aH CX k f fd ps sp)(_:Binds K fd ps [])(_:mC K (.ref f)=q4)
section
variable{X:bA}{CX:o4}{k:Nat}{cs:Addr->fx->Prop}{E:bM}{Lg e:Expr}{es:hy}{NH:TE}{t:gb}{pos:Pos}
def Z9(V:bq X Lg NH)(x:∀f b,cs f b->WF X.prog X.w X.K X.mg X.base CX k f b)(K:gD k X.A)(L:nx CX X E)(p:fN X (e::es) t)(N:eval (.Call Lg (e::es) [] pos) X.env=(do yQ pos (<-eval Lg X.env) [] (hr pos (dM (e::es) X.env)) (od pos (oH [] X.env))):=by rfl)(y:dM (e::es) X.env=(q9,eval e X.env)::dM es X.env:=by rfl)(d3:(hr pos (dM es X.env)).any (·.1)=q9:=by rfl):
  bq X (.Call Lg (e::es) [] pos) (apc cs E NH t):=by intro a s l H Q I h;rw[N];show-ax (bL (V a s l H _ I h) λu z d=>?_);let#[v,n,g,j,f,b,o,c,q]:=d;subst o;obtain rfl:u=cM f:=j;let#[C,D,F,A,w]:=x f b c;show-yB (h₀:=X.base) g.ok.mod.sJ w (bL (p pos a z l n _ g q) λJ G d=>?_) y d3;let#[M,B,m,r,i]:=d;show#[m.eN,Jd F K A .nil L m r i]
end
inductive TopD(w:bW)(K:aL)(a:Addr):Prop where
 |mk(es:Array pY)(n:Nat)(_:K.lookup a=j3 ⟨.type "dict",jp,.dict es n,#[]⟩)(_:ai3 w.params es.G)(_:(a==kY)=q9)
inductive asx(w:bW)(K:aL)(neg:Bool)(y x:V)(H:ag)(Q:aX):Prop where
 |mk(k:Str)(a:Addr)(r:B2)(_:y=.str k)(_:x=.ref a)(_:TopD w K a)(_:iK K a k=j3 r)(_:Q (.bo (cond neg (!r.isSome) r.isSome)) H)
inductive ap5(w:bW)(K:aL)(x y:V)(H:ag)(Q:aX):Prop where
 |mk(k:Str)(a f:Addr)(_:y=.str k)(_:x=.ref a)(_:TopD w K a)(_:iK K a k=j3 (j3 (.ref f)))(_:Q (.ref f) H)
def aaO(w:bW)(K:aL)(a:Bool)(ty f:TE):TE:=λb H Q=>ty b H λy c=>f b c λx d=>asx w K a y x d Q
def ap6(w:bW)(K:aL)(d ty:TE):TE:=λa H Q=>d a H λx b=>ty a b λy c=>ap5 w K x y c Q
section
variable{X:bA}{o i:Expr}{pos:Pos}{eS ty:TE}
def apd(q:bq X i ty)(aW:bq X o eS):Ft X .In i o (aaO X.w X.K q9 ty eS):=by
 intro b s d H Q I h;show-bL (q b s d H _ I h) λz B c=>?_;let#[y,l,p,N,A]:=c;show-bL (aW b B d l _ p A) λu D c=>?_;let#[x,w,g,K,k,a,r,V,j,#[C,n,f,m,lo],e,L]:=c;subst V j;obtain rfl:u=cM a:=K;let#[t,2]:=(show∃t,z=wk k t from N)
 show-wpAny_in_of (aet X.prog X.w k t) lo (Ĕ (prog:=X.prog) g.eN f m) ?_;rw[ď f e];show#[.bo _,w,g.tok _,2,L]
def akj(q:bq X i ty)(aW:bq X o eS):Ft X .NotIn i o (aaO X.w X.K q4 ty eS):=by
 intro b s d H Q I h;show-bL (q b s d H _ I h) λz B c=>?_;let#[y,l,p,N,A]:=c;show-bL (aW b B d l _ p A) λu D c=>?_;let#[x,w,g,K,k,a,r,V,j,#[C,n,f,m,lo],e,L]:=c;subst V j;obtain rfl:u=cM a:=K;let#[t,2]:=(show∃t,z=wk k t from N)
 show-ayU (aet X.prog X.w k t) lo (Ĕ (prog:=X.prog) g.eN f m) ?_;rw[ď f e];show#[.bo _,w,g.tok _,2,L]
def ã(aW:bq X o eS)(q:bq X i ty)(z:Rd i):bq X (.Subscript o i pos) (ap6 X.w X.K eS ty):=by
 intro b s d H Q I h;show-Μ aiX.lookup z (bL (aW b s d H _ I h) λu C c=>?_);let#[x,m,r,K,A]:=c;show-bL (q b C d m _ r A) λB E c=>?_;let#[y,w,l,N,k,a,f,V,j,#[D,n,g,p,lo],e,L]:=c;subst V j;obtain rfl:u=cM a:=K;let#[t,2]:=(show∃t,B=wk k t from N)
 let hm:=Ĕ (prog:=X.prog) l.eN g p;show#[hm.typeIs,ayN (aet X.prog X.w k t) hm (ď g e) #[.ref f,w,l.tok _,2,L]]
end
end b4
namespace dP
open PySem aq b4
inductive fO where
 |t|n|r
def adc:Str:=cU "-"
def fO.rd:fO->Str->aq.V->Prop
 |.t,w,v=>v=.str w
 |.n,w,v=>∃m:Nat,m<10 ^ 10/\w=S (ct m)/\v=.int (m:Int)
 |.r,w,v=>(w=adc/\v=.cf)\/∃m:Nat,m<10 ^ 10/\w=S (ct m)/\v=.int (m:Int)
inductive tE:List fO->List Str->List aq.V->Prop
 |nil:tE [] [] []
 |cons{k:fO}{w:Str}{v:aq.V}{dX:List fO}{ws:bE}{vs:aV}(_:k.rd w v)(_:tE dX ws vs):tE (k::dX) (w::ws) (v::vs)
def tE.len{a:List fO}{c:bE}{b:aV}(h:tE a c b):c.Z=a.Z/\b.Z=a.Z:=by
 induction h with
 |nil=>show#[2,2]
 |cons _ _ e=>show#[by rw[ej,ej,e.1],by rw[ej,ej,e.2]]
def tE.get{d:List fO}{g:bE}{f:aV}(h:tE d g f):∀{i:Nat}{k:fO}{w:Str}{v:aq.V},d[i]?=j3 k->g[i]?=j3 w->f[i]?=j3 v->k.rd w v:=by
 induction h with
 |nil=>intro i k w v e;exact nomatch e
 |cons h _ j=>
  intro i k w v b a c;cases i with
  |zero=>cases b;cases a;cases c;show-h
  |succ i=>show-j b a c
section
variable{P:cq}{w:bW}{K:aL}{mg:b5}{base:Heap}
inductive RE(vs:aV)(H:ag)(Q:aX)(E:bM):Prop where
 |mk(v:aq.V)(_:vs=[v])(_:Q v H)
abbrev V8:Stmt:=top 88
def asy:cJ jV jV (b_ V8):=({})
def ape{f:Addr}(F:cp K "as_text" "as_text" V8 f fd):-aH a9 1 f fd jV RE:=by show-F.ok asy (λ_ A _ s H b Q E a h=>?_);let#[v,2,q]:=h;show#[_,(a_ (cc (ae 0))),1,q]
inductive Ku(vs:aV)(H:ag)(Q:aX)(E:bM):Prop where
 |mk(m:Nat)(_:vs=[.str (S (ct m))])(_:m<10 ^ 10)(_:∀H',aD H H'->Q (.int (m:Int)) H')
abbrev Na:Stmt:=top 89
def asz:cJ jV jV (b_ Na):=({})
def QU:fx:=λa H Q _=>∃m:Nat,a=[.str (S (ct m))]/\m<10 ^ 10/\∀H',aD H H'->Q (.bo q4) H'
abbrev aaP:Stmt:=top 18
def apf{f:Addr}(F:cp K "as_number" "as_number" Na f fd)(B:fc mg)(d:bU K mg "is_written_number" aaP kg f1 e)(a:-aH a9 1 f1 e kg QU):-aH a9 2 f fd jV Ku:=by
 show-F.ok asz (λ_ A _ s H k Q E b h=>?_);let#[m,2,hm,q]:=h;show#[_,(a7 (er (j2 (kp (c2 a d b.mono b9 (aj (ae 0) aw)))) (a_ zN) eB)
  (a_ (cc (hS YM B.int Ew (aj (ae 0) aw))))),4]
 ac_rfl
 let g:=ma hm;show#[1,m,2,hm,λH' c=>#[1,iN #[1,_,1,Ob hm,by rw[ew];lia,q H' c]]]
inductive QV(vs:aV)(H:ag)(Q:aX)(E:bM):Prop where
 |mk(z:Str)(v:aq.V)(_:vs=[.str z])(_:fO.r.rd z v)(_:∀H',aD H H'->Q v H')
abbrev RF:Stmt:=top 91
def ap7:cJ jV jV (b_ RF):=({})
theorem ah9(m:Nat):S (ct m)≠adc:=λz=>by
 let e:adc=S [45]:=by left
 rw[e]at z;let a:ct m=[45]:=by have:=fe (λx:Str=>x.cps.G) z;simpa using this
 have:=l_ (m:=m) (c:=45) (by rw[a];show-.head _)
 lia
def apg{f:Addr}(F:cp K "as_road_or_none" "as_road_or_none" RF f fd)(d:bU K mg "as_number" Na jV f1 e)(a:-aH a9 2 f1 e jV Ku):-aH a9 3 f fd jV QV:=by
 show-F.ok ap7 (λ_ A _ s H g Q E b h=>?_);let#[z,v,2,c,q]:=h;show#[_,(a7 (er (fQ nB (ae 0) cz (eK _)) (a_ (cc iZ)) eB)
  (a_ (cc (c2 a d b.mono b9 (aj (ae 0) aw))))),4]
 ac_rfl
 rcases c with⟨rfl,rfl⟩|⟨m,hm,rfl,rfl⟩
 .show#[1,7,d1 (cw rfl) (q H (aD.refl _))]
 show#[1,7,eM (c9 λy=>ah9 m (V.str.inj y)) #[1,m,2,hm,q]]
end
inductive jo(K:aL)(cb:Addr)(kw:Str)(fs:bS):Prop where
 |mk(aP:Addr)(dd:Option Addr)(n:Nat)(bK:lX)(_:iK K cb kw=j3 (j3 (.ref aP)))(_:K.lookup aP=j3 ⟨.type "tuple",dd,.seq (fs.map cM).toArray n,bK⟩)
structure lV where
 (t n r:Addr)
def lV.f(R:lV):fO->Addr
 |.t=>R.t
 |.n=>R.n
 |.r=>R.r
inductive FD(R:lV):Addr->fx->Prop
 |t:FD R R.t RE
 |n:FD R R.n Ku
 |r:FD R R.r QV
theorem HT:∀a:List Addr,cI (aT a) (a.map cM)
 |[]=>.nil
 |_::a=>.cons rfl (HT a)
def alv(x:aq.V)(a:aV):gg (x::a) (j3 1) jp=a:=by unfold gg;let g:eD.dD (x::a).length 0 (j3 ((1:Nat):Int))=min 1 (x::a).Z:=eD.D1 _ _ 1;rw[show(j3 (1:Int))=j3 ((1:Nat):Int)from rfl,g,eD.Ng,ej,Bz qI];show(a.take (a.Z+1-1))=a;rw[Nat.add_sub_cancel,n1]
section
variable{P:cq}{w:bW}{K:aL}{mg:b5}{base:Heap}
def ml(a:bE):List aq.V:=a.map V.str
inductive aac(K:aL)(R:lV)(cb:Addr)(vs:aV)(H:ag)(Q:aX)(E:bM):Prop where
 |mk(a:Addr)(kw:Str)(ws:bE)(dX:List fO)(us:aV)(_:vs=[.ref a])(_:H a=j3 (.lst (ml (kw::ws))))(_:jo K cb kw (dX.map R.f))(_:tE dX ws us)(_:dX.Z<=10)(_:∀l H',H l=jp->aD H H'->H' l=j3 (.lst us)->Q (.ref l) H')
abbrev Kv:Stmt:=top 94
def aae:cJ ["words","form"] ["words"] (b_ Kv):=({})
def aph{f:Addr}{R:lV}(F:cp K "values_of" "values_of" Kv f fd)(B:fc mg)(O:mg "FORMS"=j3 (.ref e))(M:TopD w K e)(fX:∀g sp,FD R g sp->WF P w K mg base a9 3 g sp):-aH a9 4 f fd ["words"] (aac K R e):=by
 show-F.ok aae (λ_ A _ s H vs Q E ao h=>?_);let#[a,c,N,b,us,2,L,#[l,dd,n,bK,X,ow],rd,CS,q]:=h;show#[_,(a7 (er (PE (akj (cn fG (ae 0) a8) (ny O))) (a_ zN) eB)
  (a7 (cE 1 aae.aA (ã (ny O) (cn fG (ae 0) a8) (λ_ _=>rfl)))
  (a7 (er (fQ AF (br Ae (dp hI B.len g_ (aj (ae 0) aw)) a8) (dp hI B.len g_ (aj (ae 1) aw)) (eK _)) (a_ zN) eB)
  (a_ (cc (mc (N':=["read","word"]) (cs:=[jp,jp]) rfl (ţ (t:=q4) rfl B.zip (aj (ae 1) (aj (mG qh (ae 0) (kn a8) mJ) aw))) rfl xL rfl xL (ia (λp az=>bt az (dU))) rfl
   (.own (.own .nil))
   (λC s3 a5 bY da=>#[(It (K:=K) (n:=2) rfl rfl (iX (dV 0 (by show(["read","word"]:bE).Nodup;decide+kernel)) (iX (dV 1 (by show(["read","word"]:bE).Nodup;decide+kernel)) sM))),jm,(Z9 (ae 0) fX ao.mono b9 (aj (ae 1) aw))]))))))),4]
 ac_rfl
 let#[Z,U1]:=rd.len;let o:∀{T:ag},cj K T l (aT (b.map R.f)):=λ{T}=>.inr #[6,_,ow,2,2,by simp;show-dQ CS x8,HT _];let yJ:aq.hp (ml (c::N)) 0=j3 (.str c):=jG (j:=0) rfl;show#[1,a,_,3,aI.of L,yJ,c,e,1,2,M,X,1,eM rfl ?_];show#[1,a,_,3,aI.of L,yJ,c,e,l,2,2,M,X,4];show#[1,a,1,.inl (aI.of L),3,1,l,1,.inr o,7,4];let le:(ml (c::N)).Z=b.Z+1:=by unfold ml;rw[aM,ej,Z]
 let Y:(aT (b.map R.f)).Z=b.Z:=by rw[eW,aM]
 show-eM (show(!decide (V.int (((ml (c::N)).Z:Int)-1)=V.int ((aT (b.map R.f)).Z:Int)))=q9 by rw[le,Y,cw (by congr 1;lia)];rfl) ?_;dsimp only[uk,uy];refine alu (K:=K) (a:=l) (xs:=aT (b.map R.f)) (ys:=ml N) (us:=us) (rest:=[]) (λRr h=>#[5,1,a,1,aI.of L,λp np=>#[l,p,2,#[_,o],#[_,aI.of aQ],h p _ np (bT np) (by rw[aQ];congr 2;show-alv _ _)]]) rfl o (el qI) (by rw[Y];unfold ml;rw[aM,Z]) qI (λi x y u ah Rr J I l3 U G=>?_) (λD H' hL bR U=>q D H' hL U bR);unfold aT at J;rw[ek,cR]at J;let#[k,d7,2]:=e6.mp J;unfold ml at I;rw[cR]at I;let#[z,fy,2]:=e6.mp I;let d:=rd.get d7 fy l3;cases k with
 |t=>
  let d:u=.str z:=d;subst d;show#[1,R.t,RE,2,.t,5,G ah (aD.refl _)]
 |n=>
  let#[m,hm,2,2]:=d;show#[1,R.n,Ku,2,.n,1,m,2,hm,G]
 |r=>show#[1,R.r,QV,2,.r,1,z,u,2,d,G]
end
end dP
namespace b4
open PySem PySem.Spec PyProof.Rows aq
inductive alw(x:aq.V)(xs:aV)(H:ag)(Q:aX):Prop where
 |mk(z y:Str)(_:x=.str z)(_:xs=[.str y])(_:Q (.bo (QG z y)) H)
def akk:Bw X "str.startswith" alw:=by intro a s c H x g v f Q I b rs h;let#[z,y,2,2,q]:=h;let#[t,2]:=b;let#[u,2,d,2]:=vals1 rs;show-SC.startswith #[.bo _,H,I,2,q]
end b4
namespace dP
open PySem aq b4
structure BV(ps:bb):Prop where
 ne:ps≠[]
 bX:ps.Z<=6
 ok:∀p∈ps,32∉p/\p≠[]/\p.Z<=20/\∀c∈p,c<256
 uc:QG (S (cK [32] ps)) (cU "check ")=q9
theorem Ex{y:bB}{c:Nat}:∀{a:bb},c∈cK y a->c∈y\/∃p∈a,c∈p
 |[],h=>nomatch h
 |[p],h=>.inr #[p,.head _,h]
 |p::q::r,h=>by
  rcases gU.mp h with h|h
  .rcases gU.mp h with h|h
   .exact .inr #[p,.head _,h]
   show-.inl h
  rcases Ex h with h|⟨e,ai,ak⟩
  .exact .inl h
  show-.inr #[e,.tail _ ai,ak]
theorem ä(y:bB)(k:Nat):∀a:List bB,(∀p∈a,p.Z<=k)->(cK y a).Z<=a.Z*(k+y.Z)
 |[],_=>eu _
 |[p],h=>by
  have:=h p (.head _);show p.Z<=1*(k+y.Z)
  lia
 |p::q::r,h=>by
  let f:=h p (.head _);let b:=ä y k (q::r) λc d=>h c (.tail _ d);show(p++y++cK y (q::r)).Z<=(r.Z+1+1)*(k+y.Z);rw[c0,c0,Fq];rw[ej]at b
  lia
def BV.split{d:bb}(h:BV d):n9 (S (cK [32] d)) (cU " ")=d.map S:=by
 let e:cU " "=S [32]:=by left
 rw[e];show-WT h.ne (λp b=>(h.ok p b).1) (λc a=>?_) (λc a=>?_)
 .rcases Ex a with z|⟨p,b,z⟩
  .rw[e4.mp z];decide
  exact(h.ok p b).2.2.2 c z
 rw[e4.mp a];decide
def BV.len(h:BV e):(cK [32] e).Z<=126:=by
 let d:=ä [32] 20 e λp b=>(h.ok p b).2.2.1;let a:=h.bX;let c:e.Z*(20+[32].Z)<=6*21:=Fp a (b7 _)
 lia
def lu:List Nat:=[99,104,101,99,107,32]
def EH:List Nat:=[99,104,101,99,107]
inductive Kw:Str->List Str->Prop
 |pl(ps:bb)(_:BV ps):Kw (S (cK [32] ps)) (ps.map S)
 |km(l:bB)(_:l.Z<=50000):Kw (S (lu++l)) [S EH,S l]
def EJ:cU "check "=S lu:=by left
def api(l:bB):th (S (lu++l)) (j3 ((6:Nat):Int)) jp=S l:=by
 unfold th;let f:eD.dD (S (lu++l)).cps.size 0 (j3 ((6:Nat):Int))=6:=by
  rw[eD.D1];have:(S (lu++l)).cps.size=l.Z+6:=by
   show(S (lu++l)).Z=_;rw[ew,c0];show 6+l.Z=_
   lia
  rw[this]
  lia
 rw[f,eD.Ng];show(⟨(ah3 ((lu++l).Z-6) l).toArray⟩:Str)=_;rw[o6 (by rw[c0];show l.Z<=6+l.Z-6;lia)]
section
variable{P:cq}{w:bW}{K:aL}{mg:b5}{base:Heap}
inductive aaQ(vs:aV)(H:ag)(Q:aX)(E:bM):Prop where
 |mk(row:Str)(ws:bE)(_:vs=[.str row])(_:Kw row ws)(_:∀l,H l=jp->Q (.ref l) (upd H l (.lst (ml ws))))
abbrev Nv:Stmt:=top 93
def aaU:cJ ["row","words"] ["row"] (b_ Nv):=({})
def aqm{f:Addr}(F:cp K "words_of" "words_of" Nv f fd)(B:fc mg):-aH a9 1 f fd ["row"] aaQ:=by
 show-F.ok aaU (λ_ A _ s H C Q E u h=>?_);let#[o,D,2,ok,q]:=h;show#[_,(a7 (er (kp (i3 uS PySem.F.slot_str_startswith PySem.F.type_str_startswith akk (ae 0) (aj cz aw))) (a_ (cc (eY (aj cz (aj (mG ķ (ae 0) (kn (dp V1 B.len g_ (aj cz aw))) mJ) aw))))) eB)
  (a7 (cE 1 aaU.aA (i3 uS Ċ ċ OR (ae 0) (aj cz aw)))
  (a7 (er (fQ N0 cz (ae 1) xo) (a_ zN) eB)
  (a_ (cc (ae 1)))))),4]
 ac_rfl
 cases ok with
 |km l le=>
  show#[1,2,3,1,d1 (by rw[EJ,<-kU];show-aAl _ _) ?_];let L:(((cU "check ").Z:Nat):Int)=((6:Nat):Int):=by left
  show#[5,xL,5,(by rw[ew,c0];show 6+l.Z<=16777216;lia),4];let N:cU "check"=S EH:=by left
  rw[L,api,N];show#[sz_,q]
 |pl i ok=>
  let le:=ok.len;let q:=q;show#[1,2,3,1,eM ok.uc ?_];show#[1,2,3,xL,n2 (el (by rw[ew];lia)),λp j=>?_];rw[ok.split];let b:upd H p (.lst (ml (i.map S))) p=j3 (.lst (ml (i.map S))):=aQ;let a:=q p j;unfold ml at b a;let t:((i.map S).map V.str).all s7=q4:=HQ _;let no:q8 (.str (cU "")) ((i.map S).map V.str)=q9:=by
   unfold q8;rw[xO];intro z;let#[v,m,e]:=tw.mp z;let#[y,n,2]:=bQ.mp m;let#[x,d,2]:=bQ.mp n;let k:(S x==cU "")=q4:=e;let c:=eq_of_beq k;let r:(cU "").cps.G=[]:=by left
   let g:x=[]:=by have:=fe (λz:Str=>z.cps.G) c;rw[r]at this;simpa using this
   exact(ok.ok x d).2.1 g
  show#[1,p,1,.inl (aI.of b),2,t,1,eM no #[1,a]]
def sH{n:Nat}(h:n<10 ^ 10):((n:Int)).natAbs.log2<1920:=by
 rw[agz];by_cases a:n=0
 .subst a;decide
 have:n.log2<40:=(aiA a).mpr (By h x8)
 lia
def iE:Option Nat->List Nat
 |none=>[45]
 |some m=>ct m
def mm:Option Nat->aq.V
 |none=>.cf
 |some m=>.int (m:Int)
inductive RG(vs:aV)(H:ag)(Q:aX)(E:bM):Prop where
 |mk(o:Option Nat)(_:vs=[mm o])(_:∀m,o=j3 m->m<10 ^ 10)(_:Q (.str (S (iE o))) H)
abbrev H3:Stmt:=top 95
def asA:cJ o7 o7 (b_ H3):=({})
def aqn{f:Addr}(F:cp K "number_or_dash" "number_or_dash" H3 f fd)(B:fc mg):-aH a9 1 f fd o7 RG:=by
 show-F.ok asA (λ_ A _ s H b Q E a h=>?_);let#[o,2,hm,q]:=h;show#[_,(a_ (cc (ajX (fQ vy (ae 0) iZ (eK _)) cz (hS oh B.str mO (aj (ae 0) aw))))),4];cases o with
 |none=>
  let e:cU "-"=S (iE jp):=by left
  rw[e];show#[1,7,d1 (cw rfl) q]
 |some m=>
  show#[1,7,eM (c9 (by intro z;cases z)) #[1,(m:Int),2,sH (hm m rfl),4]];rwa[nz]
theorem OD{c:Type}(f:c->Nat)(k:Nat):∀l:List c,(∀a∈l,f a<=k)->(l.map f).sum<=l.Z*k
 |[],_=>eu _
 |a::l,h=>by
  let g:=h a (.head _);let m:=OD f k l λb d=>h b (.tail _ d);rw[e7,mx,ej,Fq]
  lia
def Z'{o:Option Nat}(h:∀m,o=j3 m->m<10 ^ 10):(iE o).Z<=10:=by
 cases o with
 |none=>show 1<=10;decide
 |some m=>show-ma (h m rfl)
inductive KL(K:aL)(vs:aV)(H:ag)(Q:aX)(E:bM):Prop where
 |mk(a:Addr)(ns:yG)(_:vs=[.ref a])(_:aI K H a (ns.map mm))(_:ns.Z<=40)(_:∀n∈ns,∀m,n=j3 m->m<10 ^ 10)(_:∀H',aD H H'->Q (.str (S (cK [32] (ns.map iE)))) H')
abbrev D6:Stmt:=top 96
def asB:cJ tA tA (b_ D6):=({})
def aqo{f:Addr}(F:cp K "with_blanks" "with_blanks" D6 f fd)(B:fc mg)(z:bU K mg "number_or_dash" H3 o7 f1 e)(r:-aH a9 1 f1 e o7 RG):-aH a9 2 f fd tA (KL K):=by
 show-F.ok asB (λ_ A _ s H Y Q E t h=>?_);let#[a,b,2,d,M,ok,q]:=h;show#[_,(a_ (cc (i3 uS Kg Kh Ir cz (aj (mc (N':=o7) (cs:=[jp]) rfl (h7 (ae 0)) rfl xL rfl xL (ia (λp c=>bt c (dU))) rfl
   (.own .nil)
   (λC X G O T=>#[(dV 0 (by show(o7:bE).Nodup;decide+kernel)),jm,(c2 r z t.mono b9 (aj (ae 0) aw))])) aw)))),4]
 ac_rfl
 let N:(b.map mm).Z=b.Z:=aM _;show#[2,4];dsimp only[kT];refine vu (J:=kE K a) (H1:=H) (xs:=b.map mm) (rest:=[]) (λR h=>#[1,a,2,#[_,d],h]) rfl (pB d) (el qI) (λi=>.str (S (iE (b.getD i jp)))) (λi v g R l I k=>?_) (λD g U bR o=>?_)
 .rw[cR]at l;let#[n,m,2]:=e6.mp l;have:=k g (aD.refl _);rw[dB,m]at this;show#[1,n,2,ok n (dm m),this]
 let y:(dY (b.map mm).Z).map (λi=>V.str (S (iE (b.getD i jp))))=((b.map iE).map S).map V.str:=by rw[N,range_getD (λn=>V.str (S (iE n))) jp b,ek,ek];rfl
 rw[y]at bR;let u:cU " "=S [32]:=by left
 rw[u];show#[S [32],D,(b.map iE).map S,2,2,aI.of bR,4,4]
 .have:=OD (λx:Str=>x.Z) 10 ((b.map iE).map S) λx L=>by let#[p,c,2]:=bQ.mp L;let#[n,j,2]:=bQ.mp c;rw[ew];show-Z' (ok n j)
  rw[aM,aM,ew]at *;simp only[ej,kf]
  lia
 rw[DY];show-q _ o
end
end dP
namespace b4
open PySem PySem.Spec PyProof.Rows aq
section
variable{P:cq}{w:bW}{K:aL}{mg:b5}{base:Heap}{N:bE}{qual:Str}{scope:Scope}{f:Addr}{cdv:Value}{A:ee}{outer:List Env}{s:aS}{H:ag}{E:bM}
def WP{E2:cC}(I:Inv (!eF) pins Y i sc)(T:kR P w (!eF).stack i sc h cls C H' B j)(G:E cls jp H'):
  aO (ba P w) (A.deeper (qW qual scope s.heap.objs.size f cdv)) (leaving (qW qual scope s.heap.objs.size f cdv) (.ref h)) (λ_ U=>fE P w outer H s E (.ref h) U) E2 j:=by
 refine ayP I.ok.frames rfl T.eQ λZ l O=>?_;let x:iv (fg (!eF).stack) [] i H' sc.heap j.Q:=T.un;let r:∀b o,s.heap.get? b=j3 o->b∉fg outer->∃c,B.get? b=j3 c/\(H b=jp->c=o):=λb o e a=>by let#[p,z]:=I.base.there b o e (by simp[eF,jR]);let#[c,m,q]:=T.jM b p z (zU I e a);show#[c,m,λn=>?_];let g:=I.base.keep b o e n a (by simp[eF,jR]);rw[z]at g;cases g;show-q (I.base.free b _ e n (by simp[eF,jR]))
 show#[h,cls,C,H',B,2,#[l,T.os.trans I.os,T.bare,T.ok,#[λb o e n a d=>?_,λb o e n a d=>?_,λb o e n d=>?_,λb o e d=>?_,λb y q=>T.un.hE b y (I.base.hE b y q),λb o u q=>T.un.i0 b o u (I.base.i0 b o u q),λb Q q=>?_],r],G]
 .let#[c,z,q]:=r b o e a;rw[q n]at z;show-l.1 b o z
 .let#[bK,z]:=I.base.slot b o e n a d;let t:b∈fg (!eF).stack:=by show b∈fg (_::outer);unfold fg;rw[E4];show-n0 _ a
  let#[X,g]:=x.slot b _ z (I.base.free b o e n d) t xg;let#[_,V,k,L]:=T.eQ.2.2.1.mem t;rw[g]at k;cases k;let#[R,m]:=O b _ g L;show#[R,m]
 .let#[p,z]:=I.base.there b o e d;exact x.free b p z (I.base.free b o e n d) xg
 .by_cases a:b∈fg outer
  .let#[_,V,k,L]:=l.2.2.1.mem a;show#[V,k]
  let#[c,z,_]:=r b o e a;show#[c,l.1 b c z]
 let#[J,F]:=I.base.jx b Q q;let#[M,D]:=T.un.jx b _ F;show#[J++M,by rw[D,ED]]
def XP:nx (iJ P w) (!jZ) E:=by rintro k M O U e Q I ⟨r,g,J,H',B,u,rfl,T,L,y⟩;let q:=WP (K:=K) (mg:=mg) (base:=base) (N:=N) (qual:=qual) (scope:=scope) (f:=f) (cdv:=cdv) (A:=A) (outer:=outer) (s:=s) (H:=H) (E:=λc _ F=>c=g/\F=H') (E2:=λ_ _=>False) (I.mr _) T #[2,2];show-fC (Ic ae5 q) (λ_ R h=>?_) λ_ _ z=>z.1.elim;let#[#[t,d,b,V,a,p,m,n,j],x]:=h;cases p;subst n j;show#[r,d,b,V,a,u,2,m,λi C=>?_,y];let#[o,aW,G]:=L i C;let#[D,l,_]:=m.eQ.there;show#[D,l,(x.dict aW l).trans G]
end
end b4
namespace dP
open PySem aq b4 cm
def A5(a:List Step)(y:Str):Option Nat:=if(xG a).gC=y then j3 (xG a).due.X else jp
def xx(b:bE)(a:dF):List (Option Nat):=(dY b.Z).map λi=>A5 (a.getD i []) (hA b i)
def asC(p:Nat)(e:Str):Str:=cU "bad "++S (ct p)++cU " "++e
def oW(c:bb)(ds:b0)(a:kl)(b:gy):Str:=match kt c ds (a.map λd=>d.2.2) jp (a.map kS) 0 b with
 |.inl (p,e)=>asC p e
 |.inr h=>S (cK [32] ((xx (a.map λd=>d.2.2) h).map iE))
def apj{pre:List Step}{s:Step}(h:0<=s.due):mm (A5 (pre++[s]) y)=um s y:=by
 unfold A5 um;rw[WW];split
 .show V.int ((s.due.X:Nat):Int)=_;rw[la h]
 rfl
def Tm(a:dF):Prop:=∀b∈a,∀s∈b,0<=s.due/\s.due<10 ^ 10
def RH(a:gy):Prop:=∀d∈a,0<=(gi d).1/\(gi d).1<3000000000
def KM(a:kl):Prop:=∀d∈a,0<=d.2.1/\d.2.1<=1000000000
def aqp{a:bb}{ds:b0}(R:∀d∈ds,d.Ok a.Z)(r:Nat):0<=nG ds r/\nG ds r<=9:=by
 unfold nG;rw[dB];cases e:ds[r]? with
 |none=>show#[rL _,8]
 |some d=>
  have:=(R d (dm e)).t;show#[by have:=this.1;show 0<=d.t;lia,this.2]
theorem alx{a:kl}(h:KM a):Tm (a.map kS):=λg c s f=>by
 let#[d,b,2]:=bQ.mp c;obtain rfl:=e4.mp f;have:=h d b;show 0<=d.2.1/\d.2.1<10 ^ 10
 lia
theorem å{c:gy}(h:RH c)(R:∀r,0<=nG ds r/\nG ds r<=9):∀(l:gy)(k:Option (Int×Int))(b:dF)(p:Nat)(a:dF),Tm b->kt n ds j k b p l=.inr a->(∀d∈l,d∈c)->Tm a
 |[],_,b,_,a,t,e,_=>by cases e;show-t
 |d::r,k,b,p,a,t,e,sub=>by
  unfold kt at e;split at e
  .cases e
  show-å h R r _ _ _ a (λN n s g=>?_) e λd m=>sub d (.tail _ m);let#[i,f]:=nY n;unfold rC at f;rw[t2]at f;let#[K,A,2]:=e6.mp f;let w:=t K (dm A);let m:=h d (sub d (.head _));let L:=R (gi d).2.1.toNat
  split at g
  .rcases gU.mp g with z|z
   .exact w s z
   obtain rfl:=e4.mp z;show 0<=(gi d).1+nG ds (gi d).2.1.toNat/\(gi d).1+nG ds (gi d).2.1.toNat < 10 ^ 10
   lia
  show-w s g
section
variable{P:cq}{w:bW}{K:aL}{mg:b5}{base:Heap}
inductive A6(C CN fD:Addr)(vs:aV)(H:ag)(Q:aX)(E:bM):Prop where
 |mk(n bp bl e' pp:Addr)(rs dA:bS)(eh:kl)(hs:bb)(ds:b0)(zs:aV)(gR:gy)(_:vs=[.ref n,.ref e',.ref pp])(_:iC CN H n bp bl (c1 hs) (aT rs))(_:gG H hs rs ds)(_:rs.Z<=40)(_:H e'=j3 (.lst (aT dA)))(_:eG H dA (eh.map q'))(_:dA.Z<=100)(_:H pp=j3 (.lst zs))(_:gn H zs gR)(_:gR.Z<=98)(_:RH gR)(_:KM eh)(_:∀sss,kt hs ds (eh.map λd=>d.2.2) jp (eh.map kS) 0 gR=.inr sss->∀(H':ag)(D:Addr),H D=jp->aD H H'->H' D=j3 (.lst ((xx (eh.map λd=>d.2.2) sss).map mm))->(∀o∈xx (eh.map λd=>d.2.2) sss,∀m,o=j3 m->m<10 ^ 10)->Q (.ref D) H')(_:∀p e,kt hs ds (eh.map λd=>d.2.2) jp (eh.map kS) 0 gR=.inl (p,e)->∀al H',H al=jp->aD H H'->H' al=j3 (mX al [("place",.int (p:Int)),("reason",.str e)])->E (.ref fD) (j3 al) H')
seal fN bq f3 gm
def apk{f:Addr}(F:cp K "arrivals" "arrivals" yf f fd)(B:fc mg)(h8:fw K C)(Dz:bU K mg "walk_of" J3 m4 f1 cW)(M:-aH (iJ P w) 5 f1 cW m4 (Ž C CN fD))(oa:dn K C "home_turn" "Walk.home_turn" Ep eA f2 d8)(G7:-aH a9 2 f2 d8 eA (Ow C)):
  -aH (iJ P w) 6 f fd m4 (A6 C CN fD):=by
 show-DK F ż (λcdv A Y s H vs Q E ao h=>?_);let#[n,bp,bl,e',pp,rs,c,l,hs,ds,zs,gR,2,N,R,bX,lB,ro,SH,CC,LR,G,U,lm,q,i9]:=h;show#[_,(a7 (cE 3 ż.aA (c2 M Dz ao.mono XP (aj (ae 0) (aj (ae 1) (aj (ae 2) aw)))))
  (a_ (cc (mc (N':=Bu) (cs:=[jp,j3 3]) rfl (DD rfl B.range (aj (dp hI B.len g_ (aj (ae 1) aw)) aw)) rfl xL rfl xL (ia (gK.mpr #[2,(λp az=>bt az (dU))])) rfl
   (.own (.mF rfl (.inl rfl) (.inl rfl) rfl .nil))
   (λC s3 a5 bY da=>#[(dV 0 (by show(Bu:bE).Nodup;decide+kernel)),jm,(gp (ae 1) h8 oa.eO G7 ao.mono oa.bd .nil b9 (aj (ae 0) aw))]))))),4]
 let hf:c.Z=l.Z:=by have:=ro.len;rwa[aM]at this
 let eH:=eW c;show#[5,1,n,bp,bl,e',pp,rs,c,l,hs,ds,zs,gR,2,N,R,bX,lB,ro,SH,CC,LR,G,λa u eQ t aCX H1 x g st ls Z W=>?_,λp e u O H' aA L hd=>i9 p e u O H' aA L hd];let eE:=å U (aqp R.ok) gR _ _ _ a (alx lm) u λ_ h=>h;let#[O,ar]:=W.ins;let T:=Z _ _ lB;dsimp only[uy];refine vu (J:=xX 0 (aT c).Z) (H1:=H1) (xs:=(dY (aT c).Z).map λi:Nat=>V.int ((0:Int)+(i:Int))) (rest:=[j3 (.ref x)]) (λR h=>#[1,e',1,.inl (aI.of T),1,(by show -(2 ^ 62)<=((aT c).Z:Int);lia),(by show((aT c).Z:Int)<2 ^ 62;lia),h]) rfl (Zu 0 _) (el (by rw[aM,jg];lia))
  (λi=>mm (A5 (a.getD i []) (hA (l.map λd=>d.2.2) i))) (λi v I R ev L k=>?_) (λD I hL bR ju=>?_)
 .rw[cR]at ev;let#[j,fJ,2]:=e6.mp ev;let#[X,e]:=fU.mp fJ;rw[jg]at X;rw[Bi]at e;subst e;obtain⟨b,r⟩:∃b,a[i]?=j3 b:=#[_,cQ qI]
  obtain⟨y,dt⟩:∃y,(l.map λd=>d.2.2)[i]?=j3 y:=#[_,cQ (by rw[aM];lia)]
  let Gp:hA (l.map λd=>d.2.2) i=y:=kV dt;rw[kV r,Gp]at k;rcases ahK b with z|⟨pre,s',z⟩
  .exact bt z (t b (dm r))
  rw[ahD]at z;subst z;show#[1,x,O,1,L _ _ ar,7,x,n,g,st,_,ls,a,i,pre,s',y,by rw[vY];rfl,W.same L,r,dt,4];have:=k I (aD.refl _);rwa[apj ((eE _ (dm r) s' (rQ _ (.head _))).1)]at this
 let e:(dY ((dY (aT c).Z).map λi:Nat=>V.int ((0:Int)+(i:Int))).Z).map (λi=>mm (A5 (a.getD i []) (hA (l.map λd=>d.2.2) i)))=(xx (l.map λd=>d.2.2) a).map mm:=by unfold xx;rw[ek,aM,aM,jg,eH,hf];rfl
 rw[e]at bR;show-q a u I D (gH Z hL) (Z.trans ju) bR λo aW m em=>by
  unfold xx at aW;let#[i,X,2]:=bQ.mp aW;rw[kF,aM]at X;obtain⟨b,r⟩:∃b,a[i]?=j3 b:=#[_,cQ qI]
  let ms:=dm r;rw[kV r]at em;unfold A5 at em;split at em
  .cases em;have:=eE b ms (xG b) (by let#[adf,gW]:=M7 (t b ms);rw[gW,WW];show-rQ _ (.head _))
   lia
  cases em
unseal fN bq f3 gm
def QW{a:bb}{ds:b0}(R:∀d∈ds,d.Ok a.Z):∀e∈ix a ds,1<=e.t:=(λe c=>by let#[d,b,2]:=bQ.mp c;exact(R d b).t.1)
def anl{a:bb}{ds:b0}(R:∀d∈ds,d.Ok a.Z){h:Str}{v:Int}(l:iG a ds h g=j3 v)(t:h≠g):
  ∃(k:Nat)(d:cm.fV)(u:Int),best a ds h g=(k:Int)/\ds[k]?=j3 d/\S (a.getD d.a [])=h/\iG a ds (S (a.getD d.b [])) g=j3 u/\(d.t:Int)+u=v:=by
 let#[m,f]:=OJ (QW R) l t;let#[i,r]:=nY (bQ.mpr #[_,m,2]:V.int (best a ds h g)∈(mn a ds (·.a) h).map V.int);let#[k,d,n,c,p]:=OK r;let b:best a ds h g=(k:Int):=V.int.inj n;rw[b]at f;unfold vV wu NJ at f;rw[jf,xb c]at f;cases e:iG a ds (S (a.getD d.b [])) g with
 |none=>rw[e]at f;cases f
 |some u=>
  rw[e,l]at f;have:=nD f;show#[k,d,u,b,c,p,e,gk this]
def W'{b:Type}[DecidableEq b]{a:List (b×aq.V)}{k:b}(h:c8 a k=j3 v):k∈a.map (·.1):=by let#[j,x,e]:=Xz (show(c8 a k).isSome=q4 by rw[h];rfl);show-bQ.mpr #[_,dm e,2]
def ni.get{a:bb}{b:eo}(T:ni a ds b){k:List bD}(e:c8 b k=j3 v):∃h g,k=gu h g/\h∈a.map S/\g∈a.map S/\h≠g/\(iG a ds h g).isSome=q4/\v=.int (best a ds h g):=by
 let#[h,g,2,c,d]:=T.jY.key k (W' e);by_cases m:h∈a.map S/\h≠g/\(iG a ds h g).isSome=q4
 .have:=T.jY.yes h g m;rw[e]at this;show#[h,g,2,c,d,m.2.1,m.2.2,gk this]
 rw[T.jY.no h g m]at e;cases e
def yh(ds:b0)(a:bB):Int:=(a.map λk=>((ds.getD k e1).t:Int)).sum
end
theorem Yi{f:bb}{ds:b0}{r:eo}(T:ni f ds r)(R:∀d∈ds,d.Ok f.Z)(J:f.Z<=12):∀(n:Nat)(c:Str)(l:bE)(t:bB)(u:Int),n+l.Z=14->l.Nodup->(∀y∈l,y∈f.map S)->c∈f.map S->iG f ds c g=j3 u->
  (∀y∈l,∃w,iG f ds y g=j3 w/\u<=w)->∃p,ic r f ds g n c l t=.ok (t++p)/\yh ds p=u/\(∀k∈p,k<ds.Z)/\p.Z<=n
 |0,c,l,t,u,hn,aA,sub,s,h,hw=>by
  have:=q1 aA sub;rw[aM]at this
  lia
 |n+1,c,l,t,u,hn,aA,sub,s,h,hw=>by
  unfold ic;by_cases e:c=g
  .rw[a' e];let C:=(dZ.Sz (QW R) g).goal (QW R);rw[<-e]at C;let A:iG f ds c c=j3 0:=C;rw[<-e,A]at h;show#[[],by rw[lS],by cases h;rfl,λk I=>(nomatch I),eu _]
  rw[a4 e];let#[k,d,E,H,N,O,q,M]:=anl R h e;let F:=T.jY.yes c g #[s,e,by rw[h];rfl];let V:oM r c g=j3 k:=by unfold oM;rw[F,H];simp
  let L:jS f ds k=S (f.getD d.b []):=by unfold jS;rw[xb N]
  let D:=R d (dm N);let Q:1<=(d.t:Int):=D.t.1;let K:jS f ds k∉l:=λm=>by
   let#[w,A,B]:=hw _ m;rw[L,q]at A;cases A
   lia
  rw[V];show∃p,(if jS f ds k∈l then _ else _)=Out.ok (t++p)/\_;rw[a4 K];let x:jS f ds k∈f.map S:=by rw[L];show-vz D.b
  let#[p,A,B,G,P]:=Yi T R J n (jS f ds k) (l++[jS f ds k]) (t++[k]) E (by rw[c0];show n+(l.Z+1)=14;lia) (HH aA K)
   (λy o=>by
    rcases gU.mp o with z|z
    .exact sub y z
    rwa[e4.mp z]) x (by rwa[L])
   (λy o=>by
    rcases gU.mp o with z|z
    .let#[w,a,b]:=hw y z;show#[w,a,9]
    rw[e4.mp z,L];show#[E,q,rL _])
  show#[k::p,by rw[A,jB];rfl,4,4,by rw[ej];lia]
  .show((ds.getD k e1).t:Int)+yh ds p=u;rwa[B,xb N]
  intro j i;rcases et.mp i with rfl|i
  .exact(fU.mp N).1
  show-G j i
def VO(a:bb)(ds:b0)(g h:Str):Bool:=decide (h≠g)&&(iG a ds h g).isSome
def asD(a:bb)(ds:b0)(g:Str)(L:bE):List Row:=(L.filter (VO a ds g)).map λh=>(h,g,best a ds h g)
def KN(a:bb)(ds:b0)(L:bE):List Row:=L.flatMap λg=>asD a ds g (a.map S)
def take_snoc{a:Type}{L:List a}{j:Nat}{x:a}(e:L[j]?=j3 x):L.take (j+1)=L.take j++[x]:=by rw[p5,e];rfl
def OE{b:bb}{L:bE}{r:Row}(h:r∈KN b ds L):r.1∈b.map S/\r.2.1∈L/\r.1≠r.2.1/\(iG b ds r.1 r.2.1).isSome=q4/\r.2.2=best b ds r.1 r.2.1:=by let#[g,l,f]:=P2.mp h;let#[k,c,2]:=bQ.mp f;let#[d,a]:=hH.mp c;unfold VO at a;simp only[hN,decide_eq_true_eq]at a;show#[d,l,a.1,a.2,2]
def anm{a:bb}{L:bE}{h g:Str}(c:h∈a.map S)(b:g∈L)(f:h≠g)(d:(iG a ds h g).isSome=q4):(h,g,best a ds h g)∈KN a ds L:=by show-P2.mpr #[g,b,bQ.mpr #[h,hH.mpr #[c,4],2]];unfold VO;rw[cw f,d];rfl
theorem Ā{a:Type}[DecidableEq a]{k:a}:∀{l:List (a×aq.V)}{j:Nat},(l.map (·.1)).Nodup->l[j]?=j3 (k,v)->c8 l k=j3 v
 |[],j,_,h=>by simp at h
 |p::r,0,aA,h=>by simp only[PY,Qh]at h;subst h;exact pk rfl
 |p::r,j+1,aA,h=>by
  rw[e7,kG]at aA;let b:r[j]?=j3 (k,v):=by simpa using h
  rw[oy (λz=>aA.1 (by rw[z];show-bQ.mpr #[_,dm b,2]))];show-Ā aA.2 b
def ni.rows{a:bb}{kvs:eo}(T:ni a ds kvs):∃rs:List Row,kvs=dG rs/\rs.Nodup/\∀r,r∈rs↔r∈KN a ds (a.map S):=by
 let val:∀p∈kvs,c8 kvs p.1=j3 p.2:=λp b=>by let#[j,s]:=nY b;show-Ā T.jY.aA (show kvs[j]?=j3 (p.1,p.2)from s)
 let#[rs,e]:=ï (kvs:=kvs) λp b=>by let#[h,g,k,6,6,f]:=T.get (val p b);show#[(h,g,best a ds h g),BG k f]
 subst e;show#[rs,2,4,λr=>#[λl=>?_,λl=>?_]]
 .let d:=T.jY.aA;unfold dG at d;rw[ek]at d;exact(yd.mp d).imp λh z=>h (by rw[z])
 .let b:(([.inr r.1,.inr r.2.1],.int r.2.2):List bD×aq.V)∈dG rs:=bQ.mpr #[r,l,2];let#[h,g,k,w,q,K,A,f]:=T.get (val _ b);let#[m,n]:=Jw (h:=r.1) (g:=r.2.1) k;let t:r=(h,g,best a ds h g):=BG m (BG n (V.int.inj f));rw[t];show-anm w q K A
 let#[w,q,K,A,e]:=OE l;let N:=T.jY.yes r.1 r.2.1 #[w,K,A];let#[j,y,o]:=Xz (show(c8 (dG rs) (gu r.1 r.2.1)).isSome=q4 by rw[N];rfl);let i:=val _ (dm o);rw[N]at i;let#[c,x,L]:=bQ.mp (dm o);let#[m,n]:=Jw (h:=c.1) (g:=c.2.1) (fe Prod.fst L);let u:V.int c.2.2=y:=fe Prod.snd L;let B:c.2.2=best a ds r.1 r.2.1:=by have:=gk i;rw[<-u]at this;exact(V.int.inj this).symm
 let t:r=c:=BG m.symm (BG n.symm (by rw[e,B]));rwa[t]
inductive aaV(C:Addr)(vs:aV)(H:ag)(Q:aX)(fq:bM):Prop where
 |mk(x al n t:Addr)(rs:List Row)(_:vs=[.ref x])(_:H x=j3 (.ins C al (md n t)))(_:H t=j3 (.c3 (dG rs)))(_:rs.Z<64)(_:∀(l:Addr)(H':ag)(ts:bS),H l=jp->aD H H'->H' l=j3 (.lst (hY .cf (qj (rs.map v3)) (aT ts)))->eG H' ts (rs.map rx)->Q (.ref l) H')
section
variable{P:cq}{w:bW}{K:aL}{mg:b5}{base:Heap}
abbrev Nl:Stmt:=ij (top 59) 5
def asE:cJ gx gx (b_ Nl):=({})
def aqq{f:Addr}(F:cp K "pairs" "Ways.pairs" Nl f fd)(B:fc mg)(U:uo K C):-aH a9 1 f fd gx (aaV C):=by
 show-F.ok asE (λcdv A M s H vs Q E ao h=>?_);let#[x,O,n,t,rs,2,L,y,bX,q]:=h;show#[_,(a_ (cc (dp aeM B.sorted NO (aj (aqa (mc (N':=["pair","road"]) (cs:=[jp,jp]) rfl (alf (eX (ae 0))) rfl xL rfl xL (ia (λp az=>bt az (dU))) rfl
   (.own (.own .nil))
   (λC s3 a5 bY da=>#[(It (K:=K) (n:=2) rfl rfl (iX (dV 0 (by show(["pair","road"]:bE).Nodup;decide+kernel)) (iX (dV 1 (by show(["pair","road"]:bE).Nodup;decide+kernel)) sM))),jm,(h_ (aj (cn (Ef (K:=K) rfl) (ae 0) a8) (aj (cn (Ef (K:=K) rfl) (ae 0) a8) (aj (ae 1) aw))))]))) aw)))),4]
 ac_rfl
 let eH:(dG rs).Z=rs.Z:=by unfold dG;rw[aM]
 let MP:x≠t:=λz=>by rw[z,y]at L;cases L
 dsimp only[uy,pP,kT];show#[t,dG rs,y,λo=>?_];let gf:upd H t (.fp o (.c3 (dG rs))) x=j3 (.ins C O (md n t)):=by rw[aR MP];show-L
 refine ajB (H1:=upd H t (.fp o (.c3 (dG rs)))) (a:=t) (o:=o) (kvs:=dG rs) (rest:=[]) (λR h=>#[1,x,C,O,_,1,gf,U.cl,U.fl,2,t,o,1,aQ,h]) rfl aQ (el qI) (λi=>rx (rs.getD i r0)) (λi k oZ b ah R I aF c tR=>?_) (λD H1 m X bR G Y=>?_)
 .unfold dG at I;rw[cR]at I;let#[r,dH,aC]:=e6.mp I;cases aC;rw[kV dH]at tR;show#[1,b,_,3,cj.of c,7,b,_,3,cj.of c,7,sz_,λz Dx=>tR z _ (bT Dx) aQ]
 let j:(dY (dG rs).Z).map (λi=>rx (rs.getD i r0))=rs.map rx:=by rw[eH];show-range_getD rx r0 rs
 rw[j]at G;let N:D≠t:=λz=>by rw[z,aQ]at X;cases X
 let g:=Y _ _ (aQ (H:=H) (a:=t) (o:=.fp o (.c3 (dG rs))));let Z:aD H (upd H1 t (.c3 (dG rs))):=λb v e=>by
  by_cases c:b=t
  .rw[c]at e⊢;rw[aQ,<-e,y]
  rw[aR c];show-Y _ _ (by rwa[aR c])
 let z8:eG (upd H1 t (.c3 (dG rs))) m (rs.map rx):=G.upd g (by intro d z;cases z);let dv:=G.len;rw[aM]at dv;show#[g,D,m,rs.map v3,q9,[q9,q4],2,aI.of (by rw[aR N];show-bR),ajC z8,9,row_shape rs,λl J=>?_];let T:=bT (o:=.lst (hY V.cf (qj (rs.map v3)) (m.map V.ref))) J;show-q l _ m ?_ (Z.trans T) aQ (z8.same T);cases e:H l with
 |none=>rfl
 |some u=>rw[Z _ _ e]at J;cases J
def aly{rs:List Row}(g:eG H e (rs.map rx)):∃a,hY V.cf (qj (rs.map v3)) (aT e)=aT a/\eG H a ((pK rs).map rx):=by
 let k:(aT e).Z=rs.Z:=by have:=g.len;rw[aM]at this;rw[eW,this]
 unfold hY pK QR;rw[k];let all:∀b:List Nat,(∀i∈b,i<rs.Z)->∃a,(b.map λi=>(aT e).getD i .cf)=aT a/\eG H a ((b.map λi=>rs.getD i r0).map rx):=λb=>by
  induction b with
  |nil=>intro _;show#[[],2,.nil]
  |cons i q h=>
   intro c;let#[a,n,l]:=h λj r=>c j (.tail _ r);let lt:=c i (.head _);let m:i<e.Z:=by rw[eW]at k;lia
   let d:e[i]?=j3 e[i]:=cQ m;let#[y,f,p]:=bV.get g d;rw[cR,cQ lt]at f;cases f;show#[e[i]::a,4,.cons ?_ l]
   .rw[e7,n];show(aT e).getD i .cf::aT a=V.ref e[i]::aT a;congr 1;show((aT e)[i]?).getD .cf=_;unfold aT;rw[cR,d];rfl
   show H e[i]=j3 (hP.tup (rx (rs.getD i r0)));rw[show rs.getD i r0=rs[i] by rw[dB,cQ lt];rfl];show-p
 show-all _ λi c=>N6 c
def akm{rs:List Row}(f:(rs.map λr=>(r.1,r.2.1)).Nodup){i:Nat}{r:Row}(e:rs[i]?=j3 r):gh (dG (rs.take i)) (gu r.1 r.2.1) (.int r.2.2)=dG (rs.take (i+1)):=by
 let c:rs.take (i+1)=rs.take i++[r]:=by rw[p5,e];rfl
 rw[c];let d:(rs.take (i+1)).map (λr=>(r.1,r.2.1)) |>.Nodup:=by rw[E8];show-f.sublist (Fa _ _)
 rw[c,eb]at d;let b:c8 (dG (rs.take i)) (gu r.1 r.2.1)=jp:=by
  cases z:c8 (dG (rs.take i)) (gu r.1 r.2.1)with
  |none=>rfl
  |some v=>
   have:=dP.W' z;unfold dG at this;rw[ek]at this;let#[q,g,a]:=bQ.mp this;let a:([.inr q.1,.inr q.2.1]:List bD)=[.inr r.1,.inr r.2.1]:=a;simp at a;have:=(JK.mp d).2.2 (q.1,q.2.1) (bQ.mpr #[q,g,2]) (r.1,r.2.1) xg;show-bt (by rw[a.1,a.2]) this
 rw[DU _ b];unfold dG;rw[eb];rfl
theorem alz{L:bE}:∀{c:List (Str×Str)},c.Nodup->(∀p∈c,p.1∈L/\p.2∈L)->c.Z<=L.Z*L.Z:=λ{c}d h=>by
 let sub:c ⊆ L.flatMap λa=>L.map λb=>(a,b):=λp k=>by let#[f,g]:=h p k;show-P2.mpr #[p.1,f,bQ.mpr #[p.2,g,2]]
 have:=q1 d sub;rw[ahW]at this;let e:(L.map λa=>(L.map λb=>(a,b)).Z)=L.map λ_=>L.Z:=rP λa _=>aM ..;rw[e]at this;let s:∀(M:bE),((M.map λ_=>L.Z).sum)=M.Z*L.Z:=λM=>by
  induction M with
  |nil=>simp
  |cons a r i=>rw[e7,mx,i,ej,Fq];lia
 rwa[s]at this
inductive RI(C CN hQ:Addr)(vs:aV)(H:ag)(Q:aX)(E:bM):Prop where
 |mk(x n t bp bl:Addr)(hs:bb)(ys:aV)(kvs:eo)(h g:Str)(_:vs=[.ref x,.str h,.str g])(_:mP C CN H x n t bp bl (c1 hs) ys kvs)(_:Good hs)(_:cO H (.str h) (.str h))(_:cO H (.str g) (.str g))(_:(kN (bR hs) (.str h) (.str g)=q4->∀H',aD H H'->Q .cf (upd H' t (.c3 (uD kvs (gu h g))))))(_:(kN (bR hs) (.str h) (.str g)=q9->∀H',aD H H'->E (.ref hQ) jp H'))
abbrev H2:Stmt:=ij (top 59) 2
def asF:cJ fZ fZ (b_ H2):=({})
def aqB{f:Addr}(F:cp K "drop_way" "Ways.drop_way" H2 f fd)(g:uo K C)(p:dn K C "need_pair" "Ways.need_pair" D2 fZ f2 z)(O:-aH (fE P w) 2 f2 z fZ (KD C e B)):
  -aH (fE P w) 3 f fd fZ (RI C e B):=by
 let D:=g.cl;show-ra F asF (λ_ A _ s H T Q E l h=>?_);let#[x,n,t,u,j,J,U,a,c,b,2,W,G,i,y,q,M]:=h;let#[k,m]:=W.ins;show#[_,(a7 (gL (gp (ae 0) D p.eO O l.mono p.bd .nil sN (aj (ae 1) (aj (ae 2) aw))))
  (a_ (gL (alg (lF l) (eX (ae 0)) (h_ (aj (ae 1) (aj (ae 2) aw))) iZ #[2,2,2,2])))),4]
 show#[1,x,k,1,m,7,1,x,n,t,u,j,J,_,a,.str c,.str b,.str c,.str b,2,W,G,i,y,(by show 0<=60;decide),(by show 0<=60;decide),λN R d=>?_,M];show#[1,x,C,k,_,1,d _ _ m,g.cl,g.fl,2,t,2,.inr #[_,.inl (d _ _ W.told)],5,sz_,λr I=>?_];let L:=bT (o:=.tup [V.str c,V.str b]) I;show#[a,gu c b,r,2,L _ _ (d _ _ W.told),aQ,q N _ (d.trans L)]
def QX(C:Addr):fx:=λd H Q _=>∃(x c b:Addr)(a:bb)(rs:bS)(ds:b0)(h g:Str),d=[.ref x,.str h,.str g]/\iC C H x c b (c1 a) (aT rs)/\gG H a rs ds/\a.Z<=12/\h∈a.map S/\g∈a.map S/\
 ∀H',aD H H'->Q (BL (dZ.dist (ix a ds) h g)) H'
abbrev FO:Stmt:=ij (top 57) 6
def aqC:cJ fZ fZ (b_ FO):=({})
def apl{f o:Addr}(F:cp K "far" "Net.far" FO f fd)(l:uB K C)(b:dn K C "need_house" "Net.need_house" A3 lT o I)(B:-aH (fE P w) 1 o I lT (Jk C R))(Y:bU K mg "least_turns_from" EC yn eQ e)(G:-aH a9 2 eQ e yn (Pc K)):
  -aH (fE P w) 3 f fd fZ (QX C):=by
 let j:=l.cl;show-ra F aqC (λU A t s H vs Q E a h=>?_);let#[x,V,g,m,rs,ds,y,u,2,n,X,M,i,O,q]:=h;let#[c,d]:=n.ins;show#[_,(a7 (gL (gp (ae 0) j b.eO B a.mono b.bd .nil sN (aj (ae 1) aw)))
  (a7 (gL (gp (ae 0) j b.eO B a.mono b.bd .nil sN (aj (ae 2) aw)))
  (a_ (cc (N3 (lF a) (c2 G Y a.mono b9 (aj (eX (ae 0)) (aj (ae 1) aw))) (ae 2) #[2,2,2,2]))))),4]
 show#[1,x,c,1,d,7,x,V,g,m,_,y,2,n,λ_=>?_,λz=>bt i z];show#[1,x,c,1,d,7,x,V,g,m,_,u,2,n,λ_=>?_,λz=>bt O z];show#[1,x,C,c,_,1,d,l.cl,l.hh,7,g,m,rs,ds,y,2,aI.of n.sZ,X,M,i,λp H' r D Z J N T L=>?_];show#[p,2,.inl #[r,.inl N],1,_,j9.k (k:=f5 u) N,4];rw[T.at_,am8,dZ.abq L];show-q H' J
end
structure RJ(mg:b5):Prop where
 aih:uw mg "MOST_LETTERS" 40
 ail:uw mg "MOST_TURN" 1000000000
 aie:uw mg "MOST_APART" 30
def oq(b:gy):PyData->Bool
 |.tuple [a,t,g]=>kN b a g&&Pe 0 1000000000 t
 |_=>q9
def agb{ds:gy}(h:ds.Z≠3):oq hs (.tuple ds)=q9:=by rcases ds with _|⟨a,_|⟨b,_|⟨c,_|⟨e,r⟩⟩⟩⟩<;>first|rfl|(simp at h)
def qz:PyData->Int
 |.tuple [_,.int t,_]=>t
 |_=>0
def agc{d:PyData}(h:oq hs d=q4):∃a t g,d=.tuple [a,.int t,g]/\0<=t/\t<=1000000000:=by
 unfold oq at h;split at h
 .rename_i a t g;rw[hN]at h;cases t with
  |int i=>
   let b:(decide (0<=i)&&decide (i<=1000000000))=q4:=h.2;rw[hN]at b;show#[a,i,g,2,nD b.1,nD b.2]
  |_=>cases h.2
 cases h
def EL(a:gz):Int:=if a=[]then 0 else A4 a-qp a
inductive Ŝ(vs:aV)(H:ag)(Q:aX)(fq:bM):Prop where
 |mk(a:Addr)(hs:gy)(v:aq.V)(d:PyData)(_:vs=[.ref a,v])(_:cO H (.ref a) (.list hs))(_:cO H v d)(_:d.depth<=61)(_:Q (.bo (oq hs d)) H)
inductive Ă(vs:aV)(H:ag)(Q:aX)(fq:bM):Prop where
 |mk(v:aq.V)(hs ds:gy)(_:vs=[v])(_:cO H v (.list ds))(_:(∀d∈ds,oq hs d=q4))(_:∀H',aD H H'->Q (.int (EL (ds.map qz))) H')
inductive RK(C:Addr)(vs:aV)(H:ag)(Q:aX)(fq:bM):Prop where
 |mk(e:Addr)(v:aq.V)(_:vs=[.ref e,v])(_:H e=j3 (ng e C))(_:∀al,H al=jp->al≠e->Q .cf (upd (upd H al (mX al [("number",v)])) e (nf e C al)))
def qZ(a:gy):List PyData->Option Nat
 |[]=>jp
 |d::r=>if oq a d=q4 then(qZ a r).map (·+1)else j3 0
def aa8:Option Nat->aq.V
 |some i=>.int i
 |none=>.cf
def yi(a ds:gy):Prop:=qZ a ds=jp/\ds.Z<=40/\EL (ds.map qz)<=30
inductive aaf(C o9:Addr)(vs:aV)(H:ag)(Q:aX)(E:bM):Prop where
 |mk(x bp bl:Addr)(hs:bb)(zs:aV)(v:aq.V)(ds:gy)(_:vs=[.ref x,v])(_:iC C H x bp bl (c1 hs) zs)(_:Good hs)(_:cO H v (.list ds))(_:(PyData.list ds).depth<=62)(_:(yi (bR hs) ds->∀l H',H l=jp->aD H H'->cO H' (.ref l) (.list ds)->Q (.ref l) H'))(_:(¬yi (bR hs) ds->∀al H',H al=jp->aD H H'->H' al=j3 (mX al [("number",aa8 (qZ (bR hs) ds))])->E (.ref o9) (j3 al) H'))
section
variable{P:cq}{w:bW}{K:aL}{mg:b5}{base:Heap}
abbrev Wa:Stmt:=ij (top 6) 0
def asG:cJ eA eA (b_ Wa):=({})
def aqD{f:Addr}(F:cp K "__init__" "NoLetter.__init__" Wa f fd)(a:m' K mg "RoadError" C R)(d:mg "RoadError"=j3 (.ref R))(c:c7 K (.ref C) "number"=j3 jp):-aH a9 1 f fd eA (RK C):=by
 show-F.ok asG (λ_ A _ s H k Q E g h=>?_);let#[e,v,2,b,q]:=h;show#[_,(a7 (gL (XY xo d a.rd a.Gg a.z3 (aj (ae 0) (aj cz aw))))
  (a_ (ww (y:="RoadError") (R:=R) (ae 0) (ae 1) rfl))),4]
 ac_rfl
 show#[1,e,C,1,b,a,sz_,4];show#[5,e,C,2,a,c,.inl #[b,q]]
abbrev KO:Stmt:=top 24
def aqE:cJ qL qL (b_ KO):=({})
def aoW{f:Addr}(F:cp K "is_letter" "is_letter" KO f fd)(I:RJ mg)(y:bU K mg "is_tuple_of" An rR f1 e)(J:-aH a9 1 f1 e rR OI)(x:bU K mg "are_unlike_houses" zW rS f2 i)(M:-aH a9 1 f2 i rS Xx)(B:bU K mg "is_whole_within" Eb uP cV j)(n:-aH a9 2 cV j uP Y1):
  -aH a9 3 f fd qL Ŝ:=by
 show-F.ok aqE (λ_ A _ s H O Q E k h=>?_);let#[a,l,v,d,2,p,h,N,q]:=h;show#[_,(a_ (cc (jn (c2 J y k.mono b9 (aj (ae 1) (aj a8 aw))) (jn (c2 M x k.mono b9 (aj (ae 0) (aj (cn ey (ae 1) a8) (aj (cn ey (ae 1) a8) aw)))) (oF (c2 n B k.mono b9 (aj (cn ey (ae 1) a8) (aj a8 (aj (w4 xo I.ail) aw))))))))),4]
 ac_rfl
 show#[1,v,d,1,h,1,BP (λg=>?_) λg=>(ç (f:=oq l) (λ_=>agb) (λd _=>by cases d<;>first|rfl|contradiction) g)▸q];let#[r,G,V,u,e1,c,b,2,2,m,C,D,L]:=æ h (KB g).1 (KB g).2;let t:tC [e1,c,b]+1<=61:=N;let o:e1.depth<=60:=dQ (Xy (by simp:e1∈[e1,c,b])) qI;let b1:b.depth<=60:=dQ (Xy (by simp:b∈[e1,c,b])) qI;let q:Q (.bo (kN l e1 b&&Pe 0 1000000000 c)) H:=q;show#[5,r,_,3,cj.of m,7,r,_,3,cj.of m,2,a,l,G,u,e1,b,2,p,C,L,o,b1,1,BP (λz=>#[1,r,_,3,cj.of m,2,V,c,_,1,D,by rwa[z]at q]) λz=>by rwa[z]at q]
abbrev Jt:Stmt:=top 25
def ă:cJ ["letters","turns"] ["letters"] (b_ Jt):=({})
theorem Y5:∀{c:aV}{ds:gy},gn H c ds->(∀d∈ds,oq hs d=q4)->c.map (λv=>V.int (qz (K8 H v)))=(ds.map qz).map V.int
 |_,_,.nil,_=>rfl
 |_,_,.cons a b,h=>by simp only[e7];rw[Zz a,Y5 b λd f=>h d (n0 _ f)]
def alq{f:Addr}(F:cp K "turns_apart" "turns_apart" Jt f fd)(B:fc mg):-aH a9 1 f fd ["letters"] Ă:=by
 show-F.ok ă (λ_ A _ s H Z Q E M h=>?_);let#[v,X,ds,2,o,k,q]:=h;let#[a,xs,2,g,b,t]:=Ń o;show#[_,(a7 (w3 (i:=1) ă.aA rfl rfl rfl (N':=["letter"]) (cs:=[jp]) rfl (h7 (ae 0)) rfl xL rfl xL (ia (λp j=>bt j (dU))) rfl
   (.own .nil)
   (λC Y G O U=>#[(dV 0 (by show(["letter"]:bE).Nodup;decide+kernel)),jm,(cn (Ef (K:=K) rfl) (ae 0) a8)]))
  (a_ (cc (br Ae (ų q4 A4 rfl rfl xo B.max (aj (ae 1) aw) a8) (ų q9 qp rfl rfl xo B.min (aj (ae 1) aw) a8))))),4]
 ac_rfl
 dsimp only[jQ,x5];refine zV (J:=kE K a) (H1:=H) (xs:=xs) (rest:=[]) (λR h=>#[1,a,2,#[_,aI.of g],h]) rfl (pB (aI.of g)) (el qI) (λv=>.int (qz (K8 H v))) (λi x e R u V l=>?_) (λD H' I c L=>?_)
 .let#[d,cG,m]:=t.get u;let#[ats,N,ct,2,6]:=agc (k d (dm cG));let n:=l e (aD.refl _);rw[Zz m]at n;clear l;let#[r,ys,2,y,_,ty]:=ń (m.same V);cases ty with
  |cons t0 ty=>
   cases ty with
   |cons t1 ty=>
    cases ty with
    |cons T ty=>
     cases ty;obtain rfl:=Jm t1;show#[1,r,_,3,cj.of y,2,n]
 rw[Y5 t k]at c;let q:=q H' L;unfold EL at q;by_cases b:ds.map qz=[]
 .rw[a' b]at q;show#[1,.int 0,D,ds.map qz,2,2,aI.of c,λ_=>?_,λz=>bt b z];show#[1,.int 0,D,ds.map qz,2,2,aI.of c,λ_=>#[3,q],λz=>bt b z]
 rw[a4 b]at q;show#[1,.int 0,D,ds.map qz,2,2,aI.of c,λz=>bt z b,λ_=>?_];show#[1,.int 0,D,ds.map qz,2,2,aI.of c,λz=>bt z b,λ_=>#[3,q]]
abbrev KP:Stmt:=top 26
def Ka:cJ ["net","some","houses","number","thing"] Fi (b_ KP):=({})
theorem afi:∀{ds:gy}{i:Nat},(∀j,j<i->∀d,ds[j]?=j3 d->oq hs d=q4)->(∃d,ds[i]?=j3 d/\oq hs d=q9)->qZ hs ds=j3 i
 |[],i,_,⟨d,e,_⟩=>by simp at e
 |x::r,0,_,⟨d,e,h⟩=>by simp at e;subst e;unfold qZ;rw[a4 (by rw[h];show-gZ)]
 |x::r,i+1,o,⟨d,e,h⟩=>by unfold qZ;rw[a' (o 0 qI x rfl),afi (ds:=r) (i:=i) (λj a d cG=>o (j+1) qI d (by simpa using cG)) #[d,by simpa using e,h]];rfl
theorem Mz:∀{ds:gy},(∀d∈ds,oq hs d=q4)↔qZ hs ds=jp
 |[]=>by simp[qZ]
 |x::r=>by
  unfold qZ;by_cases h:oq hs x=q4
  .rw[a' h];constructor
   .intro q;rw[Mz.mp λd hd=>q d (n0 _ hd)];rfl
   intro q;let a:qZ hs r=jp:=by
    cases e:qZ hs r with
    |none=>rfl
    |some k=>rw[e]at q;cases q
   intro d hd;rcases et.mp hd with rfl|hd
   .exact h
   show-Mz.mpr a d hd
  rw[a4 h];constructor
  .intro q;show-bt (q x (v' ..)) h
  intro q;cases q
def aoX{f:Addr}(F:cp K "letters_of" "letters_of" KP f fd)(B:fc mg)(xQ:RJ mg)(eZ:fw K C)(iV:dn K C "houses" "Net.houses" w5 gx f1 cW)(nc:-aH a9 1 f1 cW gx (zB C))(CV:bU K mg "is_letter" KO qL f2 d8)(WU:-aH a9 3 f2 d8 qL Ŝ)(CG:bU K mg "turns_apart" Jt ["letters"] cV iz)(VZ:-aH a9 1 cV iz ["letters"] Ă)(Hr:m' K mg "RoadError" y R)(vd:mg "NoLetter"=j3 (.ref y))(J:mC K (.ref y)=q4)(M:c7 K (.ref y) "__init__"=j3 (j3 (.ref nh)))(O:qP K (.ref nh)=q4)(Mb:-aH a9 1 nh Gj eA (RK y))(T:Binds K Gj eA []):
  -aH (iJ P w) 4 f fd Fi (aaf C y):=by
 show-DK F Ka (λ_ A _ s H vs Q E U h=>?_);let#[x,bp,bl,hs,zs,v,ds,2,n,G,bc,dd,q,i9]:=h;let#[c,ar]:=n.ins;let#[a,xs,2,aB,hz,t]:=Ń bc;show#[_,(a7 (cE 2 Ka.aA (sF (ae 0) eZ iV.eO nc U.mono iV.bd .nil b9))
  (a7 (kq ā rfl (Ot rfl B.enumerate (aj (ae 1) aw)) (Ad rfl (iX (dV 3 Ka.aA) (iX (dV 4 Ka.aA) sM)))
   (a_ (er (j2 (kp (c2 WU CV U.mono b9 (aj (ae 2) (aj (ae 4) aw))))) (a_ (HS Hr vd J M O Mb U.mono T rfl (aj (ae 3) aw))) eB)))
  (a7 (er (mB.pt (AJ (fQ AY (dp hI B.len g_ (aj (ae 1) aw)) (w4 xo xQ.aih) (eK _)) (Ac (fQ AY (c2 VZ CG U.mono b9 (aj (ae 1) aw)) (w4 xo xQ.aie) (eK _))))) (a_ (HS Hr vd J M O Mb U.mono T rfl (aj iZ aw))) eB)
  (a_ (cc (hS CJ B.list xd (aj (ae 1) aw))))))),4]
 ac_rfl
 show#[1,x,c,1,ar,2,x,bp,bl,_,1,n,λl nl=>?_];let Z:aD H (upd H l (.lst (c1 hs))):=bT nl;let hJ:=ŭ (H:=upd H l (.lst (c1 hs))) G aQ;generalize upd H l (.lst (c1 hs))=H1 at Z hJ⊢;let go:∀(g:ag)(v:aq.V),aD H g->v=aa8 (qZ (bR hs) ds)->¬yi (bR hs) ds->∀e,g e=jp->RK y (V.ref e::[v]) (upd g e (ng e y)) (λu a5=>u=.cf/\∃c,a5 e=j3 (nf e y c)/\E (.ref y) (j3 c) (del a5 e)) hO:=λg v r ev oB e ne=>by
  show#[e,v,2,aQ,λc aA mS=>#[2,c,aQ,4]];let zG:g c=jp:=by rwa[aR mS]at aA
  let aE:del (upd (upd (upd g e (ng e y)) c (mX c [("number",v)])) e (nf e y c)) e=upd g c (mX c [("number",v)]):=by
   funext b;by_cases k:b=e
   .subst k;rw[ZB,aR (e5 mS)];show-ne.J
   rw[qk k,aR k];by_cases i1:b=c
   .subst i1;rw[aQ,aQ]
   rw[aR i1,aR i1,aR k]
  rw[aE];show-i9 oB c _ (r.free zG) (r.trans (bT zG)) ?_;rw[aQ,ev]
 show#[1,a,2,#[_,aI.of (Z _ _ aB)],4];show-ZC (K:=K) (a:=a) (xs:=xs) (λi aa g=>aD H1 g/\(∀j,j<i->∀d,ds[j]?=j3 d->oq (bR hs) d=q4)/\∃u v,aa=[j3 (.ref x),j3 (.ref a),j3 (.ref l),u,v]) #[aD.refl _,λj X=>bt X qI,jp,jp,2] (λi aa g h=>aI.of (h.1 _ _ (Z _ _ aB))) ?_ ?_
 .rintro i z aa g p fy ⟨r,k,u,v,rfl⟩ np;let#[d,cG,hd]:=t.get fy;let s3:=bT (o:=.tup [V.int (i:Int),z]) np;let m:=Z.trans (r.trans s3);let au7:tC ds+1<=62:=dd;let jD:d.depth<=61:=dQ (Xy (dm cG)) qI;show#[p,1,cj.of aQ,2,_,1,3,4];show#[5,l,bR hs,z,d,2,hJ.same (r.trans s3),hd.same m,jD,1,4];cases hi:oq (bR hs) d with
  |true=>show-iN #[r.trans s3,λj X d' pf=>by
    rcases yv j i with h|h
    .exact k j h d' pf
    rw[show j=i by lia,cG]at pf;cases pf;show-hi,j3 (.int (i:Int)),j3 z,2]
  |false=>
   let L:=afi (hs:=bR hs) k #[d,cG,hi];show-jr #[1,sz_,go _ _ m (by rw[L];rfl) λY=>?_];have:=Y.1;rw[L]at this;cases this
 rintro aa g ⟨r,k,u,v,rfl⟩;let il:=Z.trans r;let I:∀d∈ds,oq (bR hs) d=q4:=λd hd=>by let#[j,X,2]:=P4.mp hd;show-k j (by rwa[t.len]) _ (cQ X)
 let L:=Mz.mp I;let Lv:=il _ _ aB;let hlen:=t.len;show#[1,a,xs,2,.inl (aI.of Lv),3,1,4];by_cases D:ds.Z<=40
 .refine eM (c9 qI) #[1,.ref a,bR hs,ds,2,bc.same il,I,λa5 s3=>?_];let m:=il.trans s3;show#[3,1,4];by_cases N:EL (ds.map qz)<=30
  .refine eM (c9 qI) ?_;show#[1,a,xs,2,.inl (aI.of (m _ _ aB)),λeC Dq=>?_];let b3:=bT (o:=.lst xs) Dq;show-q #[L,D,N] eC _ (m.free Dq) (m.trans b3) (.lst aQ hz (t.same (m.trans b3)))
  show-d1 (cw qI) #[sz_,go _ _ m (by rw[L];rfl) λY=>N Y.2.2]
 show-d1 (cw qI) ?_;show-jr #[sz_,go _ _ il (by rw[L];rfl) λY=>D Y.2.1]
def ta(n l y:Addr):List (Str×aq.V):=[("net",.ref n),("kept_letters",.ref l),("ways",.ref y),("day",.cf)]
end
structure qv(K:aL)(C:Addr):Prop where
 cl:fw K C
 nn:c7 K (.ref C) "net"=j3 jp
 nl:c7 K (.ref C) "kept_letters"=j3 jp
 jO:c7 K (.ref C) "ways"=j3 jp
 aA:c7 K (.ref C) "day"=j3 jp
set_option genInjectivity false in
structure g0 where
 (al n l y t bp bl:Addr)
 rs:List Addr
set_option genInjectivity false in
structure h4 where
 hs:List bB
 ds:List cm.fV
 bh:List u0
 tb:List Row
def pH(d:u0):PyData:=.tuple [.str d.1,.int d.2.1,.str d.2.2]
structure JX(H:ag)(A ez:g0):Prop where
 t:ez.t=A.t\/H ez.t=jp
 l:ez.l=A.l\/H ez.l=jp
 a:ez.bp=A.bp\/H ez.bp=jp
 b:ez.bl=A.bl\/H ez.bl=jp
structure ff(CK CW CN:Addr)(H:ag)(x:Addr)(A:g0)(s:h4):Prop where
 ins:H x=j3 (.ins CK A.al (ta A.n A.l A.y))
 ft:mP CW CN H A.y A.n A.t A.bp A.bl (c1 s.hs) (aT A.rs) (dG s.tb)
 i':gG H s.hs A.rs s.ds
 lt:cO H (.ref A.l) (.list (s.bh.map pH))
def ff.same{A:g0}{s:h4}(D:ff e i h H x A s)(a:aD H H'):ff e i h H' x A s:=(#[a _ _ D.ins,D.ft.same a,D.i'.same a,D.lt.same a])
def Tame(o:hP):Prop:=(∀C d n l y,o≠.ins C d (ta n l y))/\∀k,o≠.c3 k
def qw(H H':ag):Prop:=∀b o,Tame o->H b=j3 o->H' b=j3 o
def t7:Tame (.lst l):=(#[λ_ _ _ _ _=>nofun,λ_=>nofun])
def Z_:Tame (.tup l):=(#[λ_ _ _ _ _=>nofun,λ_=>nofun])
def DA{t:Addr}:Tame (.ins C d (md n t)):=(#[λ_ _ _ _ _ h=>(by injection h with _ _ h;show-bt (fe rN h) (show¬(2:Nat)=4 by decide)),λ_=>nofun])
def alr:Tame (.ins C d (Rf a b)):=(#[λ_ _ _ _ _ h=>(by injection h with _ _ h;show-bt (fe rN h) (show¬(2:Nat)=4 by decide)),λ_=>nofun])
theorem iC.jv(n:iC C H x bp bl xs e)(a:qw H H'):iC C H' x bp bl xs e:=
 let⟨b,h⟩:=n.ins
 #[#[b,a _ _ alr h],a _ _ t7 n.GW,a _ _ t7 n.sZ]
def eG.jv{rs ds}(h:eG H rs ds)(a:qw H H'):eG H' rs ds:=(bV.kv h λ_ _ e=>a _ _ Z_ e)
def gG.jv{hs rs ds}(r:gG H hs rs ds)(a:qw H H'):gG H' hs rs ds:=(#[r.hE.jv a,r.ok])
def cO.jv{d:PyData}(h:cO H v d)(a:qw H H'):cO H' v d:=(h.keep (λ_ _=>a _ _ t7) (λ_ _=>a _ _ Z_))
def μ(x t:Addr)(H H':ag):Prop:=∀b o,b≠x->b≠t->H b=j3 o->H' b=j3 o
def OS{a b:bb}{k:Nat}(h:k<a.Z):(a++b).getD k []=a.getD k []:=by rw[dB,dB,JI h]
def ano{a:bb}{d:cm.fV}(ok:d.Ok a.Z)(b:bb):kA (a++b) d=kA a d:=by unfold kA;rw[OS ok.a,OS ok.b]
def gG.Lq{hs rs ds}(r:gG H hs rs ds)(a:bb):gG H (hs++a) rs ds:=by
 show#[4,λd b=>?_]
 .rw[rP λd b=>ano (r.ok d b) a];show-r.hE
 let o:=r.ok d b;let l:(hs++a).Z=hs.Z+a.Z:=c0;show#[by rw[l];show-iR o.a (Qa ..),by rw[l];show-iR o.b (Qa ..),o.ne,o.t,o.m]
structure qx(hs:bb)(ds:b0)(r:Row):Prop where
 a:r.1∈hs.map S
 b:r.2.1∈hs.map S
 ne:r.1≠r.2.1
 at_:∃(k:Nat)(d:cm.fV),r.2.2=(k:Int)/\ds[k]?=j3 d/\S (hs.getD d.a [])=r.1
def qx.un{r:Row}(o:qx hs ds r):kN (bR hs) (.str r.1) (.str r.2.1)=q4:=(zY o.a o.b o.ne)
def als{a:bb}{ds:b0}{k:Nat}{d:cm.fV}{h:Str}(e:ds[k]?=j3 d)(b:S (a.getD d.a [])=h):(k:Int)∈mn a ds (·.a) h:=by
 unfold mn EB;show-bQ.mpr #[k,hH.mpr #[kF.mpr (fU.mp e).1,cw ?_],2];let cG:ds.getD k e1=d:=by rw[dB,e];rfl
 rw[cG];show-fe V.str b
def qx.ayj{r:Row}(o:qx hs ds r):r.2.2∈mn hs ds (·.a) r.1:=by let#[k,d,e,cG,a]:=o.at_;rw[e];show-als cG a
def qx.Lq{a:bb}{ds:b0}{r:Row}(o:qx a ds r)(ok:∀d∈ds,d.Ok a.Z)(c:bb):qx (a++c) ds r:=by
 let#[k,d,e,cG,b]:=o.at_;show#[4,4,o.ne,k,d,e,cG,4]
 .rw[eb];show-P1 _ o.a
 .rw[eb];exact P1 _ o.b
 rwa[OS (ok d (dm cG)).a]
def qx.auy{ds:b0}{r:Row}(o:qx hs ds r)(a:b0):qx hs (ds++a) r:=by let#[k,d,e,cG,b]:=o.at_;show#[o.a,o.b,o.ne,k,d,e,4,b];rw[JI (fU.mp cG).1];show-cG
structure kW(hs:bb)(ds:b0)(tb:List Row):Prop where
 aA:(tb.map λr=>(r.1,r.2.1)).Nodup
 bX:tb.Z<64
 ok:∀r∈tb,qx hs ds r
section
variable{P:cq}{w:bW}{K:aL}{mg:b5}{base:Heap}
inductive Ru(CK CW CN:Addr)(vs:aV)(H:ag)(Q:aX)(E:bM):Prop where
 |mk(x fj a2 dg:Addr)(A:g0)(s:h4)(hs:bb)(rs:bS)(ds:b0)(_:vs=[.ref x,.ref fj])(_:ff CK CW CN H x A s)(_:iC CN H fj a2 dg (c1 hs) (aT rs))(_:Good hs)(_:gG H hs rs ds)(_:rs.Z<=40)(_:kW hs ds s.tb)(_:∀H' eP t',H eP=jp->H t'=jp->(∀b o,b≠x->H b=j3 o->H' b=j3 o)->ff CK CW CN H' x ⟨A.al,fj,A.l,eP,t',a2,dg,rs⟩ ⟨hs,ds,s.bh,pK s.tb⟩->Q .cf H')
abbrev H0:Stmt:=ij (top 120) 2
def Rv:cJ ["self","net","ways","pair"] my (b_ H0):=({})
inductive agP(ah:ag)(x fj eP t':Addr)(rows:List Row)(j:Nat)(aa:aq.St)(H:ag):Prop where
 |mk(v:ji)(_:aa=[j3 (.ref x),j3 (.ref fj),j3 (.ref eP),v])(_:∀b o,b≠t'->ah b=j3 o->H b=j3 o)(_:H t'=j3 (.c3 (dG (rows.take j))))
def aqF{f:Addr}(F:cp K "change_net" "Desk.change_net" H0 f fd)(L:qv K u)(hb:fw K i)(sP:mg "Ways"=j3 (.ref i))(Iy:o8 K i j0)(oj:nW K i "Ways.__init__" D5 my j0 sk)(vc:-aH a9 1 j0 sk my (KC i))(zr:dn K i "pairs" "Ways.pairs" Nl gx f1 cW)(agd:-aH a9 1 f1 cW gx (aaV i))(oc:dn K i "set_way" "Ways.set_way" D4 tB f2 d8)(wA:-aH (fE P w) 3 f2 d8 tB (Rn i CN hQ Bx)):
  -aH a9 4 f fd my (Ru u i CN):=by
 show-F.ok Rv (λ_ h2 _ s0 H vs Q E ao h=>?_);let#[x,m,a2,dg,A,s,hs,rs,ds,2,D,N,G,R,axu,T,q]:=h;show#[_,(a7 (cE 2 Rv.aA (vr Iy vc ao.mono xo sP oj.bd .nil b9 (aj (ae 1) aw)))
  (a7 (kq kH rfl (h7 (sF (eX (ae 0)) hb zr.eO agd ao.mono zr.bd .nil b9)) (dV 3 Rv.aA)
   (a_ (gL (gp (ae 2) hb oc.eO wA ao.mono oc.bd .nil xE (aj (cn ey (ae 3) a8) (aj (cn ey (ae 3) a8) (aj (cn ey (ae 3) a8) aw)))))))
  (a7 (oG (ae 0) (ae 1) rfl)
  (a_ (oG (ae 0) (ae 2) rfl))))),4]
 ac_rfl
 show-cut λZ U=>?_;show#[1,λc d jO Hx aw9=>#[c,d,1,aQ,λg fl=>#[2,4]]];let X:H g=jp:=gH (hq (o:=.ins i d []) jO (bT (o:=.own c) Hx)) fl;let ty:c≠g:=dj (H:=upd (upd H d (.own c)) c (.ins i d [])) aQ fl;let t:aD H (upd (upd (upd (upd H d (.own c)) c (.ins i d [])) g (.c3 [])) c (.ins i d (md m g))):=hq jO (hq X (hq jO (bT Hx)));let Uv:upd (upd (upd (upd H d (.own c)) c (.ins i d [])) g (.c3 [])) c (.ins i d (md m g)) c=j3 (.ins i d (md m g)):=aQ;let wW:upd (upd (upd (upd H d (.own c)) c (.ins i d [])) g (.c3 [])) c (.ins i d (md m g)) g=j3 (.c3 []):=by rw[aR (e5 ty),aQ]
 show-eL Z U λZ U=>?_;show jQ _ _ _ _ (upd (upd (upd (upd H d (.own c)) c (.ins i d [])) g (.c3 [])) c (.ins i d (md m g)));generalize upd (upd (upd (upd H d (.own c)) c (.ins i d [])) g (.c3 [])) c (.ins i d (md m g))=rJ at t Uv wW⊢;let#[I,M]:=D.ft.ins;let cX:x≠g:=dj D.ins X;show#[1,x,u,A.al,_,1,t _ _ D.ins,L.cl,L.jO,2,A.y,I,1,t _ _ M,2,A.y,I,A.n,A.t,s.tb,2,t _ _ M,t _ _ D.ft.told,T.bX,λl ah ts nl y au cN=>#[l,2,#[_,aI.of au],4]];let#[jb,Su,Ea]:=aly cN;rw[Su]at au;let Ds:l≠g:=e5 (dj wW nl);let O:=Ea.len;rw[aM]at O;let pm:(pK s.tb).Perm s.tb:=ahw s.tb;let awJ:((pK s.tb).map λr=>(r.1,r.2.1)).Nodup:=(pm.map _).nodup_iff.mpr T.aA;let bX:(pK s.tb).Z<64:=by rw[pm.length_eq];show-T.bX
 show-q6 (K:=K) (a:=l) (xs:=aT jb) (agP ah x m c g (pK s.tb)) #[jp,2,λb o _ e=>e,y _ _ wW] (λj aa n _⟨_,_,h,_⟩=>aI.of (h l _ Ds au)) ?_ ?_
 .rintro j v aa n ev ⟨hk,rfl,p,Y⟩;unfold aT at ev;rw[cR]at ev;let#[nJ,atP,2]:=e6.mp ev;let#[cA,C,J]:=bV.get Ea atP;rw[cR]at C;let#[r,dH,2]:=e6.mp C;let ok:=T.ok r (pm.mem_iff.mp (dm dH));let k:aD H n:=λb o e=>p b o (dj e X) (y _ _ (t _ _ e));let Uj:=cj.of (K:=K) (p nJ _ (aq.gP J (y _ _ wW) (by intro z;cases z)) J);let B:=p c _ ty (y _ _ Uv);show#[1,c,d,1,B,7,nJ,_,3,Uj,7,nJ,_,3,Uj,7,nJ,_,3,Uj,2,c,m,g,a2,dg,hs,rs,ds,dG ((pK s.tb).take j),r.1,r.2.1,r.2.2,2,#[#[d,B],N.same k,Y],G,R.same k,axu,xu G ok.a,xu G ok.b,el ?_,λ_ _ a5 s3=>#[1,λb o V e=>?_,4],λno=>bt (ok.un.symm.trans no) x8,λ_ no=>bt ok.ayj no]
  .unfold dG;rw[aM,jh]
   lia
  .rw[aR V];show-s3 _ _ (p b o V e)
  rw[aQ,akm awJ dH]
 rintro aa n ⟨hk,rfl,p,Y⟩;rw[eW,O,n1]at Y;let k:aD H n:=λb o e=>p b o (dj e X) (y _ _ (t _ _ e));let B:=p c _ ty (y _ _ Uv);show-eL Z U λZ U=>?_;show#[5,x,u,A.al,1,k _ _ D.ins,L.cl,L.nn,(by show 4<1000;decide),4];subst U;show#[5,x,u,A.al,1,aQ,L.cl,L.jO,(by show 4<1000;decide),4];rw[Oi];let aEe:=aq.gP B (k _ _ D.ins) (by intro z;cases z);let kO:∀b o,b≠x->n b=j3 o->upd n x (.ins u A.al (ta m A.l c)) b=j3 o:=λb o V e=>by rwa[aR V]
 let st:qw n (upd n x (.ins u A.al (ta m A.l c))):=λb o to e=>kO b o (λz=>to.1 _ _ _ _ _ (gk (e.symm.trans ((fe n z).trans (k _ _ D.ins))))) e;show-q _ c g jO X (λb o V e=>kO b o V (k _ _ e)) #[aQ,#[#[d,st _ _ DA B],(N.same k).jv st,kO _ _ (e5 cX) Y],(R.same k).jv st,(D.lt.same k).jv st]
structure g4(s:h4):Prop where
 g:Good s.hs
 bX:s.ds.Z<=40
 tb:kW s.hs s.ds s.tb
 kr:s.hs.Z<=7
 lf:s.bh.Z<=10
 lk:∀d∈s.bh,d.1∈s.hs.map S/\d.2.2∈s.hs.map S/\d.1≠d.2.2/\0<=d.2.1/\d.2.1<=1000000000
abbrev Rw:Stmt:=top 97
def aqG:cJ gF gF (b_ Rw):=({})
inductive aag(CK CW CN:Addr)(vs:aV)(H:ag)(Q:aX)(E:bM):Prop where
 |mk(x v:Addr)(A:g0)(s:h4)(n:bB)(_:vs=[.ref x,.ref v])(_:ff CK CW CN H x A s)(_:H v=j3 (.lst [.str (S n)]))(_:g4 s)(_:Good (s.hs++[n]))(_:∀H'(ez:g0),JX H A ez->(∀b o,b≠x->H b=j3 o->H' b=j3 o)->ff CK CW CN H' x ez ⟨s.hs++[n],s.ds,s.bh,pK s.tb⟩->Q (.str "ok") H')
def aoY{f:Addr}(F:cp K "take_house" "take_house" Rw f fd)(L:qv K j)(pD:fw K j)(J:fw K i)(pG:mg "Net"=j3 (.ref i))(Z:o8 K i T)(lr:nW K i "Net.__init__" AH qM T sk)(qY:-aH a9 5 T sk qM (IM K i))(R:dn K i "houses" "Net.houses" w5 gx f1 cW)(nc:-aH a9 1 f1 cW gx (zB i))(U:dn K i "roads" "Net.roads" zX gx f2 d8)(qV:-aH a9 1 f2 d8 gx (DW i))(Y:dn K j "change_net" "Desk.change_net" H0 my cV iz)(U7:-aH a9 4 cV iz my (Ru j CW i)):
  -aH a9 7 f fd gF (aag j CW i):=by
 show-F.ok aqG (λ_ h2 _ s0 H vs Q E d h=>?_);show#[_,(a7 (gL (gp (ae 0) pD Y.eO U7 d.mono Y.bd .nil b9 (aj (vr Z qY d.mono xo pG lr.bd .nil b9 (aj (br jI (sF (eX (ae 0)) J R.eO nc d.mono R.bd .nil b9) (ae 1)) (aj (sF (eX (ae 0)) J U.eO qV d.mono U.bd .nil b9) aw))) aw)))
  (a_ (cc cz))),4]
 ac_rfl
 show-cut λbZ bF=>?_;let#[x,v,A,s,n,2,D,bc,g,y,q]:=h;let#[M,hn]:=D.ft.g7.ins;let S9:=g.g.bX;show#[1,x,A.al,1,D.ins,2,#[1,x,j,A.al,_,1,D.ins,L.cl,L.nn,2,A.n,M,1,hn,2,Τ D.ft.g7 λl p0 B au=>#[1,oU au (B _ _ bc) (hn:=el (by rw[xe];lia)) λp H1 aJ C=>?_]]];let k:=B.trans aJ;show#[1,x,j,A.al,_,1,k _ _ D.ins,L.cl,L.nn,2,A.n,M,1,k _ _ hn,2,ľ (D.ft.g7.same k) λr m u LW=>?_];intro a c X aA MG;let V:aD m (upd (upd m c (.own a)) a (.ins i c [])):=hq X (bT aA);let O:upd (upd m c (.own a)) a (.ins i c []) a=j3 (.ins i c []):=aQ;generalize upd (upd m c (.own a)) a (.ins i c [])=a5 at V O⊢;let N:=k.trans (u.trans V);let I:A.rs.Z<=40:=by rw[D.i'.len];show-g.bX
 let e:c1 s.hs++[.str (S n)]=c1 (s.hs++[n]):=by unfold c1;rw[eb];rfl
 rw[e]at C;show#[a,c,p,r,s.hs++[n],A.rs,s.ds,2,O,V _ _ (u _ _ C),y,V _ _ LW,(D.i'.same N).Lq [n],I,λdx z G c6 ai ak a6 e2 mR=>#[2,4]];let Dt:=gH (k.trans u) X;let t:aD H dx:=λb o e=>c6 b o (dj e Dt) (N _ _ e);show#[x,a,z,G,A,s,s.hs++[n],A.rs,s.ds,2,D.same t,#[#[c,ai],ak,a6],y,(D.i'.same t).Lq [n],I,#[g.tb.aA,g.tb.bX,λr d=>(g.tb.ok r d).Lq D.i'.ok [n]],λbH eP t' jO fl aN dN=>?_];subst bF;show-q bH #[A.al,a,A.l,eP,t',z,G,A.rs] #[.inr (gH t fl),.inl rfl,.inr (gH N e2),.inr (gH N mR)] (λb o nb e=>aN b o nb (t _ _ e)) dN
abbrev Rx:Stmt:=top 98
def aah:cJ ["desk","values","roads"] gF (b_ Rx):=({})
inductive aai(CK CW CN:Addr)(vs:aV)(H:ag)(Q:aX)(E:bM):Prop where
 |mk(x v:Addr)(A:g0)(s:h4)(d:cm.fV)(_:vs=[.ref x,.ref v])(_:ff CK CW CN H x A s)(_:H v=j3 (.lst (kA s.hs d)))(_:g4 s)(_:d.Ok s.hs.Z)(_:s.ds.Z<40)(_:∀H'(ez:g0),JX H A ez->(∀b o,b≠x->H b=j3 o->H' b=j3 o)->ff CK CW CN H' x ez ⟨s.hs,s.ds++[d],s.bh,pK s.tb⟩->Q (.str (S (ct s.ds.Z))) H')
def aoZ{f:Addr}(F:cp K "take_road" "take_road" Rx f fd)(B:fc mg)(I:qv K j)(pD:fw K j)(eZ:fw K i)(pG:mg "Net"=j3 (.ref i))(Ak:o8 K i j0)(lr:nW K i "Net.__init__" AH qM j0 sk)(qY:-aH a9 5 j0 sk qM (IM K i))(iV:dn K i "houses" "Net.houses" w5 gx f1 cW)(nc:-aH a9 1 f1 cW gx (zB i))(lp:dn K i "roads" "Net.roads" zX gx f2 d8)(qV:-aH a9 1 f2 d8 gx (DW i))(r2:dn K j "change_net" "Desk.change_net" H0 my cV iz)(U7:-aH a9 4 cV iz my (Ru j CW i)):
  -aH a9 7 f fd gF (aai j CW i):=by
 show-F.ok aah (λ_ h2 _ s0 H vs Q E L h=>?_);show#[_,(a7 (cE 2 aah.aA (sF (eX (ae 0)) eZ lp.eO qV L.mono lp.bd .nil b9))
  (a7 (gL (gp (ae 0) pD r2.eO U7 L.mono r2.bd .nil b9 (aj (vr Ak qY L.mono xo pG lr.bd .nil b9 (aj (sF (eX (ae 0)) eZ iV.eO nc L.mono iV.bd .nil b9) (aj (br jI (ae 2) (eY (aj (hS VX B.tuple DV (aj (ae 1) aw)) aw))) aw))) aw)))
  (a_ (cc (hS oh B.str mO (aj (dp hI B.len g_ (aj (ae 2) aw)) aw)))))),4]
 ac_rfl
 show-cut λbZ Y=>?_;let#[x,v,A,s,d,2,D,bc,m,sa,atp,q]:=h;let#[fR,hn]:=D.ft.g7.ins;let S9:=m.g.bX;let eH:A.rs.Z=s.ds.Z:=D.i'.len;let M8:=m.bX;show#[1,x,j,A.al,_,1,D.ins,I.cl,I.nn,2,A.n,fR,1,hn,2,ľ D.ft.g7 λr p0 t C=>?_];show-eL bZ Y λbZ Y=>?_;show#[1,x,A.al,1,t _ _ D.ins,2,#[1,x,j,A.al,_,1,t _ _ D.ins,I.cl,I.nn,2,A.n,fR,1,t _ _ hn,2,Τ (D.ft.g7.same t) λl H1 y au=>?_]];let X:=y _ _ (t _ _ bc);show#[5,v,1,.inl #[aI.of X,λk MO=>gs λp A_ T az=>oU (T _ _ (bT MO _ _ (y _ _ C))) az (hn:=el (by rw[eW];lia)) λc G aJ av=>?_]];let z:=T.trans aJ;let O:=(bT MO).trans z;let R:=z _ _ aQ;clear z T aJ az;intro a g M aA MG;let n:aD G (upd (upd G g (.own a)) a (.ins i g [])):=hq M (bT aA);let hB:upd (upd G g (.own a)) a (.ins i g []) a=j3 (.ins i g []):=aQ;generalize upd (upd G g (.own a)) a (.ins i g [])=a5 at n hB⊢;let il:=t.trans (y.trans O);let J:=il.trans n;let dH:aT A.rs++[.ref k]=aT (A.rs++[k]):=by unfold aT;rw[eb];rfl
 rw[dH]at av;let n5:∀{V:ag},aD H V->V k=j3 (.tup (kA s.hs d))->gG V s.hs (A.rs++[k]) (s.ds++[d]):=λ{V}N b8=>by
  show#[4,λe he=>?_]
  .rw[eb];exact(D.i'.hE.same N).snoc b8
  rcases gU.mp he with h|h
  .exact D.i'.ok e h
  rwa[e4.mp h]
 let u:(A.rs++[k]).Z<=40:=by rw[c0];show A.rs.Z+1<=40;lia
 show#[a,g,l,c,s.hs,A.rs++[k],s.ds++[d],2,hB,n _ _ (O _ _ au),m.g,n _ _ av,n5 J (n _ _ R),u,λV a2 dg c6 ai ak a6 e2 mR=>#[2,4]];let Dt:=gH il M;let N:aD H V:=λb o e=>c6 b o (dj e Dt) (J _ _ e);show#[x,a,a2,dg,A,s,s.hs,A.rs++[k],s.ds++[d],2,D.same N,#[#[g,ai],ak,a6],m.g,n5 N (c6 _ _ (dj R M) (n _ _ R)),u,#[m.tb.aA,m.tb.bX,λr L=>(m.tb.ok r L).auy [d]],λZ eP t' jO fl aN dN=>?_];subst Y;let U:Z r=j3 (.lst (aT A.rs)):=aN _ _ (aq.gP (t _ _ D.ins) C (by intro z;cases z)).symm (c6 _ _ (dj (O _ _ (y _ _ C)) M) (n _ _ (O _ _ (y _ _ C))));show#[1,r,1,.inl (aI.of U),((s.ds.Z:Nat):Int),4,sH qI,4]
 .rw[eW,eH]
 show Q (.str (cU (toString ((s.ds.Z:Nat):Int)))) Z;rw[nz];show-q Z #[A.al,a,A.l,eP,t',a2,dg,A.rs++[k]] #[.inr (gH N fl),.inl rfl,.inr (gH J e2),.inr (gH J mR)] (λb o nb e=>aN b o nb (N _ _ e)) dN
abbrev FR(r:Row):Str×Str:=(r.1,r.2.1)
def oX(a:List Row)(h g:Str):List Row:=a.filter λr=>decide (FR r≠(h,g))
def ao0(r:Row)(h g:Str):([.inr r.1,.inr r.2.1]:List bD)=gu h g↔FR r=(h,g):=by unfold gu FR;simp only[PT,akw,and_true,Prod.mk.injEq]
def Oc(a:List Row)(h g:Str):uD (dG a) (gu h g)=dG (oX a h g):=by unfold uD oX dG;rw[E5];show-fe (v9 _) (List.filter_congr λr _=>?_);show-decide_eq_decide.mpr (not_congr (ao0 r h g))
theorem kW.pop{a:List Row}(T:kW hs ds a)(h g:Str):kW hs ds (oX a h g):=
 #[(List.filter_sublist.map _).nodup T.aA,p6 (yc _ _) T.bX,λr b=>T.ok r (hH.mp b).1]
def anp{a:bb}{b:List Row}(d:a.Z<=7)(f:(b.map FR).Nodup)(ok:∀r∈b,qx a ds r):b.Z<64:=by
 let h:=alz (L:=a.map S) f λp g=>by let#[r,c,2]:=bQ.mp g;show#[(ok r c).a,(ok r c).b]
 rw[aM,aM]at h;have:a.Z*a.Z<=7*7:=Fp d d
 lia
end
def Ym{c:bb}{ds:b0}{g:List Row}(R:∀d∈ds,d.Ok c.Z)(y:c.Z<=7)(w:g.Nodup)(f:∀r,r∈g↔r∈KN c ds (c.map S)):kW c ds g:=by
 let z:∀e∈ix c ds,1<=e.t:=λe s=>by let#[d,q,2]:=bQ.mp s;exact(R d q).t.1
 let ok:∀r∈g,qx c ds r:=λr h=>by let#[a,b,m,x,l]:=OE ((f r).mp h);let#[v,o]:=yz.mp x;let p:=(OJ z o m).1;rw[<-l]at p;let#[i,u]:=nY p;let#[k,d,L,K,j]:=OK (v:=.int r.2.2) (by rw[cR,u];rfl);show#[a,b,m,k,d,V.int.inj L,K,j]
 let t:(g.map FR).Nodup:=yd.mpr (w.imp_of_mem λ{a b}A N m e=>m (by
  let#[6,6,n]:=OE ((f a).mp A);let#[6,6,l]:=OE ((f b).mp N);let#[B,C,E]:=a;let#[b1,D,F]:=b;cases e;dsimp only at n l;rw[n,l]))
 show#[t,anp y t ok,ok]
def ni.alike{c d:eo}(a:ni hs ds c)(b:ni hs ds d)(h g:Str):c8 c (gu h g)=c8 d (gu h g):=by
 by_cases m:h∈hs.map S/\h≠g/\(iG hs ds h g).isSome=q4
 .rw[a.jY.yes h g m,b.jY.yes h g m]
 rw[a.jY.no h g m,b.jY.no h g m]
section
variable{P:cq}{w:bW}{K:aL}{mg:b5}{base:Heap}
abbrev Ry:Stmt:=top 101
def aqH:cJ gF gF (b_ Ry):=({})
inductive aaj(CK CW CN:Addr)(vs:aV)(H:ag)(Q:aX)(E:bM):Prop where
 |mk(x:Addr)(v:aq.V)(A:g0)(s:h4)(_:vs=[.ref x,v])(_:ff CK CW CN H x A s)(_:g4 s)(_:∀H'(ez:g0)(tb:List Row),JX H A ez->(∀b o,b≠x->H b=j3 o->H' b=j3 o)->ni s.hs s.ds (dG tb)->kW s.hs s.ds tb->ff CK CW CN H' x ez ⟨s.hs,s.ds,s.bh,tb⟩->Q (.str "ok") H')
def ao1{f:Addr}(F:cp K "take_shortest" "take_shortest" Ry f fd)(d:qv K i)(O:bU K mg "shortest" H5 ["net"] f1 y)(r:-aH a9 4 f1 y ["net"] (Rk u j)):
  -aH a9 5 f fd gF (aaj i u j):=by
 show-F.ok aqH (λ_ U _ Y H Z Q E L h=>?_);show#[_,(a7 (oG (ae 0) (c2 r O L.mono b9 (aj (eX (ae 0)) aw)) rfl)
  (a_ (cc cz))),4]
 ac_rfl
 show-cut λR N=>?_;let#[x,v,A,s,2,D,k,q]:=h;let C:A.rs.Z<=40:=by rw[D.i'.len];show-k.bX
 show#[1,x,i,A.al,_,1,D.ins,d.cl,d.nn,2,A.n,A.bp,A.bl,s.hs,A.rs,s.ds,2,D.ft.g7,k.g,D.i',C,λg I a G X p c W T=>#[1,x,i,A.al,1,c _ _ D.ins,d.cl,d.jO,(by show 4<1000;decide),4]];let#[J,2,t,m]:=T.rows;subst N;let#[B,V]:=W.ins;let l:∀b o,b≠x->a b=j3 o->upd a x (.ins i A.al (ta A.n A.l g)) b=j3 o:=λb o n e=>by rwa[aR n]
 let st:qw a (upd a x (.ins i A.al (ta A.n A.l g))):=λb o M e=>l b o (λz=>M.1 _ _ _ _ _ (gk (e.symm.trans ((fe a z).trans (c _ _ D.ins))))) e;show-q _ #[A.al,A.n,A.l,g,I,A.bp,A.bl,A.rs] J #[.inr p,.inl rfl,.inl rfl,.inl rfl] (λb o n e=>l b o n (c _ _ e)) T (Ym D.i'.ok k.kr t m) #[aQ,#[#[B,st _ _ DA V],W.g7.jv st,l _ _ (dj D.ins p).symm W.told],(D.i'.same c).jv st,(D.lt.same c).jv st]
abbrev Rz:Stmt:=top 100
def aqI:cJ gF gF (b_ Rz):=({})
inductive aak(CK CW CN:Addr)(vs:aV)(H:ag)(Q:aX)(E:bM):Prop where
 |mk(x v:Addr)(A:g0)(s:h4)(a b:Str)(_:vs=[.ref x,.ref v])(_:ff CK CW CN H x A s)(_:H v=j3 (.lst [.str a,.str b,.cf]))(_:g4 s)(_:cO H (.str a) (.str a))(_:cO H (.str b) (.str b))(_:kN (bR s.hs) (.str a) (.str b)=q4)(_:∀H',μ x A.t H H'->ff CK CW CN H' x A ⟨s.hs,s.ds,s.bh,oX s.tb a b⟩->Q (.str "ok") H')
def aeq:fx:=λ_ _ _ _=>False
def asH{k:Nat}{f:Addr}:-aH a9 k f fd e aeq:=(#[λ_ _ _ _ h=>h.elim,λ_ _ _ _ _ _ _ _ _ _ _ _ _ h=>h.elim])
def ao2{f:Addr}(F:cp K "take_way" "take_way" Rz f fd)(n:qv K j)(t:fw K i)(N:dn K i "drop_way" "Ways.drop_way" H2 fZ f1 I)(V:-aH (fE P w) 3 f1 I fZ (RI i u hQ))(L:dn K i "set_way" "Ways.set_way" D4 tB f2 J):
  -aH a9 4 f fd gF (aak j i u):=by
 let X:-aH a9 3 f2 J tB aeq:=asH;show-F.ok aqI (λ_ Z _ s0 H vs Q E m h=>?_);show#[_,(a7 (er (fQ vy (cn fG (ae 1) a8) iZ (eK _)) (a_ (gL (gp (eX (ae 0)) t N.eO V m.mono N.bd .nil xE (aj (cn fG (ae 1) a8) (aj (cn fG (ae 1) a8) aw))))) (a_ (gL (gp (eX (ae 0)) t L.eO X m.mono L.bd .nil b9 (aj (cn fG (ae 1) a8) (aj (cn fG (ae 1) a8) (aj (cn fG (ae 1) a8) aw)))))))
  (a_ (cc cz))),4]
 ac_rfl
 show-cut λY C=>?_;let#[x,v,A,s,a,b,2,D,G,M,y,B,T,q]:=h;let d:=aI.of (K:=K) G;let#[r,p]:=D.ft.ins;let U:x≠A.t:=aq.gP D.ins D.ft.told (by intro z;cases z);show#[1,v,_,3,d,2,7,d1 (cw rfl) #[1,x,j,A.al,_,1,D.ins,n.cl,n.jO,2,A.y,r,1,p,7,v,_,3,d,7,v,_,3,d,2,A.y,A.n,A.t,A.bp,A.bl,s.hs,6,a,b,2,D.ft,M.g,y,B,λ_ l O=>?_,λno=>bt (T.symm.trans no) nofun]];subst C;rw[Oc];let g:∀c o,c≠A.t->H c=j3 o->upd l A.t (.c3 (dG (oX s.tb a b))) c=j3 o:=λc o k e=>by rw[aR k];show-O _ _ e
 let st:qw H (upd l A.t (.c3 (dG (oX s.tb a b)))):=λb o R e=>g b o (λz=>R.2 _ (gk (e.symm.trans ((fe H z).trans D.ft.told)))) e;show-q _ (λb o _ k e=>g b o k e) #[g _ _ U D.ins,#[#[r,st _ _ DA p],D.ft.g7.jv st,aQ],D.i'.jv st,D.lt.jv st]
abbrev RA:Stmt:=top 99
def aal:cJ ["desk","values","letter"] gF (b_ RA):=({})
inductive aam(CK CW CN:Addr)(vs:aV)(H:ag)(Q:aX)(E:bM):Prop where
 |mk(x v:Addr)(A:g0)(s:h4)(a b:Str)(t:Nat)(_:vs=[.ref x,.ref v])(_:ff CK CW CN H x A s)(_:H v=j3 (.lst [.str a,.str b,.int (t:Int)]))(_:g4 s)(_:cO H (.str a) (.str a))(_:cO H (.str b) (.str b))(_:yi (bR s.hs) ((s.bh++[(a,(t:Int),b)]).map pH))(_:∀H'(ez:g0),JX H A ez->(∀b o,b≠x->H b=j3 o->H' b=j3 o)->ff CK CW CN H' x ez ⟨s.hs,s.ds,s.bh++[(a,(t:Int),b)],s.tb⟩->Q (.str (S (ct s.bh.Z))) H')
def ao3{f:Addr}(F:cp K "take_letter" "take_letter" RA f fd)(B:fc mg)(d:qv K i)(CO:bU K mg "letters_of" KP Fi f1 cW)(u:-aH (iJ P w) 4 f1 cW Fi (aaf CN o9)):
  -aH a9 5 f fd gF (aam i CW CN):=by
 show-F.ok aal (λ_ h2 _ s0 H vs Q E ao h=>?_);show#[_,(a7 (cE 2 aal.aA (h_ (aj (cn fG (ae 1) a8) (aj (cn fG (ae 1) a8) (aj (cn fG (ae 1) a8) aw)))))
  (a7 (oG (ae 0) (c2 u CO ao.mono JY (aj (eX (ae 0)) (aj (br jI (eX (ae 0)) (eY (aj (ae 2) aw))) aw))) rfl)
  (a_ (cc (hS oh B.str mO (aj (br Ae (dp hI B.len g_ (aj (eX (ae 0)) aw)) a8) aw)))))),4]
 ac_rfl
 show-cut λbZ G=>?_;let#[x,v,A,s,a,b,t,2,D,bc,hR,aB,af,L,q]:=h;let I:=aI.of (K:=K) bc;show#[1,v,_,3,I,7,v,_,3,I,7,v,_,3,I,2,sz_,λlt Ds=>?_];show-eL bZ G λbZ G=>?_;show jQ _ _ _ _ (upd H lt (.tup [.str a,.int t,.str b]));let r:aD H (upd H lt (.tup [.str a,.int t,.str b])):=bT Ds;let b6:upd H lt (.tup [.str a,.int t,.str b]) lt=j3 (.tup [.str a,.int t,.str b]):=aQ;generalize upd H lt (.tup [.str a,.int t,.str b])=N at r b6⊢;generalize iA:s.bh++[(a,(t:Int),b)]=l at q L;let sg:l.map pH=s.bh.map pH++[pH (a,(t:Int),b)]:=by rw[<-iA,eb];rfl
 cases D.lt.same r with
 |@lst _ xs _ au hz Z=>
 let sR:xs.Z=s.bh.Z:=by rw[Z.len,aM]
 let lf:=hR.lf;show#[1,x,i,A.al,_,1,r _ _ D.ins,d.cl,d.nn,2,#[1,x,i,A.al,_,1,r _ _ D.ins,d.cl,d.nl,7,sz_,λp R=>#[A.l,p,xs,1,2,bT R _ _ au,aQ,el (by rw[sR];lia),λc uc=>?_]]];let C:=gH (bT (o:=.lst [.ref lt]) R) uc;let j:aD N (upd (upd N p (.lst [.ref lt])) c (.lst (xs++[.ref lt]))):=hq C (bT R);let Y:upd (upd N p (.lst [.ref lt])) c (.lst (xs++[.ref lt])) c=j3 (.lst (xs++[.ref lt])):=aQ;generalize upd (upd N p (.lst [.ref lt])) c (.lst (xs++[.ref lt]))=ah at j Y⊢;let m:=r.trans j;let jJ:cO ah (.ref c) (.list (l.map pH)):=by rw[sg];show-.lst Y (by rw[c0,sR];show s.bh.Z+1<=100;lia) ((Z.same j).append (.cons (.tup (ds:=[.str a,.int t,.str b]) (j _ _ b6) (by show 3<=100;decide) (.cons (aB.same m) (.cons (.int _) (.cons (af.same m) .nil)))) .nil))
 show#[A.n,A.bp,A.bl,s.hs,_,.ref c,1,D.ft.g7.same m,hR.g,jJ,4,λ_ V k nl s3 U=>?_,λno=>bt L no]
 .simp only[Fw];show-dQ (aiH (XN (n:=1) λe he=>?_)) x8;let#[y,1]:=bQ.mp he;show-b7 1
 let g:=m.trans s3;show#[1,x,i,A.al,1,g _ _ D.ins,d.cl,d.nl,(by show 4<1000;decide),4];subst G;let M:∀b o,b≠x->k b=j3 o->upd k x (.ins i A.al (ta A.n V A.y)) b=j3 o:=λb o O e=>by rwa[aR O]
 let st:qw k (upd k x (.ins i A.al (ta A.n V A.y))):=λb o to e=>M b o (λz=>to.1 _ _ _ _ _ (gk (e.symm.trans ((fe k z).trans (g _ _ D.ins))))) e;let#[d2,cd]:=D.ft.ins;let ur:x≠A.t:=aq.gP D.ins D.ft.told (by intro z;cases z);let J:=q _ #[A.al,A.n,V,A.y,A.t,A.bp,A.bl,A.rs] #[.inl rfl,.inr (gH m nl),.inl rfl,.inl rfl] (λb o O e=>M b o O (g _ _ e)) #[aQ,#[#[d2,st _ _ DA (g _ _ cd)],(D.ft.g7.same g).jv st,M _ _ ur.symm (g _ _ D.ft.told)],(D.i'.same g).jv st,U.jv st];cases U with
 |@lst _ T _ pw L9 L0=>
 let awo:T.Z=s.bh.Z+1:=by rw[L0.len,aM,<-iA,c0];rfl
 let X:((T.Z:Nat):Int)-1=((s.bh.Z:Nat):Int):=by lia
 show#[1,x,i,A.al,_,1,aQ,d.cl,d.nl,2,V,T,2,.inl (aI.of (st _ _ t7 pw)),4];show#[3,1,4,4]
 .rw[X];exact sH qI
 rwa[X,nz]
def γ{b:Type}[DecidableEq b]{a:List (b×aq.V)}{k:b}(h:c8 a k=j3 v):(k,v)∈a:=by unfold c8 at h;let#[p,c,2]:=e6.mp h;let e:p.1=k:=nD (List.find?_some (p:=λd:b×aq.V=>decide (d.1=k)) c);rw[<-e];show-List.mem_of_find?_eq_some c
theorem kW.tab{ds:b0}{a:List Row}(T:kW hs ds a):lg (dG a) ds.Z:=⟨λk v h=>by
 let hm:=γ h;unfold dG at hm;let#[r,f,e]:=bQ.mp hm;let#[i,d,c,b,_]:=(T.ok r f).at_;show#[i,4,(fU.mp b).1];cases e;rw[c]⟩
theorem OU{f:eo}{ds:b0}(t:lg f ds.Z):∀(n:Nat){h:Str}{m:bE}{c d:bB},ic f hs ds g n h m c=.ok d->(∀k∈c,k<ds.Z)->(∀k∈d,k<ds.Z)/\d.Z<=c.Z+n
 |0,h,m,c,d,e,ok=>by cases e;show#[ok,b7 _]
 |n+1,h,m,c,d,e,ok=>by
  unfold ic at e;split at e
  .cases e;show#[ok,9]
  split at e
  .cases e
  rename_i k l;split at e
  .cases e
  rcases t.get h g with⟨_,z⟩|⟨i,_,z,hi⟩
  .rw[z]at l;cases l
  rw[z]at l;cases l;let#[a,b]:=OU t n e λk p=>by
   rcases gU.mp p with h|h
   .exact ok k h
   rwa[e4.mp h]
  show#[a,4];rw[c0,ψ]at b
  lia
abbrev RB:Stmt:=top 103
def aqJ:cJ gF gF (b_ RB):=({})
inductive aan(CK CW CN:Addr)(vs:aV)(H:ag)(Q:aX)(E:bM):Prop where
 |mk(x v:Addr)(A:g0)(s:h4)(a b:Str)(o:Option Nat)(_:vs=[.ref x,.ref v])(_:ff CK CW CN H x A s)(_:H v=j3 (.lst [.str a,.str b]))(_:g4 s)(_:a∈s.hs.map S)(_:b∈s.hs.map S)(_:BL (dZ.dist (ix s.hs s.ds) a b)=mm o)(_:∀m,o=j3 m->m<10 ^ 10)(_:∀H',aD H H'->Q (.str (S (iE o))) H')
def ao4{f:Addr}(F:cp K "tell_far" "tell_far" RB f fd)(d:qv K i)(r:fw K e)(k:dn K e "far" "Net.far" FO fZ f1 j)(m:-aH (fE P w) 3 f1 j fZ (QX e))(C:bU K mg "number_or_dash" H3 o7 f2 u)(l:-aH a9 1 f2 u o7 RG):
  -aH a9 4 f fd gF (aan i CW e):=by
 show-F.ok aqJ (λ_ G _ I H J Q E c h=>?_);show#[_,(a_ (cc (c2 l C c.mono b9 (aj (gp (eX (ae 0)) r k.eO m c.mono k.bd .nil xE (aj (cn fG (ae 1) a8) (aj (cn fG (ae 1) a8) aw))) aw)))),4]
 ac_rfl
 let#[x,v,A,s,a,b,o,2,D,p,V,L,N,z,B,q]:=h;let g:=aI.of (K:=K) p;let#[t,y]:=D.ft.g7.ins;show#[1,x,i,A.al,_,1,D.ins,d.cl,d.nn,2,A.n,t,1,y,7,v,_,3,g,7,v,_,3,g,2,A.n,A.bp,A.bl,s.hs,A.rs,s.ds,a,b,2,D.ft.g7,D.i',V.g.bX,L,N,λH' n=>?_];rw[z];show#[o,2,B,q H' n]
abbrev RC:Stmt:=top 104
def aqK:cJ gF gF (b_ RC):=({})
inductive aao(CK CW CN cS:Addr)(vs:aV)(H:ag)(Q:aX)(E:bM):Prop where
 |mk(x v:Addr)(A:g0)(s:h4)(a b:Str)(_:vs=[.ref x,.ref v])(_:ff CK CW CN H x A s)(_:H v=j3 (.lst [.str a,.str b]))(_:g4 s)(_:a∈s.hs.map S)(_:b∈s.hs.map S)(_:∀aP,ic (dG s.tb) s.hs s.ds b 13 a [a] []=.ok aP->∀H',aD H H'->Q (.str (S (cK [32] (aP.map ct)))) H')(_:∀qF sn,ic (dG s.tb) s.hs s.ds b 13 a [a] []=.no qF sn->∀al H',aD H H'->E (.ref cS) (j3 al) H')
def ao5{f:Addr}(F:cp K "tell_route" "tell_route" RC f fd)(t:qv K u)(hb:fw K o)(N:dn K o "route" "Ways.route" D3 fZ f1 U)(C:-aH (iJ P w) 3 f1 U fZ (KG o y hQ T))(qU:bU K mg "with_blanks" D6 tA f2 Z)(B:-aH a9 2 f2 Z tA (KL K)):
  -aH (iJ P w) 4 f fd gF (aao u o y T):=by
 show-DK F aqK (λ_ h2 _ s0 H vs Q E p h=>?_);show#[_,(a_ (cc (c2 B qU p.mono b9 (aj (gp (eX (ae 0)) hb N.eO C p.mono N.bd .nil XP (aj (cn fG (ae 1) a8) (aj (cn fG (ae 1) a8) aw))) aw)))),4]
 ac_rfl
 let#[x,v,A,s,a,b,2,D,O,c,fi,hK,q,d]:=h;let L:=aI.of (K:=K) O;let#[Y,X]:=D.ft.ins;show#[1,x,u,A.al,_,1,D.ins,t.cl,t.jO,2,A.y,Y,1,X,7,v,_,3,L,7,v,_,3,L,2,A.y,A.n,A.t,A.bp,A.bl,s.hs,A.rs,s.ds,dG s.tb,a,b,2,D.ft,c.g,D.i',c.tb.tab,λ_ _=>?_,λz=>z.elim (bt fi) (bt hK)];cases e:ic (dG s.tb) s.hs s.ds b 13 a [a] []with
 |ok i=>
  intro l n nl g r;let#[ea,hu]:=OU c.tb.tab 13 e (λ_ z=>bt z dU);let of:=c.bX;let G:(i.map j3).map mm=i.map λk:Nat=>V.int (k:Int):=by rw[ek];rfl
  let M:(i.map j3).map iE=i.map ct:=by rw[ek];rfl
  show#[l,i.map j3,2,aI.of (by rwa[G]),by rw[kf]at hu;rw[aM];lia,λk I m em=>?_,λH' s2=>by rw[M];show-q i e H' (g.trans s2)];let#[j,R,2]:=bQ.mp I;cases em;show-iR (ea _ R) (dQ of x8)
 |no qF sn=>
  intro J l n aA nl w7 g hd r;show-d qF sn e J n g
abbrev Nd:Stmt:=ij (top 120) 0
def arZ:cJ gx gx (b_ Nd):=({})
inductive aa9(CK CW CN:Addr)(vs:aV)(H:ag)(Q:aX)(E:bM):Prop where
 |mk(x al:Addr)(_:vs=[.ref x])(_:H x=j3 (.ins CK al []))(_:∀H'(A:g0),A.al=al->H A.t=jp->(∀b o,b≠x->H b=j3 o->H' b=j3 o)->ff CK CW CN H' x A ⟨[],[],[],[]⟩->Q .cf H')
def aqL{f:Addr}(F:cp K "__init__" "Desk.__init__" Nd f fd)(k:qv K i)(pD:fw K i)(pG:mg "Net"=j3 (.ref s))(sP:mg "Ways"=j3 (.ref j))(Ak:o8 K s tM)(lr:nW K s "Net.__init__" AH qM tM Gk)(qY:-aH a9 5 tM Gk qM (IM K s))(Iy:o8 K j j0)(oj:nW K j "Ways.__init__" D5 my j0 sk)(vc:-aH a9 1 j0 sk my (KC j)):
  -aH a9 7 f fd gx (aa9 i j s):=by
 show-F.ok arZ (λ_ h2 _ s0 H vs Q E ao h=>?_);show#[_,(a7 (oG (ae 0) (vr Ak qY ao.mono xo pG lr.bd .nil b9 (aj (eY aw) (aj (eY aw) aw))) rfl)
  (a7 (oG (ae 0) (eY aw) rfl)
  (a7 (oG (ae 0) (vr Iy vc ao.mono xo sP oj.bd .nil b9 (aj (eX (ae 0)) aw)) rfl)
  (a_ (oG (ae 0) iZ rfl))))),4]
 ac_rfl
 show-cut λM C=>?_;let#[x,c,2,J,q]:=h;show#[sz_,λa na=>#[sz_,λb g=>?_]];let D:aD H (upd (upd H a (.lst [])) b (.lst [])):=(bT na).trans (bT g);let aB:upd (upd H a (.lst [])) b (.lst []) a=j3 (.lst []):=bT g _ _ aQ;let af:upd (upd H a (.lst [])) b (.lst []) b=j3 (.lst []):=aQ;generalize upd (upd H a (.lst [])) b (.lst [])=H1 at D aB af⊢;intro n R nn aA MG;let G:aD H1 (upd (upd H1 R (.own n)) n (.ins s R [])):=hq nn (bT aA);show#[n,R,a,b,[],[],[],2,aQ,G _ _ aB,#[λ_ z=>bt z dU,p4,eu _],G _ _ af,Zi [],eu _,λm a2 dg c6 ai ak a6 e2 mR=>#[2,4]];let Dt:=gH D nn;let s3:aD H m:=λb o e=>c6 b o (dj e Dt) (G _ _ (D _ _ e));let V:x≠a2:=dj (G _ _ (D _ _ J)) e2;let u:x≠dg:=dj (G _ _ (D _ _ J)) mR;show#[1,x,i,c,1,s3 _ _ J,k.cl,k.nn,(by show 0<1000;decide),4];show-eL M C λM C=>?_;show jQ _ _ _ _ (upd m x (.ins i c [("net",.ref n)]));let IG:n≠x:=(dj J Dt).symm;let U:∀b o,b≠x->m b=j3 o->upd m x (.ins i c [("net",.ref n)]) b=j3 o:=λb o g e=>by rwa[aR g]
 let WC:∀b o,b≠x->H b=j3 o->upd m x (.ins i c [("net",.ref n)]) b=j3 o:=λb o g e=>U b o g (s3 _ _ e);let N:iC s (upd m x (.ins i c [("net",.ref n)])) n a2 dg (c1 []) (aT []):=#[#[R,U _ _ IG ai],U _ _ V.symm ak,U _ _ u.symm a6]
 let Uq:upd m x (.ins i c [("net",.ref n)]) x=j3 (.ins i c [("net",.ref n)]):=aQ;generalize upd m x (.ins i c [("net",.ref n)])=p at WC N Uq⊢;show#[sz_,λl nl=>#[1,x,i,c,1,bT nl _ _ Uq,k.cl,k.nl,(by show 1<1000;decide),4]];show-eL M C λM C=>?_;show jQ _ _ _ _ (upd (upd p l (.lst [])) x (.ins i c [("net",.ref n),("kept_letters",.ref l)]));let B:l≠x:=(dj Uq nl).symm;let Z:∀b o,b≠x->p b=j3 o->upd (upd p l (.lst [])) x (.ins i c [("net",.ref n),("kept_letters",.ref l)]) b=j3 o:=λb o g e=>by rw[aR g];show-bT nl _ _ e
 let sv:upd (upd p l (.lst [])) x (.ins i c [("net",.ref n),("kept_letters",.ref l)]) l=j3 (.lst []):=by rw[aR B];show-aQ
 let A:upd (upd p l (.lst [])) x (.ins i c [("net",.ref n),("kept_letters",.ref l)]) x=j3 (.ins i c [("net",.ref n),("kept_letters",.ref l)]):=aQ;generalize upd (upd p l (.lst [])) x (.ins i c [("net",.ref n),("kept_letters",.ref l)])=r at Z sv A⊢;show#[1,x,i,c,_,1,A,k.cl,k.nn,2,λy d T Hx aw9=>#[y,d,1,aQ,λt fl=>#[2,4]]];let X:r t=jp:=gH (hq (o:=.ins j d []) T (bT (o:=.own y) Hx)) fl;let ty:y≠t:=dj (H:=upd (upd r d (.own y)) y (.ins j d [])) aQ fl;let O:aD r (upd (upd (upd (upd r d (.own y)) y (.ins j d [])) t (.c3 [])) y (.ins j d [("net",.ref n),("told",.ref t)])):=hq T (hq X (hq T (bT Hx)));let L:upd (upd (upd (upd r d (.own y)) y (.ins j d [])) t (.c3 [])) y (.ins j d [("net",.ref n),("told",.ref t)]) y=j3 (.ins j d [("net",.ref n),("told",.ref t)]):=aQ;let GY:upd (upd (upd (upd r d (.own y)) y (.ins j d [])) t (.c3 [])) y (.ins j d [("net",.ref n),("told",.ref t)]) t=j3 (.c3 []):=by rw[aR (e5 ty),aQ]
 generalize upd (upd (upd (upd r d (.own y)) y (.ins j d [])) t (.c3 [])) y (.ins j d [("net",.ref n),("told",.ref t)])=bH at O L GY⊢;show#[1,x,i,c,1,O _ _ A,k.cl,k.jO,(by show 2<1000;decide),4];subst C;show#[1,x,i,c,1,aQ,k.cl,k.aA,(by show 3<1000;decide),4];rw[Oi];let ay6:y≠x:=(dj A T).symm;let ur:t≠x:=(dj A X).symm;let Y:∀b o,b≠x->bH b=j3 o->upd bH x (.ins i c (ta n l y)) b=j3 o:=λb o g e=>by rwa[aR g]
 let I:∀b o,b≠x->p b=j3 o->upd bH x (.ins i c (ta n l y)) b=j3 o:=λb o g e=>Y b o g (O _ _ (Z b o g e));let#[ko,hB]:=N.ins;let ayb:H t=jp:=by
  cases e:H t with
  |none=>rfl
  |some o=>rw[Z t o ur (WC t o ur e)]at X;cases X
 refine q _ #[c,n,l,y,t,a2,dg,[]] rfl ayb (λb o g e=>I b o g (WC b o g e)) #[aQ,#[#[d,Y _ _ ay6 L],#[#[ko,I _ _ IG hB],I _ _ ?_ N.GW,I _ _ ?_ N.sZ],Y _ _ ur GY],Zi [],.lst (Y _ _ B (O _ _ sv)) (eu _) .nil]
 .exact V.J
 show-u.J
abbrev Wd:Stmt:=top 18
def ar0:cJ kg kg (b_ Wd):=({})
abbrev Nq:Stmt:=top 84
def ar1:cJ jV jV (b_ Nq):=({})
theorem Pn{y:bB}{c:Nat}:∀{d:bb},c∈cK y d->c∈y\/∃p∈d,c∈p
 |[],h=>nomatch h
 |[p],h=>.inr #[p,.head _,h]
 |p::q::r,h=>by
  let f:c∈p++y++cK y (q::r):=h;rcases gU.mp f with b|b
  .rcases gU.mp b with a|a
   .exact .inr #[p,.head _,a]
   show-.inl a
  rcases Pn b with a|⟨i,a6,e⟩
  .exact .inl a
  show-.inr #[i,.tail _ a6,e]
def qn(b:df):List bB:=ct b.1::(ct b.2.1++[58])::b.2.2.map ct
def NT{b:df}(h:b.2.2≠[]):hZ b=cK [32] (qn b):=by
 let#[t,r,a]:=b;cases a with
 |nil=>exact bt rfl h
 |cons n a=>
  show ct t++[32]++ct r++[58,32]++cK [32] (ct n::a.map ct)=ct t++[32]++(ct r++[58]++[32]++cK [32] (ct n::a.map ct));simp
theorem aia{b:df}:∀p∈qn b,32∉p:=λp a z=>by
 unfold qn at a;rcases et.mp a with rfl|a
 .have:=(l_ z).1;lia
 rcases et.mp a with rfl|a
 .rcases gU.mp z with z|z
  .have:=(l_ z).1;lia
  have:=e4.mp z;lia
 let#[n,1]:=bQ.mp a;have:=(l_ z).1;lia
def XR{b:df}(h:b.2.2≠[]){c:Nat}(a:c∈hZ b):c=32\/(48<=c/\c<=58):=by
 rw[NT h]at a;rcases Pn a with d|⟨p,az,ak⟩
 .exact .inl (e4.mp d)
 right;unfold qn at az;rcases et.mp az with rfl|az
 .have:=l_ ak;lia
 rcases et.mp az with rfl|az
 .rcases gU.mp ak with z|z
  .have:=l_ z;lia
  have:=e4.mp z;lia
 let#[n,1]:=bQ.mp az;have:=l_ ak;lia
def Y6{b:df}(h:b.2.2≠[]):n9 (S (hZ b)) (S [32])=(qn b).map S:=by
 rw[NT h];show-WT (d:=32) (y:=[]) (by unfold qn;simp) aia (λc a=>?_) xg;rw[<-NT h]at a;have:=XR h a
 lia
def Yn{a:List df}(m:a≠[])(h:∀b∈a,b.2.2≠[]):n9 (S (ie a)) (S [59,32])=(a.map hZ).map S:=by
 unfold ie;show-WT (d:=59) (y:=[32]) (by simpa using m) (λp k z=>?_) (λc l=>?_) xg
 .let#[b,f,2]:=bQ.mp k;have:=XR (h b f) z
  lia
 rcases Pn l with g|⟨p,k,ak⟩
 .rcases et.mp g with rfl|g
  .decide
  have:=e4.mp g;lia
 let#[b,f,2]:=bQ.mp k;have:=XR (h b f) ak
 lia
def alX(l:bB)(c:Nat):th (S (l++[c])) jp (j3 (-1))=S l:=by
 unfold th;let e:(S (l++[c])).cps.size=l.Z+1:=by simp[S]
 let b:eD.dD (l.Z+1) (l.Z+1) (j3 (-1))=l.Z:=by
  show(if(-1:Int)<0 then((-1:Int)+((l.Z+1:Nat):Int)).toNat else min (-1:Int).toNat (l.Z+1))=l.Z;rw[a' x8]
  lia
 let a:eD.dD (l.Z+1) 0 jp=0:=rfl;rw[e,a,b,aiF,ahJ];show(⟨((l++[c]).take l.Z).toArray⟩:Str)=_;rw[ah4]
theorem δ{K:aL}{wi:eV}{m:TE}{rest:aq.St}{Hs:ag}{Q:aX}{xs:aV}(F:Nat->aq.V->ag->Prop)(y:∀R:fF->ag->Prop,(∀p,Hs p=jp->R (kE K p) (upd Hs p (.lst xs)))->wi j H R)(u:hX cs j=jp::rest)(L:xs.Z<sizeLine)(st:∀i v a l,aD a l->F i v a->F i v l)(V:∀i v a D z B,a D=j3 (.lst z)->F i v a->F i v (upd a D (.lst B)))(f:∀(i:Nat)(x:aq.V)(a:ag)(R:aX),xs[i]?=j3 x->aD Hs a->(∀v d,aD a d->F i v d->R v d)->m (j3 x::rest) a R)(g:∀(D:Addr)(H':ag)(b:aV),Hs D=jp->H' D=j3 (.lst b)->b.Z=xs.Z->(∀i v,b[i]?=j3 v->F i v H')->aD Hs H'->Q (.ref D) H'):kD wi cs (hW 0) pR m j H Q:=
 y _ λp c=>amf (wi:=λ_ _ R=>R (kE K p) (upd Hs p (.lst xs))) (H:=Hs) (λR h=>h) u (pB (aI.of aQ)) L F st V (λi x a R q t k=>f i x a R q ((bT c).trans t) k) λD H' b n A r N s=>by
  show-g D H' b ?_ A r N ((bT c).trans s);cases e:Hs D with
  |none=>rfl
  |some o=>rw[bT c _ _ e]at n;cases n
abbrev Np:Stmt:=top 85
def RD:cJ ["text","words","numbers"] kg (b_ Np):=({})
abbrev Nr:Stmt:=top 86
def ar2:cJ kg kg (b_ Nr):=({})
end
end dP
namespace b4
open PySem PySem.Spec PyProof.Rows aq
def aib{M:m5}{A:ee}{E:cC}{s:aS}{B:Heap}{d:Env}{a:List Env}{L:Addr}{Q:Unit->aS->Prop}(O:A.frames=j3 (d::a))(m:d.frame=j3 L)(F:B.StaysIn s.Q)(N:B.get? e=jp)(h:s.heap.FunFrames B (d::a))(K:s.heap.TracedAtW B e cls G v)(q:∀f,uL B a e cls G f->s.heap.UpToSlots f->Q () {s with heap:=f}):aO M A (leaving d (.ref e)) Q E s:=by
 by_cases z:v=mU L
 .subst z;unfold leaving;show-ax (wpAny_noteFrame_againW m K ?_);show-aeX #[F,N,h,K] λf I U=>?_;let#[n,p,#[6,r],V]:=I;show-q f #[n,p,r,V] U
 let#[Z,vs,T,Y,R,i,#[2,H],j,u,J,P,w,t,D]:=K;unfold leaving w';simp only[m];show-ax (ax (kb i j u ?_));rw[a' xg];show-ax (kb w t D ?_);rw[a4 (by simpa using z)];show-ax (Ek w t (Yd.mp D).1 ?_);let l:∀b,b≠T->(s.heap.update T (BB λx=>x.setIfInBounds 3 fW)).get? b=s.heap.get? b:=λb c=>tq _ _ (e5 c);let C:∀b o,s.heap.get? b=j3 o->(∀X,o.data≠.fields X)->b≠T:=λb o c k y=>by subst y;rw[w]at c;cases c;show-k R t
 show-wpAny_newEntryW O (h.of_keeps λb o c k=>#[o,(l b (C b o c k)).trans c,2]) m ((l e (e5 P)).trans i) (λb o c=>(l b λy=>by subst y;rw[J]at c;cases c).trans (F b o c)) N j (Yd.mp u).1 H λf g=>?_;let#[n,#[6,p],r,V]:=g;show-q f #[n,N,p,r] λb o c k=>V b o ((l b (C b o c k)).trans c) k
section
variable{P:cq}{w:bW}{K:aL}{mg:b5}{base:Heap}{N:bE}{qual:Str}{mV:Scope}{f:Addr}{cdv:Value}{A:ee}{outer:List Env}{fB:aS}{g9:ag}{E:bM}
def aic{cg:ag}{s3 sc:aS}{bY:bS}{C:Addr}{m:b5}{use:Option (Value->Sem Unit)}{QQ:cC}{af0:cC}(a:Inv (-eF N qual mV f cdv A outer fB g9 E) aEf aEI a5 s3)(auf:∀b∈bY,fB.L<=b)(nU:s3.L<=C)(Jb:C∉fg (-eF N qual mV f cdv A outer fB g9 E).stack)(vh:sc.os=s3.os)(t:iv (fg (-eF N qual mV f cdv A outer fB g9 E).stack) bY a5 cg s3.heap sc.Q)(R':sc.heap.Ns C m)(JA:cg C=jp)(T:kR P w (-eF N qual mV f cdv A outer fB g9 E).stack cg sc h cls a0 H' B s')(ef:E cls jp H'):
  aO (ba P w) (-eF N qual mV f cdv A outer fB g9 E).A (w' (.ref h) (-eF N qual mV f cdv A outer fB g9 E).env) (λ_ HZ=>Ca (ba P w) (-eF N qual mV f cdv A outer fB g9 E).A (-eF N qual mV f cdv A outer fB g9 E).dw use QQ acc C (.error (.ref h)) HZ) af0 s':=by
 refine aeY a.ok.frames rfl T.eQ λM R up=>?_;let#[F,es,ep,H,l0,k1,k2]:=id R';let AO:B.get? C=j3 F:=by let#[i,z,q]:=T.jM C F H Jb;rwa[q JA]at z
 let Za:H' C=jp:=T.un.free C F H JA xg;let#[vn,ne,Li,oL,vs,k,VJ,ts,aE,aC,b2,dS,f7,iw,lx,l2,se]:=R;let F6:h≠C:=λz=>by rw[z,AO]at ne;cases ne
 let s6:k≠C:=λz=>by rw[z,AO]at f7;cases f7
 let U:∃m,M.Ns C m/\∀j,jT C M j->∀Y:Env,Y.locals=C->aO (ba P w) (-eF N qual mV f cdv A outer fB g9 E).A (passOn "comprehension.variables-let-go" (.ref h) Y:Sem Value) (λ_ _=>False) (-eF N qual mV f cdv A outer fB g9 E).dw {s' with heap:=j}:=by
  show#[m,#[F,es,ep,vn C F AO,l0,k1,k2],λj c6 Y _=>?_];let f1:j.get? h=j3 oL:=(c6.2 h F6).trans aE;let Ch:j.get? k=j3 VJ:=(c6.2 k s6).trans lx;unfold PySem.passOn;show-ax (kb f1 b2 dS ?_);rw[a4 xg];show-ax ?_;unfold Ny;show-ax (kb f1 b2 dS ?_);rw[a' xg];let i5:3<ts.size:=(Yd.mp se).1;show-Ek Ch l2 i5 (Xk ?_);generalize(Y.frame.elim fW λf=>mU f)=v;let zF:∀b,b≠k->(j.update k (BB λx=>x.setIfInBounds 3 v)).get? b=j.get? b:=λb g=>tq _ _ (e5 g);let I:(j.update k (BB λx=>x.setIfInBounds 3 v)).get? k=j3 (BB (λx=>x.setIfInBounds 3 v) VJ):=xT _ Ch (è (Fs l2 _));generalize j.update k (BB λx=>x.setIfInBounds 3 v)=G at zF I⊢;let go:∀b o,M.get? b=j3 o->b≠C->b≠k->G.get? b=j3 o:=λb o e p Q=>(zF b Q).trans ((c6.2 b p).trans e);let gQ:∀b o,M.get? b=j3 o->(∀ws,o.data≠.fields ws)->b≠k:=λb o e n y=>by subst y;rw[lx]at e;cases e;show-n ts l2
  let Yh:∀b o,(n4 B [C]).get? b=j3 o->B.get? b=j3 o/\b≠C:=λb o e=>#[Qq _ e,λz=>by rw[z,đ _ (.head _)]at e;cases e]
  let TM:∀b,B.get? b=jp->(n4 B [C]).get? b=jp:=λb e=>by
   cases q:(n4 B [C]).get? b with
   |none=>rfl
   |some o=>rw[(Yh b o q).1]at e;cases e
  let st:(n4 B [C]).StaysIn G:=λb o e=>by let#[z,n]:=Yh b o e;show-go b o (vn b o z) n λy=>by rw[y,f7]at z;cases z
  let awB:∀d∈(-eF N qual mV f cdv A outer fB g9 E).stack,d.frame≠j3 C:=λd he z=>Jb (JJ.mpr #[d,he,z]);let aub:G.FunFrames (n4 B [C]) (-eF N qual mV f cdv A outer fB g9 E).stack:=by
   let all:∀l:List Env,(∀d∈l,d.frame≠j3 C)->M.FunFrames B l->G.FunFrames (n4 B [C]) l:=by
    intro l
    induction l with
    |nil=>intro _ _;trivial
    |cons d r a3=>
     intro hn au;let#[aN,#[L,o,bG,hB,aW,hd],ao]:=au;let awC:L≠C:=λz=>hn d (.head _) (by rw[bG,z]);show#[aN,#[L,o,bG,TM L hB,go L o aW awC (gQ L o aW hd),hd],a3 (λe he=>hn e (.tail _ he)) ao]
   show-all _ awB Li
  let ayv:G.TracedAtW (n4 B [C]) h cls a0 v:=#[oL,vs,k,6,go h oL aE F6 (e5 iw),aC,b2,dS,TM _ f7,iw,I,Fs l2 _,by simp[i5]]
  refine aib a.ok.frames rfl st (TM _ ne) aub ayv λb8 Z Af=>?_;let UZ:∀b o,fB.heap.get? b=j3 o->b∉bY/\b≠C:=λb o e=>by let l:=dE e;let eC:=a.nH;show#[λz=>bt (iR l (auf b z)) (qN _),λz=>?_];rw[z]at l;show-bt (iR l (dQ eC nU)) (qN _)
  let D:∀b:Addr,b∉(-eF N qual mV f cdv A outer fB g9 E).ex:=λb z=>by simp[eF,jR]at z
  let jM:∀b o,fB.heap.get? b=j3 o->b∉fg outer->∃i,(n4 B [C]).get? b=j3 i/\(g9 b=jp->i=o):=λb o e g=>by let#[p,Q]:=UZ b o e;let nb:=zU a e g;let#[jP,V]:=a.base.there b o e (D b);let#[oK,s]:=t.there b jP V p;let#[i,z,q]:=T.jM b oK s nb;show#[i,Ki _ z (by simpa using Q),λn=>?_];let X:=a.base.keep b o e n g (D b);let Oh:=a.base.free b o e n (D b);let J:=t.keep b o X Oh nb p;rw[s]at J;cases J;show-q (t.free b _ X Oh p)
  show#[h,cls,a0,H',1,#[Z,(T.os.trans vh).trans a.os,T.bare,λb ob e=>(T.ok b ob e).pO (λc u av y=>Ki _ y ?_) (λ_ y=>y) λ_ _ y=>y,#[λb o e n g O=>?_,λb o e n g O=>?_,λb o e n O=>?_,λb o e O=>?_,λb xs y=>T.un.hE b xs (t.hE b xs (a.base.hE b xs y)),λb o u y=>T.un.i0 b o u (t.i0 b o u (a.base.i0 b o u y)),λb ps y=>?_],jM],ef]
  .simp only[e4];rintro rfl;rcases av with rfl|av
   .rw[Za]at e;cases e
   rw[Za]at av;cases av
  .let#[i,z,q]:=jM b o e g;rw[q n]at z;show-Z.1 b o z
  .let#[p,Q]:=UZ b o e;let du:b∈fg (-eF N qual mV f cdv A outer fB g9 E).stack:=by show b∈fg (_::outer);unfold fg;rw[E4];show-n0 _ g
   let#[eg,V]:=a.base.slot b o e n g (D b);let X:=a.base.free b o e n (D b);let#[eC,s]:=t.slot b _ V X du p;let Oh:=t.free b _ V X p;let#[aDP,aZ]:=T.un.slot b _ s Oh du xg;let#[_,ob,bJ,Vn]:=T.eQ.2.2.1.mem du;rw[aZ]at bJ;cases bJ;let#[qi,bC]:=up b _ aZ Vn;let bP:=go b _ bC Q (gQ b _ bC Vn);let#[adm,dc]:=Af b _ bP Vn;show#[adm,dc]
  .let#[p,_]:=UZ b o e;let#[jP,V]:=a.base.there b o e O;let#[oK,s]:=t.there b jP V p;exact T.un.free b oK s (t.free b jP V (a.base.free b o e n O) p) xg
  .by_cases g:b∈fg outer
   .let#[_,ob,bJ,_]:=Z.2.2.1.mem g;show#[ob,bJ]
   let#[i,z,_]:=jM b o e g;show#[i,Z.1 b i z]
  let#[fi,V]:=a.base.jx b ps y;let#[hK,s]:=t.jx b _ V;let#[w2,aZ]:=T.un.jx b _ s;show#[fi++hK++w2,by rw[aZ,ED,ED,ED]]
 cases use<;>show-U
end
def xj(X:bA)(E:bM)(c:bE)(a:Scope)(k:List (Str×Addr))(C:Addr)(m:aS)(d:ag)(f:bS)(l:dJ):bA:=
 {mM X c a k C m d f l with dw:=λe r=>∃(b:dJ)(p:St)(g:ag)(n:aS),Inv (mM X c a k C m d f l) b p g n/\fE X.prog X.w X.stack g n E e r}
theorem ε{X:bA}{d:List (Str×Addr)}:nx (fE X.prog X.w) (xj X E i scope d C q j o da) E:=
 λa b c f e g I h=>#[a,b,c,f,I.mr _,h]
section
variable{P:cq}{w:bW}{K:aL}{mg:b5}{base:Heap}{N:bE}{qual:Str}{mV:Scope}{f:Addr}{cdv:Value}{A:ee}{outer:List Env}{fB:aS}{g9:ag}{E:bM}
 {X:bA} {elt d6 iter:Expr} {ifs:hy} {scope:Scope} {pos:Pos} {N':bE} {cs:yG} {cl:List (Str×Addr)} {wi:eV} {g:kK} {tt:iL} {bO:TE}
def anq{use:Option (Value->Sem Unit)}{r:cC}{Q:aX}(q:X=-eF N qual mV f cdv A outer fB g9 E)(J:X.calm=q4)(hi:m6 X d6 iter wi)(sm:F1 scope X.env=pure cl)(pv:∀y∈scope.names,y.2≠.cell)(oA:scope.kind=.function)(sx:∀y∈scope.names,y.2=.local->scope.names.lookup y.1=j3 .local)(jL:∀x c,cl.lookup x=j3 c->X.env.cells.lookup x=j3 c)(M:x2 cl (zZ scope X.env).names=q4)(q2:oT X scope cl N' cs)(G:∀(C:Addr)(s3:aS)(a:ag)(d:bS)(k:dJ),qO (xj X E N' scope cl C s3 a d k) d6 g/\vU (xj X E N' scope cl C s3 a d k) ifs tt/\bq (xj X E N' scope cl C s3 a d k) elt bO)(hs:∀x,Cn iter X.env x=pure x:=by intro _;rfl)(I:Inv X pins i H s)(h:kD wi cs g tt bO i H Q)(post:∀(D C:Addr)(p:aS)(H':ag)(m:b5),Inv X pins i H' p->p.heap.Ns C m->qE X pins H' C->Q (.ref D) H'->Ca (ba X.prog X.w) X.A X.dw use r (.ref D) C (.ok .next) p):
  aO (ba X.prog X.w) X.A (Sa (.ListComp elt [#[d6,iter,ifs,0]] scope pos) scope X.env F (Vm []) q9 (eval iter X.env) use) r X.dw s:=by
 show-ģ (Z:=λC s3 a d k=>(xj X E N' scope cl C s3 a d k).dw) J hi sm pv oA sx jL M q2 G hs I h (λD s3 a d e hC l ox wX=>?_) post;let#[VS,bx,t,L,n,aG,O,a0,H',B,2,T,U]:=wX;let#[m,o,_]:=id n.loc;let j:s3.L∉fg X.stack:=λz=>by
  rcases et.mp (l.D9 _ z)with y|y
  .exact bt l.lt (by rw[<-y];show-qN _)
  show-l.adL (b7 _) y
 let rp:iv (fg X.stack) d a t s3.heap L.Q:=n.base;let V:t s3.L=jp:=n.free;let u:L.os=s3.os:=n.os;subst q;show-aic (s3:=s3) l (λb R=>(ox b R).elim λ_ Y=>Y.2.2.2.1.resolve_left (by simp[eF,jR])) (b7 _) j u rp o V T U
def Ť(t:X=-eF N qual mV f cdv A outer fB g9 E)(L:X.calm=q4)(G:m6 X d6 iter wi)(sm:F1 scope X.env=pure cl)(U:∀y∈scope.names,y.2≠.cell)(T:scope.kind=.function)(sx:∀y∈scope.names,y.2=.local->scope.names.lookup y.1=j3 .local)(O:∀x c,cl.lookup x=j3 c->X.env.cells.lookup x=j3 c)(i:x2 cl (zZ scope X.env).names=q4)(Y:oT X scope cl N' cs)(d:∀(C:Addr)(n:aS)(a:ag)(k:bS)(l:dJ),qO (xj X E N' scope cl C n a k l) d6 g/\vU (xj X E N' scope cl C n a k l) ifs tt/\bq (xj X E N' scope cl C n a k l) elt bO)(M:∀x,Cn iter X.env x=pure x:=by intro _;rfl):bq X (.ListComp elt [#[d6,iter,ifs,0]] scope pos) (kD wi cs g tt bO):=by
 intro p s aa H Q I h;rw[eval_ListComp];show-anq t L G sm U T sx O i Y d M I h λD C V H' m R J r q=>#[m,J,λh' Z=>#[.ref D,H',4,2,q]]
 let#[u,z,f2,j,B,F]:=r;show-R.turned (t':=V.toks) (λb o d e=>(Z.2 b d).trans e) u z j B F
end
end b4
namespace dP
open PySem aq b4
def nj(c:Nat):Bool:=decide (48<=c)&&decide (c<=57)
def nR(l:bB):Bool:=decide (1<=l.Z)&&decide (l.Z<=10)&&!(decide (l.head?=j3 48)&&!decide (l=[48]))&&l.all nj
def anr{m d:Nat}(hm:0<m)(a:d<10):ct (10*m+d)=ct m++[48+d]:=by
 unfold ct;rw[<-Ñ x8 hm a,eb,Qe a];congr 1;have:∀d,d<10->v9 Yw [Nat.digitChar d]=[48+d]:=by decide
 show-this d a
def alY:∀d,d<10->ct d=[48+d]:=by decide
theorem Ą:∀(n:Nat)(l:bB),l.Z=n+1->(∀c∈l,nj c=q4)->(l.head?=j3 48->l=[48])->∃m,l=ct m/\m<10 ^ (n+1)/\(l≠[48]->0<m)
 |0,l,e,h,i=>by
  let#[c,2]:=List.length_eq_one_iff.mp e;let d:=h c (.head _);unfold nj at d;simp only[hN,decide_eq_true_eq]at d;show#[c-48,by rw[alY _ qI];congr 1;lia,9,λz=>?_];have:c≠48:=λy=>z (by rw[y])
  lia
 |n+1,l,e,h,i=>by
  let f:l≠[]:=λz=>by rw[z]at e;cases e
  let A:=ρ f;let ld:l.dropLast.Z=n+1:=by rw[ahV];lia
  let t:l.getLast f∈l:=List.getLast_mem f;let d:=h _ t;unfold nj at d;simp only[hN,decide_eq_true_eq]at d;let k:l.head?≠j3 48:=λz=>by have:=i z;rw[this]at e;simp at e
  let g:l.dropLast.head?=l.head?:=by
   cases l with
   |nil=>rfl
   |cons a r=>
    cases r with
    |nil=>simp at e
    |cons b r=>rfl
  let#[m,p,N,w]:=Ą n l.dropLast ld (λc L=>h c (List.dropLast_subset _ L)) (λz=>bt (g▸z) k);let K:0<m:=w λz=>by rw[z]at g;show-k g.J
  show#[10*m+(l.getLast f-48),4,4,λ_=>by lia]
  .rw[anr K qI,<-p]
   conv=>lhs;rw[<-A]
   congr 2
   lia
  have:10 ^ (n+1+1)=10*10 ^ (n+1):=by rw[Nat.pow_succ,aiB]
  lia
def aqM(h:nR l=q4):∃m,m<10 ^ 10/\l=ct m:=by unfold nR at h;simp only[hN,decide_eq_true_eq,I3,afz,atu,afB,tv]at h;obtain⟨⟨⟨f,g⟩,a⟩,d⟩:=h;let#[m,c,b,_]:=Ą (l.Z-1) l qI d λz=>a.resolve_left λy=>y z;show#[m,iR b (Nat.pow_le_pow_right x8 qI),c]
def Q3{m:Nat}(h:m<10 ^ 10):nR (ct m)=q4:=by
 let f:=ma h;let b:1<=(ct m).Z:=p3.mpr (E1 m);unfold nR;simp only[hN,decide_eq_true_eq,I3,afz,atu,afB,tv];show#[#[#[b,f],4],λc d=>?_]
 .by_cases z:(ct m).head?=j3 48
  .right;cases e:ct m with
   |nil=>show-bt e (E1 m)
   |cons a r=>
    rw[e]at z;cases z;have:=am2 m r e;rw[this,am3]at e;show-e.J
  show-.inl z
 have:=l_ d;unfold nj;simp[this]
def aqN(w:Str):S w.cps.G=w:=by let#[a]:=w;simp[S]
theorem WY(y:bB)(c:y≠[]):∀a:List bB,a.Z<=(cK y a).Z+1/\∀p∈a,p.Z<=(cK y a).Z
 |[]=>#[eu _,λ_ h=>nomatch h]
 |[p]=>#[by show 1<=_+1;lia,λq g=>by rw[e4.mp g];show-b7 _]
 |p::q::r=>by
  let#[k,d]:=WY y c (q::r);let e:cK y (p::q::r)=p++y++cK y (q::r):=rfl;let f:1<=y.Z:=p3.mpr c;rw[e,c0,c0];show#[by rw[ej];lia,λz b=>?_];rcases et.mp b with rfl|b
  .lia
  have:=d z b
  lia
def ζ(l y:bB)(c:y≠[]):∃b:List bB,n9 (S l) (S y)=b.map S/\cK y b=l:=by
 let e:n9 (S l) (S y)=((n9 (S l) (S y)).map λw=>w.cps.G).map S:=by rw[ek];exact((rP λw _=>aqN w).trans (uN _)).symm
 show#[_,e,4];let h:=StrLaws.join_split (S l) (S y);let a:=(StrLaws.glued_eq_join (S y) (((n9 (S l) (S y)).map λw=>w.cps.G).map S)).symm.trans (DY y _);rw[<-e,h]at a;exact(AZ a).symm
section
variable{P:cq}{w:bW}{K:aL}{mg:b5}{base:Heap}
def Ey{n:Nat}(h:n<=50000):n+2<=sizeLine:=by
 show n+2<=16777216
 lia
def aap{R:aX}{c:Bool}(e:b=c)(h:R (.bo c) H):R (.bo b) H:=by rwa[e]
def ans(l:bB):((dY l.Z).map λi=>nj (l.getD i 0)).all id=l.all nj:=by
 let e:(dY l.Z).map (λi=>nj (l.getD i 0))=l.map nj:=by
  apply x_
  .simp
  intro i a b;simp at a;simp[dB,a]
 rw[e,PS];rfl
def Kb:fx:=λa H Q _=>∃l:List Nat,a=[.str (S l)]/\l.Z<=50000/\∀H',aD H H'->Q (.bo (nR l)) H'
def ao6{f:Addr}(F:cp K "is_written_number" "is_written_number" Wd f fd)(B:fc mg):-aH a9 1 f fd kg Kb:=by
 show-F.ok ar0 (λT A m s H vs Q E ao h=>?_);let#[l,2,U,q]:=h;show#[_,(a7 (er (mB.pt (AJ (j2 (DQ qu qu a8 (dp V1 B.len g_ (aj (ae 0) aw)) a8)) (Ac (mB.pt (Ġ (fQ nB (cn ħ (ae 0) a8) cz (eK _)) (Φ (fQ AF (ae 0) cz (eK _)))))))) (a_ (cc i2)) eB)
  (a_ (cc (dp (DR rfl) B.B5 Et (aj (mc (N':=["sign"]) (cs:=[jp]) rfl (Ķ (ae 0)) rfl xL rfl xL (ia (λp M=>bt M (dU))) rfl
   (.own .nil)
   (λC s3 a5 bY da=>#[(dV 0 (by show(["sign"]:bE).Nodup;decide+kernel)),jm,(N2 N1 N1 cz (ae 0) cz)])) aw))))),4]
 let N:(S l).Z<=sizeLine:=dQ (by rw[ew];lia) (Ey U);let Y:cU "0"=S [48]:=by left
 let X:cU "9"=S [57]:=by left
 let O:((S l).Z:Int)=(l.Z:Int):=by rw[ew]
 rw[Y,X];show#[5,N,3,1,4];rw[O];by_cases d:1<=l.Z
 case neg=>
  show-eM (c9 qI) #[1,d1 rfl (d1 rfl ?_)];have:nR l=q9:=by unfold nR;rw[c9 d];rfl
  rw[this]at q;exact q H (aD.refl _)
 by_cases g:l.Z<=10
 case neg=>
  show-d1 (cw qI) #[3,1,d1 (by rw[c9 qI];rfl) (d1 rfl ?_)];have:nR l=q9:=by unfold nR;rw[c9 g];simp
  rw[this]at q;show-q H (aD.refl _)
 show-d1 (cw qI) #[3,1,AQ qI ?_];obtain⟨e1,r0,cG⟩:∃e1 r0,l=e1::r0:=by
  cases l with
  |nil=>simp at d
  |cons a r=>show#[a,r,2]
 let Z:aq.hp (S l).cps.toList 0=j3 e1:=by show aq.hp l 0=j3 e1;rw[cG];exact jG (j:=0) rfl
 let y:(signs (S l)).Z<1000:=by
  rw[Iv,aM]
  lia
 let z3:(signs (S l)).Z=l.Z:=by rw[Iv,aM]
 let L:l.head?=j3 e1:=by rw[cG];rfl
 show#[1,_,3,N,Z,7,4];by_cases e:e1=48
 case' pos=>
  show-d1 (by rw[e];exact cw rfl) #[1,7,4];by_cases b:l=[48]
  case neg=>
   show-d1 (by rw[c9 (λz=>b (AZ (V.str.inj z)))];rfl) ?_;have:nR l=q9:=by unfold nR;rw[L,e,cw rfl,c9 b];simp
   rw[this]at q;show-q H (aD.refl _)
  show-eM (by rw[b];simp) ?_;let o:nR l=l.all nj:=by unfold nR;rw[cw d,cw g,cw b];simp
 case' neg=>
  show-eM (c9 λz=>e (by have:=V.str.inj z;have:=fe (λx:Str=>x.cps.G) this;simpa using this)) (iN ?_);let o:nR l=l.all nj:=by unfold nR;rw[cw d,cw g,L,c9 (λz=>e (gk z))];simp
 all_goals
  dsimp only[uk,uy,pP,kT];refine vu (J:=EX (S l)) (H1:=H) (xs:=signs (S l)) (rest:=[]) (λR h=>#[5,h]) rfl (ĵ _) (el qI) (λi=>.bo (nj (l.getD i 0))) (λi x I R t aF c=>?_) (λD H' d g u=>?_)
  .rw[Iv,cR]at t;let#[k,G,2]:=e6.mp t;let c:=c I (aD.refl _);rw[kV G]at c;let n:(!decide ((S [k]).cps.G<(S [48]).cps.G))=decide (48<=k):=Je k 48;let b:(!decide ((S [57]).cps.G<(S [k]).cps.G))=decide (k<=57):=Je 57 k;show#[1,3,1,4];by_cases z:48<=k
   .refine d1 (n.trans (cw z)) #[3,aap (b.trans ?_) c];unfold nj;rw[cw z];rfl
   show-eM (n.trans (c9 z)) ?_;have:nj k=q9:=by unfold nj;rw[c9 z];rfl
   rwa[this]at c
  show#[D,(dY l.Z).map λi=>nj (l.getD i 0),2,aI.of (by rw[g,z3,ek];rfl),aap ?_ (q H' u)];rw[ans,o]
def aaq(a:Addr):fx:=λb H Q E=>∃l:List Nat,b=[.str (S l)]/\l.Z<=50000/\(∀m,m<10 ^ 10->l=ct m->∀H',aD H H'->Q (.int (m:Int)) H')/\((∀m,m<10 ^ 10->l≠ct m)->∀H',aD H H'->E (.ref a) jp H')
def ao7{f:Addr}(F:cp K "read_number" "read_number" Nq f fd)(B:fc mg)(g:vQ u o x bm)(c:Exc K mg "NoText" j bm o)(r:bU K mg "is_written_number" Wd kg f1 i)(d:-aH a9 1 f1 i kg Kb):-aH (fE P w) 2 f fd jV (aaq j):=by
 show-ra F ar1 (λn A a s H N Q E k h=>?_);let#[l,2,p,q,t]:=h;show#[_,(a7 (er (j2 (kp (c2 d r k.mono b9 (aj (ae 0) aw)))) (a_ (DT g c rfl (aj cz aw))) eB)
  (a_ (cc (hS YM B.int Ew (aj (ae 0) aw))))),4]
 show#[1,l,2,p,λH' b=>#[1,4]];cases hw:nR l with
 |true=>
  let#[m,hm,e]:=aqM hw;let L:=ma hm;show-iN #[1,_,1,(by rw[e];show-Ob hm),by rw[ew,e];lia,q m hm e H' b]
 |false=>
  show-jr #[by show 1<=sizeLine;decide,t (λm hm e=>?_) H' b];rw[e,Q3 hm]at hw;cases hw
structure kc(b:df):Prop where
 t:b.1<10 ^ 10
 r:b.2.1<10 ^ 10
 n:∀n∈b.2.2,n<10 ^ 10
 ne:b.2.2≠[]
def ant(h:QE (S p) (S [58])=q4):∃q,p=q++[58]:=by
 unfold QE at h;rw[hN,Oa]at h;let#[a,b]:=h;let a:0+1<=(S p).Z:=nD a;rw[ew]at a;let c:p≠[]:=λz=>by rw[z]at a;simp at a
 show#[p.dropLast,4];let e:=ρ c;let b:ah3 1 (List.drop ((S p).Z-1) p)=[58]:=by simpa[ew]using b
 let d:p.drop (p.Z-1)=[p.getLast c]:=by have:=JF (l₁:=p.dropLast) (l₂:=[p.getLast c]);rwa[e,ahV]at this
 rw[ew,d]at b;have:p.getLast c=58:=by simpa using b
 rw[this]at e;show-e.J
end
def zP{c:bb}(a:n9 (S l) (S [32])=c.map S){b:df}(d:b.2.2≠[])(e:l=hZ b):c=qn b:=by rw[e,Y6 d]at a;have:=fe (v9 λw:Str=>w.cps.G) a;rw[ek,ek]at this;exact((uN _).symm.trans this.J).trans (uN _)
theorem ą{H:ag}:∀(c:aV)(a:bb),c.Z=a.Z->(∀(i:Nat)(v:aq.V),c[i]?=j3 v->∃m,m<10 ^ 10/\a[i]?=j3 (ct m)/\v=.int (m:Int))->∃b:List Nat,c=lJ b/\a=b.map ct/\∀n∈b,n<10 ^ 10
 |[],[],_,_=>#[[],2,2,λ_ h=>nomatch h]
 |v::c,q::a,e,h=>by
  let#[m,k,l,2]:=h 0 v rfl;cases l;let#[b,g,f,p]:=ą (H:=H) c a (aiG e) λi u r=>h (i+1) u r;show#[m::b,by rw[g];rfl,by rw[f];rfl,λn d=>by
   rcases et.mp d with rfl|d
   .exact k
   show-p n d]
 |[],_::_,e,_=>by cases e
 |_::_,[],e,_=>by cases e
section
variable{P:cq}{w:bW}{K:aL}{mg:b5}{base:Heap}
def aar(c:Addr):fx:=λd H Q E=>∃l:List Nat,d=[.str (S l)]/\l.Z<=50000/\(∀b,kc b->l=hZ b->∀(a:Addr)(H':ag),aD H H'->i7 H' a b->Q (.ref a) H')/\((∀b,kc b->l≠hZ b)->∀H',aD H H'->E (.ref c) jp H')
def ao8{f:Addr}(F:cp K "read_bag" "read_bag" Np f fd)(B:fc mg)(XS:vQ EG hg t4 bm)(DB:Exc K mg "NoText" dy bm hg)(wC:bU K mg "read_number" Nq jV f1 cW)(V0:-aH (fE P w) 2 f1 cW jV (aaq dy)):-aH (fE P w) 3 f fd kg (aar dy):=by
 show-ra F RD (λcdv A outer s H vs Q E ao h=>?_);let#[l,2,Y,q,vw]:=h;show#[_,(a7 (cE 1 RD.aA (i3 uS Ċ ċ OR (ae 0) (aj cz aw)))
  (a7 (er (mB.pt (AJ (fQ xD (dp hI B.len g_ (aj (ae 1) aw)) a8 (eK _)) (Ac (j2 (kp (i3 uS PySem.F.slot_str_endswith PySem.F.type_str_endswith amZ (cn fG (ae 1) a8) (aj cz aw))))))) (a_ (DT XS DB rfl (aj cz aw))) eB)
  (a7 (cE 2 RD.aA (hS VX B.tuple DV (aj (Ť (N':=jV) (cs:=[jp]) rfl rfl (h7 (mG qh (ae 1) (kn a8) mJ)) rfl xL rfl xL (ia (λp az=>bt az (dU))) rfl
   (.own .nil)
   (λC s3 a5 bY da=>#[(dV 0 (by show(jV:bE).Nodup;decide+kernel)),jm,(c2 V0 wC ao.mono ε (aj (ae 0) aw))])) aw)))
  (a_ (cc (h_ (aj (c2 V0 wC ao.mono sN (aj (cn fG (ae 1) a8) aw)) (aj (c2 V0 wC ao.mono sN (aj (mG ķ (cn fG (ae 1) a8) mJ (kn (AK Aa a8))) aw)) (aj (ae 2) aw))))))))),4]
 let lN:cU " "=S [32]:=by left
 let rb:cU ":"=S [58]:=by left
 rw[lN,rb];let#[d,I,F']:=ζ l [32] x8;let#[b1,dg]:=WY [32] x8 d;rw[F']at b1 dg;show#[1,2,3,2,(by rw[ew];show-Ey Y),λp np=>?_];rw[I];let lw:((d.map S).map V.str).Z=d.Z:=by rw[aM,aM]
 let N:=bT (o:=.lst ((d.map S).map V.str)) np;let Z:upd H p (.lst ((d.map S).map V.str)) p=j3 (.lst ((d.map S).map V.str)):=aQ;generalize upd H p (.lst ((d.map S).map V.str))=H1 at N Z⊢;let RY:∀{i:Nat}{x:bB},d[i]?=j3 x->((d.map S).map V.str)[i]?=j3 (.str (S x)):=λ{i x}e=>by rw[cR,cR,e];rfl
 show#[1,p,1,.inl (aI.of Z),3,1,4];rw[lw];by_cases a6:d.Z<3
 case pos=>
  show-d1 (cw qI) (d1 rfl #[by show 1<=sizeLine;decide,vw (λb ok e=>?_) H1 N]);have:=fe rN (zP I ok.ne e);unfold qn at this;rw[ej,ej,aM]at this;have:=p3.mpr ok.ne
  lia
 show-eM (c9 qI) ?_;obtain⟨MT,G⟩:∃x,d[0]?=j3 x:=#[_,cQ qI]
 obtain⟨dk,g⟩:∃x,d[1]?=j3 x:=#[_,cQ qI]
 show#[1,p,_,3,aI.of Z,jG (j:=1) (RY g),2,3,1,4];cases hc:QE (S dk) (S [58])with
 |false=>
  refine d1 rfl #[by show 1<=sizeLine;decide,vw (λb ok e=>?_) H1 N];let z:=zP I ok.ne e;rw[z]at g;cases g;have:=aAj (S (ct b.2.1)) (S [58]);rw[kU,hc]at this;cases this
 |true=>
 let#[T,2]:=ant hc;show-iN ?_;dsimp only[uk,jQ,x5,pP,kT];let ato:gg ((d.map S).map V.str) (j3 2) jp=(d.drop 2).map λx=>V.str (S x):=by
  unfold gg;let f2:eD.dD ((d.map S).map V.str).length 0 (j3 ((2:Nat):Int))=min 2 ((d.map S).map V.str).Z:=eD.D1 _ 0 2;let cV:eD.dD ((d.map S).map V.str).length ((d.map S).map V.str).length jp=((d.map S).map V.str).Z:=rfl;let f4:min 2 ((d.map S).map V.str).Z=2:=by rw[lw];lia
  rw[show(j3 (2:Int))=j3 ((2:Nat):Int)from rfl,f2,cV,f4,lw,o6 (by rw[rO,lw];lia),ek,Α];rfl
 let lc:((d.drop 2).map λx=>V.str (S x)).Z=d.Z-2:=by rw[aM,rO]
 refine δ (K:=K) (Hs:=H1) (F:=λi v H'=>∃m,m<10 ^ 10/\(d.drop 2)[i]?=j3 (ct m)/\v=.int (m:Int)) (xs:=(d.drop 2).map λx=>V.str (S x)) (rest:=[]) (λR h=>#[5,p,1,aI.of Z,λl nl=>#[l,2,#[_,aI.of aQ],by rw[ato];show-h l nl]]) rfl (by rw[lc];have:=Ey Y;show _<sizeLine;lia) (λi v u a5 _ h=>h) (λi v u D ys zs _ h=>h) (λi v u R ev aF k=>?_) (λD u vs hL bR lv U ju=>?_)
 .rw[cR]at ev;let#[x,X,2]:=e6.mp ev;let ar:x∈d:=E9 (dm X);show#[1,x,2,dQ (dg x ar) Y,λm hm e H' s'=>k _ H' s' #[m,hm,by rw[X,e],2],λno H' s'=>vw (λb ok e=>?_) H' (N.trans (aF.trans s'))];let z:=zP I ok.ne e;rw[z]at X;unfold qn at X;let hm:=dm X;let#[n,hn,2]:=bQ.mp (show x∈b.2.2.map ct from hm);exact no n (ok.n n hn) rfl
 rw[lc]at lv;let#[L,2,atI,zk]:=ą (H:=u) vs (d.drop 2) (by rw[lv,rO]) U;show#[D,1,.inl #[aI.of bR,λc uc=>?_]];let s3:=bT (o:=.tup (lJ L)) uc;let O:upd u c (.tup (lJ L)) c=j3 (.tup (lJ L)):=aQ;generalize upd u c (.tup (lJ L))=a5 at s3 O⊢;let gS:=ju.trans s3;let M:=gS _ _ Z;show#[1,p,_,3,aI.of M,jG (j:=0) (RY G),MT,2,dQ (dg MT (dm G)) Y,λm0 avs atG dx y=>?_,λno dx y=>vw (λb ok e=>?_) dx (N.trans (gS.trans y))]
 rotate_left
 .let z:=zP I ok.ne e;rw[z]at G;cases G;exact no _ ok.t rfl
 show#[1,p,_,3,aI.of (y _ _ M),jG (j:=1) (RY g),4];let eg:=dg _ (dm g);show#[5,1,(by rw[ew];have:=Ey Y;lia),4];rw[show(-(1:Int))=-1 from rfl,alX];rw[c0]at eg;show#[T,2,9,λfi avt atH bH c5=>#[1,sz_,λt fl=>?_],λno bH c5=>vw (λb ok e=>?_) bH (N.trans (gS.trans (y.trans c5)))]
 rotate_left
 .let z:=zP I ok.ne e;rw[z]at g;have:ct b.2.1++[58]=T++[58]:=gk g;show-no _ ok.r (ahC this).symm
 let fM:=bT (o:=.tup [V.int (m0:Int),V.int (fi:Int),V.ref c]) fl;let J:d=ct m0::(ct fi++[58])::L.map ct:=by
  rw[<-atG,<-atH,<-atI];cases d with
  |nil=>cases G
  |cons a r=>
   cases r with
   |nil=>cases g
   |cons bp r=>
    cases G;cases g;rfl
 let nn:L≠[]:=λz=>by rw[J,z]at a6;simp at a6
 show-q (m0,fi,L) #[avs,avt,zk,nn] ?_ t _ (N.trans (gS.trans (y.trans (c5.trans fM)))) #[c,aQ,fM _ _ (c5 _ _ (y _ _ O))];rw[NT (b:=(m0,fi,L)) nn,<-F',J];rfl
theorem ZR:∀(f:aV)(d:bb),f.Z=d.Z->(∀(i:Nat)(v:aq.V),f[i]?=j3 v->∃a b,v=V.ref a/\d[i]?=j3 (hZ b)/\kc b/\i7 H a b)->∃(g:bS)(c:List df),f=aT g/\d=c.map hZ/\(∀b∈c,kc b)/\bV (i7 H) g c
 |[],[],_,_=>#[[],[],2,2,(λ_ h=>nomatch h),.nil]
 |v::f,q::d,e,h=>by
  let#[a,b,2,r,l,A]:=h 0 v rfl;cases r;let#[g,c,p,m,t,L]:=ZR f d (aiG e) λi u N=>h (i+1) u N;show#[a::g,b::c,by rw[p];rfl,by rw[m];rfl,λn k=>by
   rcases et.mp k with rfl|k
   .exact l
   show-t n k,.cons A L]
 |[],_::_,e,_=>by cases e
 |_::_,[],e,_=>by cases e
def OV{c:bb}(d:n9 (S l) (S [59,32])=c.map S){a:List df}(g:a≠[])(ok:∀b∈a,kc b)(e:l=ie a):c=a.map hZ:=by rw[e,Yn g λb f=>(ok b f).ne]at d;have:=fe (v9 λw:Str=>w.cps.G) d;rw[ek,ek (l:=c)]at this;exact((uN _).symm.trans this.J).trans (uN _)
def aas(d:Addr):fx:=λf H Q E=>∃l:List Nat,f=[.str (S l)]/\l.Z<=50000/\(∀a,(∀b∈a,kc b)->l=ie a->∀(p:Addr)(H':ag)(c:bS),H p=jp->aD H H'->H' p=j3 (.lst (aT c))->bV (i7 H') c a->Q (.ref p) H')/\((∀a,(∀b∈a,kc b)->l≠ie a)->∀H',aD H H'->E (.ref d) jp H')
def ao9{f:Addr}(F:cp K "read_plan" "read_plan" Nr f fd)(Dw:bU K mg "read_bag" Np kg f1 cW)(t:-aH (fE P w) 3 f1 cW kg (aar dy)):-aH (fE P w) 4 f fd kg (aas dy):=by
 show-ra F ar2 (λcdv A j s H Z Q E ao h=>?_);let#[l,2,N,q,vw]:=h;show#[_,(a7 (er (fQ nB (ae 0) cz (eK _)) (a_ (cc (eY aw))) eB)
  (a_ (cc (Ť (N':=["part"]) (cs:=[jp]) rfl rfl (h7 (i3 uS Ċ ċ OR (ae 0) (aj cz aw))) rfl xL rfl xL (ia (λp az=>bt az (dU))) rfl
   (.own .nil)
   (λC U a5 bY da=>#[(dV 0 (by show(["part"]:bE).Nodup;decide+kernel)),jm,(c2 t Dw ao.mono ε (aj (ae 0) aw))]))))),4]
 let lN:cU "; "=S [59,32]:=by left
 let s0:cU ""=S []:=by left
 rw[lN,s0];by_cases r:l=[]
 .subst r;show#[1,7,d1 (cw rfl) #[sz_,λp T=>q [] (λ_ h=>nomatch h) rfl p _ [] T (bT T) aQ .nil]]
 show#[1,7,eM (c9 λz=>r (AZ (V.str.inj z))) ?_];let#[g,Y,y]:=ζ l [59,32] x8;let#[b1,I]:=WY [59,32] x8 g;rw[y]at b1 I;let nb:∀d,l=ie d->d≠[]:=λd e z=>r (by rw[e,z];rfl);let X:(g.map λx=>V.str (S x)).Z=g.Z:=aM _;dsimp only[uk,uy];refine δ (K:=K) (Hs:=H) (F:=λi v H'=>∃a b,v=.ref a/\g[i]?=j3 (hZ b)/\kc b/\i7 H' a b) (xs:=g.map λx=>V.str (S x)) (rest:=[]) (λR h=>#[1,2,3,2,(by rw[ew];show-Ey N),λl nl=>#[l,2,#[_,aI.of aQ],by rw[Y,ek];show-h l nl]]) rfl (by rw[X];have:=Ey N;show _<sizeLine;lia) ?_ ?_ (λi v n R J aF k=>?_) (λD n Z hL bR O m ju=>?_)
 .rintro i v n a5 U ⟨a,b,rfl,e,o,h⟩;show#[a,b,2,e,o,h.same U]
 .rintro i v n D ys zs bR ⟨a,b,rfl,e,o,c,B,G⟩;show#[a,b,2,e,o,c,by rw[aR (aq.gP B bR (by intro z;cases z))];show-B,by rw[aR (aq.gP G bR (by intro z;cases z))];show-G]
 .rw[cR]at J;let#[x,M,2]:=e6.mp J;let L:=dm M;show#[1,x,2,dQ (I x L) N,λb ok e a H' u aB=>k _ H' u #[a,b,2,by rw[M,e],ok,aB],λno H' u=>vw (λd ok e=>?_) H' (aF.trans u)];rw[OV Y (nb d e) ok e]at L;let#[b,du,2]:=bQ.mp L;exact no b (ok b du) rfl
 rw[X]at O;let#[as,d,2,aC,b2,dS]:=ZR Z g O m;show-q d b2 (by rw[<-y,aC];rfl) D n as hL ju bR dS
end
open cm
def abf(b:hx×List Nat):df:=(b.1.1.toNat,b.1.2,b.2)
def jE(b:df):PyData:=lO ((((b.1:Nat):Int),b.2.1),b.2.2)
structure mZ(b:df):Prop where
 t:b.1<3000000000
 r:b.2.1<100
 n:∀n∈b.2.2,n<100
 ne:b.2.2≠[]
 bX:b.2.2.Z<=40
def mZ.ok{b:df}(h:mZ b):Kz b:=(#[By h.t x8,By h.r x8,λn a=>By (h.n n a) x8,h.ne,h.bX])
def mZ.rd{b:df}(h:mZ b):kc b:=(#[h.ok.t,h.ok.r,h.ok.n,h.ne])
def apa(b:df):(gi (jE b)).1=(b.1:Int):=by unfold jE;rw[J1]
theorem Kc{a:List df}(h:∀b∈a,mZ b):RH (a.map jE):=λd f=>by
 let#[b,c,2]:=bQ.mp f;rw[apa];have:=(h b c).t
 lia
def aqO{b:df}(h:i7 H a b)(l:b.2.2.Z<=40):cO H (.ref a) (jE b):=by
 let#[c,d,f]:=h;show-.tup d (by show 3<=100;decide) (.cons (.int _) (.cons (.int _) (.cons (.tup f (by unfold lJ;rw[aM];lia) ?_) .nil)));unfold lJ;rw[ek]
 induction b.2.2 with
 |nil=>show-.nil
 |cons n r e=>show-.cons (.int _) e
def Iz{a:List df}(h:bV (i7 H) as a):(∀b∈a,mZ b)->gn H (aT as) (a.map jE):=by
 induction h with
 |nil=>exactλ_=>.nil
 |cons h t e=>exactλok=>.cons (aqO h (ok _ (.head _)).bX) (e λb c=>ok b (.tail _ c))
def W8{d:pa}(h:bV (lH H) as d)(ok:∀b∈d,0<=b.1.1):bV (i7 H) as (d.map abf):=by
 induction h with
 |nil=>show-.nil
 |@cons a b as d h t e=>
  show-.cons ?_ (e λb f=>ok b (.tail _ f));let#[c,g,k]:=h;show#[c,4,k];show H a=j3 (.tup [.int ((b.1.1.toNat:Nat):Int),.int b.1.2,.ref c]);rwa[la (ok b (.head _))]
def oY(s:h4):List df:=(ry s.hs s.ds (dG s.tb) s.bh).map abf
theorem kW.wu{b:List Row}(T:kW hs ds b):Jy hs ds (dG b):=λh g k e=>by
 rcases T.tab.get h g with⟨_,w⟩|⟨i,v,w,_⟩
 .rw[w]at e;cases e
 rw[w]at e;cases e;let hm:=γ v;unfold dG at hm;let#[r,f,m]:=bQ.mp hm;let#[j,d,a,c,l]:=(T.ok r f).at_;let#[n,p,t]:=r;cases m;let a:((k:Nat):Int)=(j:Int):=a;obtain rfl:k=j:=by lia
 unfold rA;rwa[show ds.getD k qy=d from kV c]
structure ar3(s:h4):Prop where
 jc:∃fin,kt s.hs s.ds (s.bh.map λd=>d.2.2) jp (s.bh.map kS) 0 ((oY s).map jE)=.inr fin
 bX:(oY s).Z<=70
 each:∀b∈oY s,mZ b/\b.1<=2000013000/\(∀n∈b.2.2,n<10)/\b.2.2.Z<=10
 pos:∀b∈ry s.hs s.ds (dG s.tb) s.bh,0<=b.1.1
def g4.ld{s:h4}(O:g4 s):KM s.bh:=(λd a=>(O.lk d a).2.2.2)
def g4.run{s:h4}(O:g4 s)(R:∀d∈s.ds,d.Ok s.hs.Z):ar3 s:=by
 let A:=O.lf;let F:=akg R O.tb.tab O.tb.wu O.kr (show s.bh.Z<=40 by lia) λd t=>by let#[f,l,k,_,r]:=O.lk d t;show#[f,l,k,9]
 let e:(oY s).map jE=(ry s.hs s.ds (dG s.tb) s.bh).map lO:=by unfold oY;rw[ek];show-rP λb a=>?_;show lO ((((b.1.1.toNat:Nat):Int),b.1.2),b.2)=_;rw[la (F.each b a).2.2.2.2.1]
 show#[by rw[e];show-F.jc,4,λb a=>?_,λb a=>(F.each b a).2.2.2.2.1]
 .unfold oY;rw[aM];have:=F.bX
  lia
 let#[c,p,2]:=bQ.mp a;let#[f,l,k,m,r,K]:=F.each c p;let L:=O.bX;let w:c.1.1.toNat<=2000013000:=by lia
 show#[#[by show c.1.1.toNat < 3000000000;lia,by show c.1.2<100;lia,λn g=>by have:=m n g;lia,f,by show c.2.Z<=40;lia],w,λn g=>by have:=m n g;lia,by show c.2.Z<=10;lia]
def apb{H:ag}{d:u0}(h:cO H v (pH d)):∃c,v=.ref c/\H c=j3 (.tup (q' d)):=by let#[c,p,2,a,_,k]:=ń h;let#[l,m,n,2,f,g,b]:=Rm k;rw[(ł f).1,Jm g,(ł b).1]at a;show#[c,2,a]
def anu{b:kl}(h:gn H j (b.map pH)):∃f,j=aT f/\eG H f (b.map q'):=by
 let p:=h.paired;clear h;generalize e:b.map pH=ds at p
 induction p generalizing b with
 |nil=>
  rw[Bk.mp e];show#[[],2,.nil]
 |cons a _ i=>
  let#[d,r,2,2,k]:=List.map_eq_cons_iff.mp e;let#[f,2,l]:=i k;let#[c,2,g]:=apb a;show#[c::f,2,.cons g l]
def ff.lets{H:ag}{A:g0}{s:h4}(D:ff h j i H x A s):∃a,H A.l=j3 (.lst (aT a))/\eG H a (s.bh.map q')/\a.Z=s.bh.Z:=by
 let b:=D.lt;cases b with
 |@lst _ xs _ b hz e=>
  let#[a,2,c]:=anu e;show#[a,b,c,by have:=c.len;rwa[aM]at this]
def NU(b:bE)(a:dF):(xx b a).Z=b.Z:=by unfold xx;rw[aM,jg]
def anv{a:Option (Int×Int)}{d:PyData}{e:Str}(h:rz hs ds j i a d=j3 e):kj e=q4/\e.Z<=100:=by
 unfold rz FP at h;split at h
 .repeat' (split at h)
  all_goals first|(cases h;exact⟨by left,by left⟩)|exact nomatch h
 cases h;show#[by left,by left]
theorem NV:∀{g:gy}{b:Option (Int×Int)}{a:dF}{p c:Nat}{e:Str},kt hs ds i b a p g=.inl (c,e)->kj e=q4/\e.Z<=100
 |[],_,_,_,_,_,h=>nomatch h
 |d::r,b,a,p,c,e,h=>by
  unfold kt at h;split at h
  .rename_i k f;cases h;show-anv f
  show-NV h
section
variable{P:cq}{w:bW}{K:aL}{mg:b5}{base:Heap}
abbrev RL:Stmt:=top 105
def aqP:cJ gF gF (b_ RL):=({})
inductive Kd(CK CW CN:Addr)(T:h4->Str)(vs:aV)(H:ag)(Q:aX)(E:bM):Prop where
 |mk(x:Addr)(v:aq.V)(A:g0)(s:h4)(_:vs=[.ref x,v])(_:ff CK CW CN H x A s)(_:g4 s)(_:∀H',aD H H'->Q (.str (T s)) H')
def yq(s:h4):Str:=S (ie (oY s))
def tc(s:h4):Str:=oW s.hs s.ds s.bh ((oY s).map jE)
def apm{f:Addr}(F:cp K "tell_run" "tell_run" RL f fd)(a:qv K e)(y:bU K mg "run" BN uQ f1 o)(I:-aH a9 6 f1 o uQ (J6 C j i))(G:bU K mg "show_plan" FQ ["plan"] f2 u)(k:-aH a9 2 f2 u ["plan"] (Q0 K)):
  -aH a9 7 f fd gF (Kd e j i yq):=by
 show-F.ok aqP (λ_ M _ X H Y Q E g h=>?_);show#[_,(a_ (cc (c2 k G g.mono b9 (aj (c2 I y g.mono b9 (aj (eX (ae 0)) (aj (eX (ae 0)) (aj (eX (ae 0)) aw)))) aw)))),4]
 ac_rfl
 let#[x,v,A,s,2,D,O,q]:=h;let#[N,t,L,R]:=D.lets;let T:=O.lf;let fO:=O.run D.i'.ok;show#[1,x,e,A.al,_,1,D.ins,a.cl,a.nn,7,x,e,A.al,_,1,D.ins,a.cl,a.nl,7,x,e,A.al,_,1,D.ins,a.cl,a.jO,2,A.n,A.l,A.y,A.t,A.bp,A.bl,s.hs,A.rs,N,s.ds,dG s.tb,s.bh,2,t,L,9,D.ft,O.g,D.i',O.tb.tab,λd c=>#[(O.lk d c).1,(O.lk d c).2.1,(O.lk d c).2.2.1],λl J r U z p V=>?_];show#[l,r,oY s,2,aI.of p,W8 V fO.pos,λb m=>(fO.each b m).1.ok,dQ fO.bX x8,λn B=>q n (z.trans B)]
abbrev RM:Stmt:=top 106
def aqQ:cJ gF gF (b_ RM):=({})
def apn{f:Addr}(F:cp K "tell_home" "tell_home" RM f fd)(a:qv K i)(rg:bU K mg "run" BN uQ f1 J)(vH:-aH a9 6 f1 J uQ (J6 C o j))(X:bU K mg "arrivals" yf m4 f2 M)(w0:-aH (iJ P w) 6 f2 M m4 (A6 C j fD))(Z:bU K mg "with_blanks" D6 tA cV U)(V:-aH a9 2 cV U tA (KL K)):
  -aH a9 7 f fd gF (Kd i o j tc):=by
 show-F.ok aqQ (λ_ h2 _ s0 H vs Q E k h=>?_);show#[_,(a_ (cc (c2 V Z k.mono b9 (aj (c2 w0 X k.mono JY (aj (eX (ae 0)) (aj (eX (ae 0)) (aj (c2 vH rg k.mono b9 (aj (eX (ae 0)) (aj (eX (ae 0)) (aj (eX (ae 0)) aw)))) aw)))) aw)))),4]
 ac_rfl
 let#[x,v,A,s,2,D,O,q]:=h;let#[N,t,L,hf]:=D.lets;let lf:=O.lf;let u:A.rs.Z<=40:=by rw[D.i'.len];show-O.bX
 let fO:=O.run D.i'.ok;let#[R,m]:=fO.jc;unfold tc oW at q;rw[m]at q;show#[1,x,i,A.al,_,1,D.ins,a.cl,a.nn,7,x,i,A.al,_,1,D.ins,a.cl,a.nl,2,#[1,x,i,A.al,_,1,D.ins,a.cl,a.nn,7,x,i,A.al,_,1,D.ins,a.cl,a.nl,7,x,i,A.al,_,1,D.ins,a.cl,a.jO,2,A.n,A.l,A.y,A.t,A.bp,A.bl,s.hs,A.rs,N,s.ds,dG s.tb,s.bh,2,t,L,9,D.ft,O.g,D.i',O.tb.tab,λd n=>#[(O.lk d n).1,(O.lk d n).2.1,(O.lk d n).2.2.1],λl H1 G nl c z T=>?_]];show#[A.n,A.bp,A.bl,A.l,l,A.rs,N,s.bh,s.hs,s.ds,aT G,(oY s).map jE,2,D.ft.g7.same c,D.i'.same c,u,c _ _ t,L.same c,9,z,Iz (W8 T fO.pos) λb g=>(fO.each b g).1,by rw[aM];have:=fO.bX;lia,Kc λb g=>(fO.each b g).1,O.ld,λsss r ah Y hL s2 B I=>?_,λp e r=>nomatch m.symm.trans r];cases m.symm.trans r;show#[Y,1,aI.of B,by rw[NU,aM];lia,I,λy s3=>q y (c.trans (s2.trans s3))]
end
structure RN(K:aL)(fD:Addr):Prop where
 sub:l' K fD fD=q4
 gB:nK K fD
 az:c7 K (.ref fD) "place"=j3 jp
 hn:c7 K (.ref fD) "reason"=j3 jp
 hd:uT K fD=q4
def Ć{p:Nat}{e:Str}(c:p<1000)(d:e.Z<=100):(cU "bad ").Z+(S (ct p)).Z<=16777216/\(cU "bad "++S (ct p)).Z+(cU " ").Z<=16777216/\(cU "bad "++S (ct p)++cU " ").Z+e.Z<=16777216:=by
 let b:cU "bad "=S [98,97,100,32]:=by left
 let a:cU " "=S [32]:=by left
 let l:=ma (m:=p) (By c x8);rw[b,a,kU,kU];simp only[ew,c0,ej,kf]
 lia
theorem walk_at:∀{f:gy}{c:Option (Int×Int)}{a:dF}{p b:Nat}{e:Str},kt hs ds i c a p f=.inl (b,e)->b<p+f.Z
 |[],_,_,_,_,_,h=>nomatch h
 |d::r,c,a,p,b,e,h=>by
  unfold kt at h;rw[ej];split at h
  .cases h
   lia
  have:=walk_at h
  lia
def ZT{X:bA}{K:aL}{f:Str}(b:X.K=K)(c:bq X e h)(a:yK e f X.env (eval e X.env)=eval e X.env):bq X (.Attribute e f pos) (Ů K h f):=by subst b;show-Pf c a
section
variable{P:cq}{w:bW}{K:aL}{mg:b5}{base:Heap}
abbrev RO:Stmt:=top 107
def Ke:cJ ["desk","values","plan","turns","error"] gF (b_ RO):=({})
inductive Q4(CK CW CN dy:Addr)(vs:aV)(H:ag)(Q:aX)(E:bM):Prop where
 |mk(x v:Addr)(A:g0)(s:h4)(l:bB)(_:vs=[.ref x,.ref v])(_:ff CK CW CN H x A s)(_:H v=j3 (.lst [.str (S l)]))(_:g4 s)(_:l.Z<=50000)(_:∀bs,(∀b∈bs,kc b)->l=ie bs->bs.Z<=98/\(∀b∈bs,mZ b)/\∀H',aD H H'->Q (.str (oW s.hs s.ds s.bh (bs.map jE))) H')(_:(∀bs,(∀b∈bs,kc b)->l≠ie bs)->∀H',aD H H'->E (.ref dy) jp H')
def apo{f:Addr}(F:cp K "tell_check" "tell_check" RO f fd)(B:fc mg)(m:qv K u)(c:RN K j)(pg:mg "BadBag"=j3 (.ref j))(M:bU K mg "read_plan" Nr kg f1 cW)(n:-aH (fE P w) 4 f1 cW kg (aas dy))(N:bU K mg "arrivals" yf m4 f2 d8)(w0:-aH (iJ P w) 6 f2 d8 m4 (A6 C J j))(qU:bU K mg "with_blanks" D6 tA cV iz)(R:-aH a9 2 cV iz tA (KL K)):
  -aH (fE P w) 7 f fd gF (Q4 u CW J dy):=by
 show-ra F Ke (λ_ h2 _ s0 H vs Q E r h=>?_);let X:=c.sub;show#[_,(a7 (cE 2 Ke.aA (c2 n M r.mono sN (aj (cn fG (ae 1) a8) aw)))
  (a7 (Ú (i:=4) rfl rfl (Pt (i:=3) Ke.aA rfl (BD rfl) (Õ w0 r.mono xo N.at_ N.fn.fK N.bd (aj (eX (ae 0)) (aj (eX (ae 0)) (aj (ae 2) aw))))) Ke.aA rfl rfl rfl pg X (λa=>(a_ (cc (br gA (br gA (br gA cz (hS oh B.str mO (aj (ZT rfl (ae 4) xo) aw))) cz) (ZT rfl (ae 4) xo))))))
  (a_ (cc (c2 R qU r.mono b9 (aj (ae 3) aw)))))),4]
 ac_rfl
 show-cut λbZ bF=>?_;let#[x,v,A,s,l,2,D,bc,O,hf,q,i9]:=h;let#[dA,au,cN,Mq]:=D.lets;let lf:=O.lf;let T:A.rs.Z<=40:=by rw[D.i'.len];show-O.bX
 show#[1,v,_,3,aI.of bc,2,l,2,hf,λy ok ib p H1 as np d az h6=>?_,i9];let#[U,G,q]:=q y ok ib;unfold oW at q;subst bF;show#[1,x,u,A.al,_,1,d _ _ D.ins,m.cl,m.nn,7,x,u,A.al,_,1,d _ _ D.ins,m.cl,m.nl,7,A.n,A.bp,A.bl,A.l,p,A.rs,dA,s.bh,s.hs,s.ds,aT as,y.map jE,2,D.ft.g7.same d,D.i'.same d,T,d _ _ au,cN.same d,9,az,Iz h6 G,by rwa[aM],Kc G,O.ld,λsss g k ke hL V ak bd=>?_,λpl e g b k aA V hd=>?_]
 .rw[g]at q;show#[1,ke,1,aI.of ak,by rw[NU,aM];lia,bd,λZ s3=>q Z (d.trans (V.trans s3))]
 rw[g]at q;show#[j,b,2,2,c.sub,λa I=>?_];let z:aD H (upd k a (l4 a j b)):=d.trans (V.trans (bT I));let t:upd k a (l4 a j b) a=j3 (l4 a j b):=aQ;let L:=bT (o:=l4 a j b) I _ _ hd;generalize upd k a (l4 a j b)=qJ at z t L⊢;let Y:=walk_at g;rw[aM]at Y;let#[eg,eC,i5]:=Ć (p:=pl) qI (NV g).2;show#[1,a,j,b,_,1,t,L,c.gB,c.az,c.hd,7,sH qI,4];rw[nz];show#[3,eg,3,eC,1,a,j,b,_,1,t,L,c.gB,c.hn,c.hd,2,3,i5,q _ z]
def i8(H:ag)(Q:aX)(a:aV):Prop:=∀l H',H l=jp->aD H H'->H' l=j3 (.lst a)->Q (.ref l) H'
def i8.after(q:i8 H Q e)(s:aD H H1):i8 H1 Q e:=(λl H' b a h=>q l H' (gH s b) (s.trans a) h)
def gV(y:Str):List aq.V:=[.bo q4,.str y]
abbrev H6:Stmt:=top 128
def RP:cJ ["_law_turns_here","_law_words","_law_turn"] ym (b_ H6):=({})
inductive KQ(vs:aV)(H:ag)(Q:aX)(E:bM):Prop where
 |mk(a:Addr)(ns:yG)(_:vs=[.ref a])(_:H a=j3 (.lst (ns.map mm)))(_:ns.Z<=40)(_:∀n∈ns,∀m,n=j3 m->m<10 ^ 10)(_:i8 H Q (gV (S (cK [32] (ns.map iE)))))
inductive ZX(a p:Addr)(ns:yG)(H:ag)(j:Nat)(aa:aq.St)(cY:ag):Prop where
 |mk(v:ji)(_:aa=[j3 (.ref a),j3 (.ref p),v])(_:aD H cY)(_:cY p=j3 (.lst (((ns.take j).map λn=>S (iE n)).map V.str)))
seal fN bq f3 gm
def aqR{f:Addr}(F:cp K "_law_turns" "_law_turns" H6 f fd)(B:fc mg):-aH a9 1 f fd ym KQ:=by
 show-F.ok RP (λ_ U _ X H Y Q E R h=>?_);show#[_,(a7 (cE 1 RP.aA (eY aw))
  (a7 (kq kH rfl (h7 (ae 0)) (dV 2 RP.aA)
   (a_ (er (fQ vy (ae 2) iZ (eK _)) (a_ (gL (i3 o' p7 p8 oo (ae 1) (aj cz aw)))) (a_ (gL (i3 o' p7 p8 oo (ae 1) (aj (hS oh B.str mO (aj (ae 2) aw)) aw)))))))
  (a_ (cc (eY (aj i2 (aj (i3 uS Kg Kh Ir cz (aj (ae 1) aw)) aw))))))),4]
 ac_rfl
 show-cut λi r=>?_;let#[a,c,2,L,T,ok,q]:=h;show#[eu _,λp y=>?_];show-eL i r λi r=>?_;let C:aD H (upd H p (.lst [])):=bT y;show#[1,a,2,#[_,aI.of (C _ _ L)],4];show-q6 (K:=K) (a:=a) (xs:=c.map mm) (ZX a p c H) #[jp,2,C,aQ] (λj N t _⟨_,_,h,_⟩=>aI.of (h _ _ L)) ?_ ?_
 .rintro j v N t s ⟨O,rfl,k,d⟩;rw[cR]at s;let#[n,A,2]:=e6.mp s;let Z:=(fU.mp A).1;let g:∀x:Str,x=S (iE n)->ZX a p c H (j+1) [j3 (.ref a),j3 (.ref p),j3 (mm n)] (upd t p (.lst (((c.take j).map λn=>S (iE n)).map V.str++[.str x]))):=λx I=>by
   show#[1,λb o e=>?_,4]
   .rw[aR (dj e y)];show-k _ _ e
   rw[aQ,p5,A,eb,eb,I];rfl
  let D:(((c.take j).map λn=>S (iE n)).map V.str).Z<1000:=by
   rw[aM,aM,jh]
   lia
  cases n with
  |none=>
   show#[1,7,d1 (cw rfl) #[1,.inl #[2,_,aI.of d],p,3,d,el qI,g _ xL]]
  |some m=>
   show#[1,7,eM (c9 (by intro z;cases z)) #[1,.inl #[2,_,aI.of d],1,(m:Int),2,sH (ok _ (dm A) m rfl),p,3,d,el qI,g _ (nz m)]]
 rintro N t ⟨O,rfl,k,d⟩;subst r;rw[aM,n1]at d;let M:cU " "=S [32]:=by left
 rw[M];show#[7,S [32],p,c.map λn=>S (iE n),2,2,aI.of d,4,4]
 .have:=OD (λx:Str=>x.Z) 10 (c.map λn=>S (iE n)) λx G=>by let#[n,J,2]:=bQ.mp G;rw[ew];show-Z' (ok n J)
  rw[aM]at this⊢;rw[ew];simp only[ej,kf]
  lia
 let e:(c.map λn=>S (iE n))=(c.map iE).map S:=by rw[ek];rfl
 rw[e,DY];show#[sz_,λl u=>q l _ (gH k u) (k.trans (bT u)) aQ]
unseal fN bq f3 gm
def A7:Out->List aq.V
 |.ok e=>gV (S (cK [32] (e.map ct)))
 |.no _ _=>[.str "way"]
abbrev Ni:Stmt:=top 130
abbrev MV:List Str:=["_law_net","_law_letters","_law_plan"]
def BW:cJ ["_law_net","_law_letters","_law_plan","_law_error","_law_found","e"] MV (b_ Ni):=({})
inductive RQ(CN:Addr)(vs:aV)(H:ag)(Q:aX)(E:bM):Prop where
 |mk(n bp bl e' pp:Addr)(rs dA as:bS)(eh:kl)(hs:bb)(ds:b0)(bs:List df)(_:vs=[.ref n,.ref e',.ref pp])(_:iC CN H n bp bl (c1 hs) (aT rs))(_:gG H hs rs ds)(_:rs.Z<=40)(_:H e'=j3 (.lst (aT dA)))(_:eG H dA (eh.map q'))(_:eh.Z<=40)(_:H pp=j3 (.lst (aT as)))(_:bV (i7 H) as bs)(_:∀b∈bs,mZ b)(_:bs.Z<=98)(_:KM eh)(_:i8 H Q (gV (oW hs ds eh (bs.map jE))))
seal fN bq f3 gm
def aqS{f:Addr}(F:cp K "_law_checked" "_law_checked" Ni f fd)(B:fc mg)(d:RN K j)(pg:mg "BadBag"=j3 (.ref j))(V:bU K mg "arrivals" yf m4 f1 cW)(w0:-aH (iJ P w) 6 f1 cW m4 (A6 C O j))(r_:bU K mg "_law_turns" H6 ym f2 d8)(T:-aH a9 1 f2 d8 ym KQ):
  -aH a9 7 f fd MV (RQ O):=by
 show-F.ok BW (λ_ h2 _ s0 H vs Q E u h=>?_);let Y:=d.sub;show#[_,(a7 (cE 3 BW.aA iZ)
  (a7 (cE 4 BW.aA (eY aw))
  (a7 (Ú (i:=5) rfl rfl (Pt (i:=4) BW.aA rfl (BD rfl) (Õ w0 u.mono xo V.at_ V.fn.fK V.bd (aj (ae 0) (aj (ae 1) (aj (ae 2) aw))))) BW.aA rfl rfl rfl pg Y (λa=>(a_ (cE 3 BW.aA (ae 5)))))
  (a7 (er (fQ vy (ae 3) iZ (eK _)) (a_ (cc (c2 T r_ u.mono b9 (aj (ae 4) aw)))) eB)
  (a_ (cc (eY (aj i2 (aj (br gA (br gA (br gA cz (hS oh B.str mO (aj (Pf (ae 3) xo) aw))) cz) (Pf (ae 3) xo)) aw))))))))),4]
 ac_rfl
 show-cut λr g=>?_;let#[n,bp,bl,e',pp,rs,x,as,y,hs,ds,bs,2,N,R,bX,lB,J,U,M,h6,D,X,ld,q]:=h;let hf:x.Z=y.Z:=by have:=J.len;rwa[aM]at this
 show-eL r g λr g=>?_;show#[eu _,λp np=>?_];let b:aD H (upd H p (.lst [])):=bT np;show-eL r g λr g=>?_;show jQ _ _ _ _ (upd H p (.lst []));generalize upd H p (.lst [])=H1 at b⊢;unfold oW at q;show#[5,1,n,bp,bl,e',pp,rs,x,y,hs,ds,aT as,bs.map jE,2,N.same b,R.same b,bX,b _ _ lB,J.same b,9,b _ _ M,(Iz h6 D).same b,by rwa[aM],Kc D,ld,λsss k m ke hL s ak bd=>?_,λpl e k c m aA s hd=>?_]
 .rw[k]at q;subst g;show#[1,7,d1 (cw rfl) #[1,ke,1,ak,by rwa[NU,aM],bd,q.after (b.trans s)]]
 rw[k]at q;show#[j,c,2,2,d.sub,λa I=>?_];let t:aD H (upd m a (l4 a j c)):=b.trans (s.trans (bT I));let A:upd m a (l4 a j c) a=j3 (l4 a j c):=aQ;let L:=bT (o:=l4 a j c) I _ _ hd;generalize upd m a (l4 a j c)=qJ at t A L⊢;let Z:=walk_at k;rw[aM]at Z;let#[eg,eC,i5]:=Ć (p:=pl) qI (NV k).2;show#[1,4];subst g;show#[1,7,eM (c9 (by intro z;cases z)) ?_];show#[1,a,j,c,_,1,A,L,d.gB,d.az,d.hd,7,sH qI,4];rw[nz];show#[3,eg,3,eC,1,a,j,c,_,1,A,L,d.gB,d.hn,d.hd,2,3,i5,sz_,λl G=>q l _ (gH t G) (t.trans (bT G)) aQ]
abbrev Nj:Stmt:=top 131
abbrev MW:List Str:=["_law_table","_law_house","_law_goal"]
def KR:cJ ["_law_table","_law_house","_law_goal","_law_found"] MW (b_ Nj):=({})
inductive aaW(CW CN:Addr)(vs:aV)(H:ag)(Q:aX)(E:bM):Prop where
 |mk(y n t bp bl:Addr)(hs:bb)(rs:bS)(ds:b0)(kvs:eo)(h g:Str)(_:vs=[.ref y,.str h,.str g])(_:mP CW CN H y n t bp bl (c1 hs) (aT rs) kvs)(_:Good hs)(_:gG H hs rs ds)(_:lg kvs ds.Z)(_:ds.Z<=40)(_:h∈hs.map S)(_:g∈hs.map S)(_:i8 H Q (A7 (ic kvs hs ds g 13 h [h] [])))
def aqr{f:Addr}(F:cp K "_law_route" "_law_route" Nj f fd)(B:fc mg)(hb:fw K s)(N:l' K o o=q4)(oz:mg "NoWay"=j3 (.ref o))(Y:dn K s "route" "Ways.route" D3 fZ f1 cW)(Hi:-aH (iJ P w) 3 f1 cW fZ (KG s CN hQ o)):
  -aH a9 4 f fd MW (aaW s CN):=by
 show-F.ok KR (λ_ h2 _ s0 H vs Q E ao h=>?_);show#[_,(a7 (cE 3 KR.aA iZ)
  (a7 (ó rfl rfl (Pt (i:=3) KR.aA rfl (BD rfl) (ô (ae 0) hb Y.eO Hi ao.mono Y.bd (aj (ae 1) (aj (ae 2) aw)))) rfl oz N (λd=>(a_ (cE 3 KR.aA iZ))))
  (a7 (er (fQ vy (ae 3) iZ (eK _)) (a_ (cc (eY (aj cz aw)))) eB)
  (a_ (cc (eY (aj i2 (aj (i3 uS Kg Kh Ir cz (aj (mc (N':=["_law_n"]) (cs:=[jp]) rfl (h7 (ae 3)) rfl xL rfl xL (ia (λp r=>bt r (dU))) rfl
   (.own .nil)
   (λC s3 a5 bY da=>#[(dV 0 (by show(["_law_n"]:bE).Nodup;decide+kernel)),jm,(hS oh B.str mO (aj (ae 0) aw))])) aw)) aw)))))))),4]
 ac_rfl
 show-cut λM A=>?_;let#[y,n,t,bp,bl,X,rs,ds,c,h,g,2,W,G,R,T,atp,fi,hK,q]:=h;let#[d2,cd]:=W.ins;show-eL M A λM A=>?_;show#[1,y,d2,1,cd,7,1,y,n,t,bp,bl,X,rs,ds,c,h,g,2,W,G,R,T,λ_ _=>?_,λz=>z.elim (bt fi) (bt hK)];subst A;cases e:ic c X ds g 13 h [h] []with
 |ok j=>
  rw[e]at q;let q:i8 H Q (gV (S (cK [32] (j.map ct)))):=q;intro l H1 a L m;let#[b,hu]:=OU T 13 e (λ_ z=>bt z dU);rw[kf]at hu;show#[1,7,eM (c9 (by intro z;cases z)) #[2,4]];dsimp only[kT];let ln:(j.map λk:Nat=>V.int (k:Int)).Z=j.Z:=aM _;refine vu (J:=kE K l) (H1:=H1) (xs:=j.map λk:Nat=>V.int (k:Int)) (rest:=[]) (λR h=>#[1,l,2,#[_,aI.of m],h]) rfl (pB (aI.of m)) (el qI) (λi=>.str (S (ct (j.getD i 0)))) (λi v u R O aF k=>?_) (λD u hL bR ju=>?_)
  .rw[cR]at O;let#[n,U,2]:=e6.mp O;have:=b n (dm U);show#[5,sH qI,4];rw[nz];have:=k u (aD.refl _);rwa[dB,U]at this
  let sf:(dY (j.map λk:Nat=>V.int (k:Int)).Z).map (λi=>V.str (S (ct (j.getD i 0))))=((j.map ct).map S).map V.str:=by rw[ln,range_getD (λn=>V.str (S (ct n))) 0 j,ek,ek];rfl
  rw[sf]at bR;let lN:cU " "=S [32]:=by left
  rw[lN];show#[S [32],D,(j.map ct).map S,2,2,aI.of bR,4,4]
  .have:=OD (λx:Str=>x.Z) 10 ((j.map ct).map S) λx ar=>by let#[p,r,2]:=bQ.mp ar;let#[n,hn,2]:=bQ.mp r;rw[ew];show-ma (by have:=b n hn;lia)
   rw[aM,aM]at this⊢;rw[ew];simp only[ej,kf]
   lia
  rw[DY];let Z:=L.trans ju;show#[sz_,λl a=>q l _ (gH Z a) (Z.trans (bT a)) aQ]
 |no qF sn=>
  rw[e]at q;let q:i8 H Q [.str "way"]:=q;intro I l H1 aA a w7 L hd m;show#[o,I,2,2,N,λd nu=>?_];let b:aD H (upd H1 d (l4 d o I)):=L.trans (bT nu);show#[1,7,d1 (cw rfl) #[sz_,λl a=>q l _ (gH b a) (b.trans (bT a)) aQ]]
unseal fN bq f3 gm
def K2:df:=(0,0,[])
def Ws(b:df)(c:Nat):df:=if c/64%4=0 then(b.1+1+c/256%3,b.2.1,b.2.2)else if c/64%4=1 then(b.1,c/256%11,b.2.2)else(b.1,b.2.1,b.2.2++[c/256%12])
def A8(a:List df)(c:Nat):List df:=if a=[]then[(c%100,c%3,[0])]else if c/64%4=2 then a.take (c%a.Z+1)++a.drop (c%a.Z)else a.take (c%a.Z)++[Ws (a.getD (c%a.Z) K2) c]++a.drop (c%a.Z+1)
end
def alZ{a:List df}(h:∀b∈a,mZ b/\b.1<=2000013000/\(∀n∈b.2.2,n<10)/\b.2.2.Z<=10)(w:a.Z<=70)(c:Nat):(∀b∈A8 a c,mZ b)/\(A8 a c).Z<=98:=by
 unfold A8;split
 .show#[λb d=>?_,by show 1<=98;decide];obtain rfl:=e4.mp d;show#[by show c%100<3000000000;lia,by show c%3<100;lia,λn g=>by rw[e4.mp g];decide,by simp,by show 1<=40;decide]
 rename_i t;let l:=p3.mpr t;let f:=Ï c l;split
 .show#[λb d=>?_,by rw[c0,jh,rO];show-dQ (Ë (Î _ _) _) qI];rcases gU.mp d with z|z
  .exact(h b (uO z)).1
  exact(h b (E9 z)).1
 show#[λb d=>?_,by rw[c0,c0,jh,rO];show-dQ (Ë (Ë (Î _ _) _) _) (by show _+1+_<=98;lia)];rcases gU.mp d with z|z
 .rcases gU.mp z with z|z
  .exact(h b (uO z)).1
  obtain rfl:=e4.mp z;let hm:a.getD (c%a.Z) K2∈a:=by rw[dB,cQ f];show-nZ f
  let#[k,m,p,r]:=h _ hm;generalize a.getD (c%a.Z) K2=b at k m p r;unfold Ws;split
  .show#[by show b.1+1+c/256%3<3000000000;lia,k.r,k.n,k.ne,k.bX]
  split
  .show#[k.t,by show c/256%11<100;lia,k.n,k.ne,k.bX]
  show#[k.t,k.r,λn g=>?_,by simp,by show(b.2.2++[c/256%12]).Z<=40;rw[c0];show b.2.2.Z+1<=40;lia];rcases gU.mp g with z|z
  .exact k.n n z
  rw[e4.mp z]
  lia
 exact(h b (E9 z)).1
def NW(a:bS)(k:Nat)(h:k<=a.Z):gg (aT a) jp (j3 (k:Int))=aT (a.take k):=by unfold gg;rw[eD.D1,eD.Ng,eW,Bz h];unfold aT;rw[<-Α,<-E8];rfl
def NX(a:bS)(k:Nat)(h:k<=a.Z):gg (aT a) (j3 (k:Int)) jp=aT (a.drop k):=by unfold gg;rw[eD.D1,eD.Ng,eW,Bz h];unfold aT;rw[<-Α,<-E8,o6 (by rw[rO];lia)]
theorem WV{f g:Type}{R:f->g->Prop}:∀{c:List f}{d:List g}(k:Nat),bV R c d->bV R (c.take k) (d.take k)
 |_,_,0,_=>.nil
 |_,_,_+1,.nil=>.nil
 |_,_,k+1,.cons a b=>.cons a (WV k b)
theorem ul{d f:Type}{R:d->f->Prop}:∀{a:List d}{c:List f}(k:Nat),bV R a c->bV R (a.drop k) (c.drop k)
 |_,_,0,h=>h
 |_,_,_+1,.nil=>.nil
 |_,_,k+1,.cons _ b=>ul k b
theorem vl{c d:Type}{R:c->d->Prop}{f:List c}{g:List d}:∀{k:List c}{l:List d},bV R k l->bV R f g->bV R (k++f) (l++g)
 |_,_,.nil,h=>h
 |_,_,.cons a b,h=>.cons a (vl b h)
def apq(b:df):(jE b).canLay0=q4:=by
 unfold jE lO uJ;show-Pd λd hd=>?_;rcases et.mp hd with rfl|hd
 .rfl
 rcases et.mp hd with rfl|hd
 .rfl
 rw[e4.mp hd];show-Pd λd hd=>?_;let#[_,1]:=bQ.mp hd;rfl
def al0(b:df):(jE b).depth<=2:=by
 unfold jE lO uJ;simp only[Fw,tC];have:=XN (n:=0) (ds:=(b.2.2.map λn:Nat=>(n:Int)).map wd) λd a=>by let#[_,1]:=bQ.mp a;show-b7 _
 lia
section
variable{P:cq}{w:bW}{K:aL}{mg:b5}{base:Heap}
abbrev Nu:Stmt:=top 132
abbrev awE:List Str:=["_law_plan","_law_cell","_law_at","_law_turn","_law_road_here","_law_numbers","_law_way"]
def BX:cJ awE Fg (b_ Nu):=({})
inductive aaX(vs:aV)(H:ag)(Q:aX)(E:bM):Prop where
 |mk(p:Addr)(c:Nat)(as:bS)(bs:List df)(_:vs=[.ref p,.int (c:Int)])(_:H p=j3 (.lst (aT as)))(_:bV (i7 H) as bs)(_:∀b∈bs,mZ b)(_:bs.Z<=70)(_:∀l H' FV,H l=jp->aD H H'->H' l=j3 (.lst (aT FV))->bV (i7 H') FV (A8 bs c)->Q (.ref l) H')
seal fN bq f3 gm
def aqs{f:Addr}(F:cp K "_law_spoiled" "_law_spoiled" Nu f fd)(B:fc mg):-aH a9 1 f fd Fg aaX:=by
 show-F.ok BX (λ_ h2 _ s0 H vs Q E ao h=>?_);show#[_,(a7 (er (fQ (anL ao.units) (ae 0) (eY aw) (eK _)) (a_ (cc (eY (aj (h_ (aj (br ha (ae 1) a8) (aj (br ha (ae 1) a8) (aj (h_ (aj a8 aw)) aw)))) aw)))) eB)
  (a7 (cE 2 BX.aA (br ha (ae 1) (dp hI B.len g_ (aj (ae 0) aw))))
  (a7 (an6 (cn fG (ae 0) (ae 2)) (Ad rfl (iX (dV 3 BX.aA) (iX (dV 4 BX.aA) (iX (dV 5 BX.aA) sM)))))
  (a7 (cE 6 BX.aA (br ha (br nk (ae 1) a8) a8))
  (a7 (er (fQ nB (ae 6) a8 (eK _)) (a_ (cc (br jI (br jI (mG qh (ae 0) mJ (kn (ae 2))) (eY (aj (h_ (aj (br h9 (br h9 (ae 3) a8) (br ha (br nk (ae 1) a8) a8)) (aj (ae 4) (aj (ae 5) aw)))) aw))) (mG qh (ae 0) (kn (br h9 (ae 2) a8)) mJ)))) eB)
  (a7 (er (fQ nB (ae 6) a8 (eK _)) (a_ (cc (br jI (br jI (mG qh (ae 0) mJ (kn (ae 2))) (eY (aj (h_ (aj (ae 3) (aj (br ha (br nk (ae 1) a8) a8) (aj (ae 5) aw)))) aw))) (mG qh (ae 0) (kn (br h9 (ae 2) a8)) mJ)))) eB)
  (a7 (er (fQ nB (ae 6) a8 (eK _)) (a_ (cc (br jI (mG qh (ae 0) mJ (kn (br h9 (ae 2) a8))) (mG qh (ae 0) (kn (ae 2)) mJ)))) eB)
  (a_ (cc (br jI (br jI (mG qh (ae 0) mJ (kn (ae 2))) (eY (aj (h_ (aj (ae 3) (aj (ae 4) (aj (br alT (ae 5) (h_ (aj (br ha (br nk (ae 1) a8) a8) aw))) aw)))) aw))) (mG qh (ae 0) (kn (br h9 (ae 2) a8)) mJ))))))))))),4]
 ac_rfl
 show-cut λN L=>?_;let#[p,c,a,j,2,az,h6,iM,bX,q]:=h;let B4:=lU h6;unfold A8 at q;show#[1,gs λcD H1 y LC=>?_];let oS:cO H1 (.ref p) (.list (j.map jE)):=.lst (y _ _ az) (by rw[eW];lia) ((Iz h6 iM).same y);show#[6,oS.sb,.lst (aI.of LC) .nil,Xp (n:=3) (Pd λd hd=>?_) ?_ x8,by rfl,1,4]
 .let#[b,1]:=bQ.mp hd;show-apq b
 .simp only[Fw];show-aiH (XN λd hd=>?_);let#[b,1]:=bQ.mp hd;show-al0 b
 let x:=y _ _ az;let atc:=bV.kv h6 λ_ _ h=>h.same y;by_cases O:j=[]
 .subst O;let q:∀l H' FV,H l=jp->aD H H'->H' l=j3 (.lst (aT FV))->bV (i7 H') FV [(c%100,c%3,[0])]->Q (.ref l) H':=q;refine d1 rfl #[1,3,x8,1,3,x8,gs λht u M ai=>gs λs J m ak=>#[WH rfl,λl T=>?_]];let g:=bT (o:=.lst [.ref s]) T;show-q l _ [s] (gH (y.trans (M.trans m)) T) (y.trans (M.trans (m.trans g))) aQ (.cons #[ht,by rw[g _ _ ak];congr 3<;>lia,g _ _ (m _ _ ai)] .nil)
 rw[a4 O]at q;let pos:=p3.mpr O;let as3:((aT a).Z:Int)=(j.Z:Int):=by rw[eW,B4]
 obtain⟨i,gW⟩:∃i,i=c%j.Z:=#[1]
 let Ma:i<j.Z:=by rw[gW];show-Ï c pos
 let ci:(c:Int)%(j.Z:Int)=(i:Int):=by rw[gW];exact(Int.natCast_emod c j.Z).symm
 rw[<-gW]at q;obtain⟨K0,X⟩:∃K0,a[i]?=j3 K0:=#[_,cQ qI]
 let#[b,dW,R7,j4,i1]:=bV.get atc X;rw[show j.getD i K2=b from kV dW]at q;show-eM (by cases j with|nil=>exact bt rfl O|cons _ _=>rfl) ?_;show-eL N L λN L=>?_;show#[5,p,1,.inl (aI.of x),3,(by show(0:Int)<((aT a).Z:Int);lia),4];rw[as3,ci];show-eL N L λN L=>?_;show#[5,p,_,3,aI.of x,(show aq.hp (aT a) (i:Int)=j3 (.ref K0)from jG (by unfold aT;rw[cR,X];rfl)),4];show#[K0,1,cj.of j4,2,_,1,_,1,3,4];show-eL N L λN L=>?_;show#[1,3,#[8,8],3,8,4];obtain⟨k,d7⟩:∃k,k=c/64%4:=#[1]
 let km:(c:Int)/64%4=(k:Int):=by lia
 rw[km];rw[<-d7]at q;unfold Ws at q;rw[<-d7]at q;clear km d7;show-eL N L λN L=>?_;let fv:i<=a.Z:=by lia
 let gr:i+1<=a.Z:=by lia
 let D:∀{u:ag}{s:Addr}{b1:df}{l:Addr},k≠2->aD H1 u->i7 u s b1->(if k=0 then(b.1+1+c/256%3,b.2.1,b.2.2)else if k=1 then(b.1,c/256%11,b.2.2)else(b.1,b.2.1,b.2.2++[c/256%12]))=b1->u l=jp->Q (.ref l) (upd u l (.lst (aT (a.take i)++[.ref s]++aT (a.drop (i+1))))):=λ{u s b1 l}R s2 O e T=>by rw[a4 R,e]at q;let w:=y.trans (s2.trans (bT (o:=.lst (aT (a.take i)++[.ref s]++aT (a.drop (i+1)))) T));show-q l _ (a.take i++[s]++a.drop (i+1)) (gH (y.trans s2) T) w (by rw[aQ];unfold aT;rw[eb,eb];rfl) ?_;let U:bV (i7 _) a j:=bV.kv h6 λ_ _ h=>h.same w;show-vl (vl (WV i U) (.cons (O.same (bT T)) .nil)) (ul (i+1) U)
 let UU:∀t:Addr,(aT (a.take i)++[V.ref t]).Z+(aT (a.drop (i+1))).Z<=sizeLine:=λt=>n2 (el (by rw[c0,eW,eW,jh,rO];show _+1+_<=1000;lia));show#[1,7,4];by_cases k0:k=0
 .refine d1 (cw (by rw[k0];rfl)) ?_;show#[5,1,xn (aI.of x) (NW a i fv) λeg u A G=>#[1,3,1,3,#[8,8],3,8,3,5,gs λs J m Y=>gs λeC dx g I=>oU (g _ _ (m _ _ G)) I (hn:=el (by rw[eW,jh];lia)) λi5 bH Z pw=>?_]];let z:=m.trans (g.trans Z);show#[5,3,1,xn (aI.of (z _ _ (A _ _ x))) (NX a (i+1) gr) λqi je r sv=>#[i5,qi,3,r _ _ pw,sv,UU _,λnA C=>?_]];show-D (b1:=(b.1+1+c/256%3,b.2.1,b.2.2)) qI (A.trans (z.trans r)) #[R7,(g.trans (Z.trans r)) _ _ Y,(z.trans r) _ _ (A _ _ i1)] (a' k0) C
 show-eM (c9 λz=>k0 (by have:=V.int.inj z;lia)) ?_;show-eL N L λN L=>?_;show#[1,7,4];by_cases k1:k=1
 .refine d1 (cw (by rw[k1];rfl)) ?_;show#[5,1,xn (aI.of x) (NW a i fv) λeg u A G=>#[5,3,#[8,8],3,8,1,gs λs J m Y=>gs λeC dx g I=>oU (g _ _ (m _ _ G)) I (hn:=el (by rw[eW,jh];lia)) λi5 bH Z pw=>?_]];let z:=m.trans (g.trans Z);show#[5,3,1,xn (aI.of (z _ _ (A _ _ x))) (NX a (i+1) gr) λqi je r sv=>#[i5,qi,3,r _ _ pw,sv,UU _,λnA C=>?_]];show-D (b1:=(b.1,c/256%11,b.2.2)) qI (A.trans (z.trans r)) #[R7,(g.trans (Z.trans r)) _ _ Y,(z.trans r) _ _ (A _ _ i1)] ((a4 k0).trans (a' k1)) C
 show-eM (c9 λz=>k1 (by have:=V.int.inj z;lia)) ?_;show-eL N L λN L=>?_;show#[1,7,4];by_cases R:k=2
 .refine d1 (cw (by rw[R];rfl)) ?_;rw[a' R]at q;show#[5,3,1,xn (aI.of x) (NW a (i+1) gr) λeg u A G=>#[5,1,xn (aI.of (A _ _ x)) (NX a i fv) λeC J hu I=>#[eg,eC,3,hu _ _ G,I,n2 (el (by rw[eW,eW,jh,rO];lia)),λnA C=>?_]]];let hu:=A.trans hu;let w:=y.trans (hu.trans (bT (o:=.lst (aT (a.take (i+1))++aT (a.drop i))) C));show-q nA _ (a.take (i+1)++a.drop i) (gH (y.trans hu) C) w (by rw[aQ];unfold aT;rw[eb]) ?_;let U:bV (i7 _) a j:=bV.kv h6 λ_ _ h=>h.same w;show-vl (WV (i+1) U) (ul i U)
 show-eM (c9 λz=>R (by have:=V.int.inj z;lia)) ?_;subst L;let bne:=(iM b (dm dW)).ne;let aAt:=(iM b (dm dW)).bX;show#[5,1,xn (aI.of x) (NW a i fv) λeg u A G=>#[5,5,3,#[8,8],3,8,gs λht J v1 auX=>#[R7,ht,lJ b.2.2,[.int ((c:Int)/256%12)],2,2,cj.of (v1 _ _ (A _ _ i1)),cj.of auX,λz=>bne (Bk.mp z),el (by unfold lJ;rw[aM];lia),(λz=>nomatch z),λ_ fH awI=>?_]]];let v2:=v1.trans (bT (o:=.tup (lJ b.2.2++[.int ((c:Int)/256%12)])) awI);let GD:upd J fH (.tup (lJ b.2.2++[.int ((c:Int)/256%12)])) fH=j3 (.tup (lJ (b.2.2++[c/256%12]))):=by rw[aQ];unfold lJ;rw[eb];rfl
 generalize upd J fH (.tup (lJ b.2.2++[.int ((c:Int)/256%12)]))=dx at v2 GD⊢;show-gs λs bH M Y=>gs λeC je m I=>oU (m _ _ (M _ _ (v2 _ _ G))) I (hn:=el (by rw[eW,jh];lia)) λi5 jz g pw=>?_;let z:=v2.trans (M.trans (m.trans g));show#[5,3,1,xn (aI.of (z _ _ (A _ _ x))) (NX a (i+1) gr) λqi e3 r sv=>#[i5,qi,3,r _ _ pw,sv,UU _,λnA C=>?_]];show-D (b1:=(b.1,b.2.1,b.2.2++[c/256%12])) R (A.trans (z.trans r)) #[fH,(m.trans (g.trans r)) _ _ Y,(M.trans (m.trans (g.trans r))) _ _ GD] ((a4 k0).trans (a4 k1)) C
unseal fN bq f3 gm
end
theorem aH.wide{K:aL}{m:b5}{a:Heap}{d g:o4}{j k:Nat}{f:Addr}(F:aH P w K m a d j f fd i sp)(h:∀l H s E e c,d l H s E e c->g l H s E e c)(L:j<=k):aH P w K m a g k f fd i sp:=
 #[F.len,λA b s H args o u Q E p N n t V=>by
  show-r9 ((F.mono L).run A b s H args o u Q E p N n t V) λr c q=>?_;cases r with
  |ok v=>cases v<;>show-q
  |error e=>show-h _ _ _ _ _ _ q]
structure rG where
 (aW z0 le Ar rk iy rt en hm km:Addr)
inductive pZ(CK CW CN cS dy:Addr)(D:rG):Addr->fx->Prop
 |aW:pZ CK CW CN cS dy D D.aW (aag CK CW CN)
 |z0:pZ CK CW CN cS dy D D.z0 (aai CK CW CN)
 |le:pZ CK CW CN cS dy D D.le (aam CK CW CN)
 |Ar:pZ CK CW CN cS dy D D.Ar (aak CK CW CN)
 |rk:pZ CK CW CN cS dy D D.rk (aaj CK CW CN)
 |iy:pZ CK CW CN cS dy D D.iy (aan CK CW CN)
 |rt:pZ CK CW CN cS dy D D.rt (aao CK CW CN cS)
 |en:pZ CK CW CN cS dy D D.en (Kd CK CW CN yq)
 |hm:pZ CK CW CN cS dy D D.hm (Kd CK CW CN tc)
 |km:pZ CK CW CN cS dy D D.km (Q4 CK CW CN dy)
section
variable{P:cq}{w:bW}{K:aL}{mg:b5}{base:Heap}
abbrev KS:Stmt:=ij (top 120) 1
def Q5:cJ ["self","row","words","values"] Fj (b_ KS):=({})
inductive aat(K:aL)(R:lV)(cb cy:Addr)(cs:Addr->fx->Prop)(vs:aV)(H:ag)(Q:aX)(E:bM):Prop where
 |mk(x:Addr)(row kw:Str)(ws:bE)(dX:List fO)(us:aV)(f:Addr)(sp:fx)(_:vs=[.ref x,.str row])(_:Kw row (kw::ws))(_:jo K cb kw (dX.map R.f))(_:tE dX ws us)(_:dX.Z<=10)(_:iK K cy kw=j3 (j3 (.ref f)))(_:cs f sp)(_:∀l H',H l=jp->aD H H'->H' l=j3 (.lst us)->sp [.ref x,.ref l] H' Q E)
def apB{aY f ND:Addr}{R:lV}{s:Addr->fx->Prop}(F:cp K "say" "Desk.say" KS f fd)(V:mg "DESK_ANSWERS"=j3 (.ref e))(i:TopD w K e)(C:bU K mg "words_of" Nv ["row"] f1 J)(n:-aH a9 1 f1 J ["row"] aaQ)(B:bU K mg "values_of" Kv ["words"] f2 O)(m:-aH a9 4 f2 O ["words"] (aac K R M))(U:∀g k,s g k->WF P w K mg base (iJ P w) 8 g k):-aH (iJ P w) 9 f fd Fj (aat K R M e s):=by
 show-DK F Q5 (λ_ h2 _ s0 H vs Q E p h=>?_);show#[_,(a7 (cE 2 Q5.aA (c2 n C p.mono b9 (aj (ae 1) aw)))
  (a7 (cE 3 Q5.aA (c2 m B p.mono b9 (aj (ae 2) aw)))
  (a7 (er (PE (apd (cn fG (ae 2) a8) (ny V))) (a_ (cc (Z9 (ã (ny V) (cn fG (ae 2) a8) (λ_ _=>rfl)) U p.mono XP (aj (ae 0) (aj (ae 3) aw))))) eB)
  ajG))),4]
 ac_rfl
 show-cut λo t=>?_;let#[x,A,b,c,T,us,g,k,2,r,tM,Z,z,u,I,q]:=h;show#[1,A,1,r,λa X=>?_];let L:aD H (upd H a (.lst (ml (b::c)))):=bT X;let d:upd H a (.lst (ml (b::c))) a=j3 (.lst (ml (b::c))):=aQ;show-eL o t λo t=>?_;show jQ _ _ _ _ (upd H a (.lst (ml (b::c))));generalize upd H a (.lst (ml (b::c)))=H1 at L d⊢;show#[1,a,b,c,T,us,2,d,tM,Z,z,λl D Y N G=>?_];subst t;let y:aq.hp (ml (b::c)) 0=j3 (.str b):=jG (j:=0) rfl;show#[1,a,_,3,aI.of (N _ _ d),y,b,e,1,2,i,u,1,d1 rfl ?_];show#[1,a,_,3,aI.of (N _ _ d),y,b,e,g,2,2,i,u,g,k,2,I,5,q l D (gH L Y) (L.trans N) G]
end
end dP
namespace b4
open PySem PySem.Spec PyProof.Rows aq
theorem Y7:∀{c:List Bool}{a:dR},cI (c.map V.bo) a->a=c.map FJ
 |[],_,.nil=>rfl
 |b::c,_,.cons h r=>by cases h;rw[Y7 r];rfl
def aaY:Value->Bool
 |.bool b=>b
 |_=>q9
section
variable{X:bA}
inductive anw(K:aL)(x:aq.V)(vs:aV)(H:ag)(Q:aX):Prop where
 |mk(l:Addr)(bs:List Bool)(k:Nat)(_:x=.ref l)(_:vs=[.bo q4])(_:aI K H l (bs.map V.bo))(_:bs.Z<=100)(_:bs[k]?=j3 q4)(_:∀j,j<k->bs[j]?=j3 q9)(_:Q (.int (k:Int)) H)
def akn:Bw X "list.index" (anw X.K):=by
 intro g s E H x M v J Q I N V h;let#[l,L,k,2,2,w,F,m,D,q]:=h;cases N;let#[u,2,en]:=V.one;cases en;let#[C,r,p,_]:=I.list w;let e:=Y7 r;subst e;let#[#[o,B,d,K],aW,c,n,f]:=id p.isList;simp only at c f;subst c f;let#[A,t]:=fU.mp m;refine yR aiZ #[_,aW,2] PySem.F.entry_list_index (PySem.F.args_list_index_2 _ _)
  (aAa l _ n B K (.bool q4) aaY k (by simpa using A) qI ?_ ?_) #[aW,λy i=>?_,#[.int (k:Int),H,I.tok _,#[1],q]]
 .simp only[ahT,rM];show-t
 .intro j G a;simp only[ahT,rM];let#[_,z]:=fU.mp (D j a);show-z
 let#[b,1]:=bQ.mp (by simpa using i:y∈L.map FJ);let e:(b==q4)=aaY (.bool b):=by cases b<;>rfl
 rw[<-e];show-az9 b q4
end
end b4
namespace dP
open PySem aq b4 cm
def A9:List Str:=["net","house","road","letter","bag","way","goals","cut","text","row","day"]
structure Be(K:aL)(d4:Addr)(cs:bS)(C:Addr)(k:Nat):Prop where
 gB:nK K C
 sub:l' K C d4=q4
 re:kI K (.ref C) (.ref d4)=j3 q4
 Xa:kI K (.ref C) (.type "ValueError")=j3 q4
 lt:k<11
 at_:∀(j:Nat)(R:Addr),cs[j]?=j3 R->kI K (.ref C) (.ref R)=j3 (decide (j=k))
def sI(k:Nat)(a:bB):List aq.V:=(a.map λj=>decide (j=k)).map V.bo
def abg:aq.V->aq.V
 |.bo b=>.int (if b=q4 then 1 else 0)
 |v=>v
def KU(k:Nat):List Int:=[0,1,2,3,4,5,6,7,8,9,10].map λj:Nat=>if j=k then 1 else 0
def anx(k:Nat)(h:k<11):(sI k [0,1,2,3,4,5,6,7,8,9,10]).map abg=(KU k).map V.int/\(KU k).sum=1/\∀x∈KU k,(0:Int)<=x:=by
 show#[4,4,4]
 .unfold sI KU;rw[ek,ek,ek];show-rP λj _=>?_;show V.int (if decide (j=k)=q4 then 1 else 0)=V.int (if j=k then 1 else 0);by_cases z:j=k
  .rw[a' z,a' (cw z)]
  rw[a4 z,a4 (by rw[c9 z];decide)]
 .revert k;decide
 intro x a;let#[j,1]:=bQ.mp a;show 0<=if j=k then(1:Int)else 0
 split<;>decide
def apC(k:Nat)(h:k<11):([0,1,2,3,4,5,6,7,8,9,10].map λj=>decide (j=k))[k]?=j3 q4/\∀i,i<k->([0,1,2,3,4,5,6,7,8,9,10].map λj=>decide (j=k))[i]?=j3 q9:=by revert k;decide
section
variable{P:cq}{w:bW}{K:aL}{mg:b5}{base:Heap}
abbrev Nh:Stmt:=top 126
def BY:cJ ["_law_error","_law_kinds","_law_words"] Fl (b_ Nh):=({})
inductive aaZ(K:aL)(d4:Addr)(cs:bS)(vs:aV)(H:ag)(Q:aX)(E:bM):Prop where
 |mk(aG C:Addr)(k:Nat)(_:vs=[.ref aG])(_:H aG=j3 (x6 aG C))(_:Be K d4 cs C k)(_:∀H' y,A9[k]?=j3 y->aD H H'->Q (.str y) H')
seal fN bq f3 gm
def aqt{f:Addr}(F:cp K "_law_kind" "_law_kind" Nh f fd)(B:fc mg)(lZ:mg "RoadError"=j3 (.ref d4))(Ij:mg "NoNet"=j3 (.ref nn))(Dl:mg "NoHouse"=j3 (.ref Hz))(DC:mg "NoRoad"=j3 (.ref hh))(vd:mg "NoLetter"=j3 (.ref nl))(pg:mg "BadBag"=j3 (.ref jX))(oz:mg "NoWay"=j3 (.ref G))(Hp:mg "ManyGoals"=j3 (.ref M))(HV:mg "CutOff"=j3 (.ref co))(DL:mg "NoText"=j3 (.ref fl))(Il:mg "NoRow"=j3 (.ref no))(Io:mg "NoDay"=j3 (.ref aA)):-aH a9 1 f fd Fl (aaZ K d4 [nn,Hz,hh,nl,jX,G,M,co,fl,no,aA]):=by
 show-F.ok BY (λcdv A T s H vs Q E ao h=>?_);show#[_,(a7 (er (mB.pt (AJ (j2 (kp (dp qd B.isinstance jj (aj (ae 0) (aj (ny lZ) aw))))) (Ac (j2 (kp (dp qd B.isinstance jj (aj (ae 0) (aj (q_ xo B.ValueError afx) aw)))))))) (a_ (cc cz)) eB)
  (a7 (cE 1 BY.aA (eY (aj (dp qd B.isinstance jj (aj (ae 0) (aj (ny Ij) aw))) (aj (dp qd B.isinstance jj (aj (ae 0) (aj (ny Dl) aw))) (aj (dp qd B.isinstance jj (aj (ae 0) (aj (ny DC) aw))) aw)))))
  (a7 (cE 1 BY.aA (br jI (ae 1) (eY (aj (dp qd B.isinstance jj (aj (ae 0) (aj (ny vd) aw))) (aj (dp qd B.isinstance jj (aj (ae 0) (aj (ny pg) aw))) (aj (dp qd B.isinstance jj (aj (ae 0) (aj (ny oz) aw))) aw))))))
  (a7 (cE 1 BY.aA (br jI (ae 1) (eY (aj (dp qd B.isinstance jj (aj (ae 0) (aj (ny Hp) aw))) (aj (dp qd B.isinstance jj (aj (ae 0) (aj (ny HV) aw))) (aj (dp qd B.isinstance jj (aj (ae 0) (aj (ny DL) aw))) aw))))))
  (a7 (cE 1 BY.aA (br jI (ae 1) (eY (aj (dp qd B.isinstance jj (aj (ae 0) (aj (ny Il) aw))) (aj (dp qd B.isinstance jj (aj (ae 0) (aj (ny Io) aw))) aw)))))
  (a7 (cE 2 BY.aA (eY (aj cz (aj cz (aj cz (aj cz (aj cz (aj cz (aj cz (aj cz (aj cz (aj cz (aj cz aw)))))))))))))
  (a7 (er (fQ AF (dp (akT rfl) B.sum aoC (aj (mc (N':=["_law_one"]) (cs:=[jp]) rfl (h7 (ae 1)) rfl xL rfl xL (ia (λp l=>bt l (dU))) rfl
   (.own .nil)
   (λC x U bY da=>#[(dV 0 (by show(["_law_one"]:bE).Nodup;decide+kernel)),jm,(hS YA B.int Ew (aj (ae 0) aw))])) aw)) a8 (eK _)) (a_ (cc cz)) eB)
  (a_ (cc (cn fG (ae 2) (i3 o' aiZ PySem.F.type_list_index akn (ae 1) (aj i2 aw)))))))))))),4]
 ac_rfl
 show-cut λg d=>?_;let#[c,C,k,2,t,D,q]:=h;show#[1,c,C,_,t,D.gB,.inl _ rfl D.re,1,iN #[1,c,C,_,t,D.gB,.inr _ rfl D.Xa,1,iN ?_]];let n:=λ{H'}(s:aD H H')=>s _ _ t;show-eL g d λg d=>?_;show#[1,c,C,_,t,D.gB,.inl _ rfl (D.at_ 0 _ rfl),1,c,C,_,t,D.gB,.inl _ rfl (D.at_ 1 _ rfl),1,c,C,_,t,D.gB,.inl _ rfl (D.at_ 2 _ rfl),gs λeg H1 o(Y:H1 eg=j3 (.lst (sI k [0,1,2])))=>?_];show-eL g d λg d=>?_;show#[5,c,C,_,n o,D.gB,.inl _ rfl (D.at_ 3 _ rfl),1,c,C,_,n o,D.gB,.inl _ rfl (D.at_ 4 _ rfl),1,c,C,_,n o,D.gB,.inl _ rfl (D.at_ 5 _ rfl),gs λp H' a(l:H' p=j3 (.lst (sI k [3,4,5])))=>oU (a _ _ Y) l λeC z m(Z:z eC=j3 (.lst (sI k [0,1,2,3,4,5])))=>?_];let u:=o.trans (a.trans m);clear Y l a m H';show-eL g d λg d=>?_;show#[5,c,C,_,n u,D.gB,.inl _ rfl (D.at_ 6 _ rfl),1,c,C,_,n u,D.gB,.inl _ rfl (D.at_ 7 _ rfl),1,c,C,_,n u,D.gB,.inl _ rfl (D.at_ 8 _ rfl),gs λp H' a(l:H' p=j3 (.lst (sI k [6,7,8])))=>oU (a _ _ Z) l λi5 U m(X:U i5=j3 (.lst (sI k [0,1,2,3,4,5,6,7,8])))=>?_];let x:=u.trans (a.trans m);clear Z l a m H';show-eL g d λg d=>?_;show#[5,c,C,_,n x,D.gB,.inl _ rfl (D.at_ 9 _ rfl),1,c,C,_,n x,D.gB,.inl _ rfl (D.at_ 10 _ rfl),gs λp H' a(l:H' p=j3 (.lst (sI k [9,10])))=>oU (a _ _ X) l λe dx m(b8:dx e=j3 (.lst (sI k [0,1,2,3,4,5,6,7,8,9,10])))=>?_];let b3:=x.trans (a.trans m);clear X l a m H';show-eL g d λg d=>?_;show-gs λlw bH a(hw:bH lw=j3 (.lst (A9.map V.str)))=>?_;let c5:=b3.trans a;let L:=a _ _ b8;clear b8 a;show-eL g d λg d=>?_;let r:=D.lt;dsimp only[jQ,x3,Qt,Ie,pP,kT];refine zV (J:=kE K e) (H1:=bH) (xs:=sI k [0,1,2,3,4,5,6,7,8,9,10]) (rest:=[]) (λR h=>#[1,e,2,#[_,aI.of L],h]) rfl (pB (aI.of L)) (el (by show 11<=1000;decide)) abg (λi v z R O aF c4=>?_) (λI je Dx hz N=>?_)
 .unfold sI at O;rw[cR]at O;let#[b,1]:=e6.mp O;show#[1,.inr #[b,2,c4 z (aD.refl _)]]
 let#[fy,es,hc]:=anx k r;rw[fy]at hz;show#[I,1,aI.of hz,hc,(by rw[es];decide),4];rw[es];show#[7,eM x8 ?_];subst d;obtain⟨y,dt⟩:∃y,A9[k]?=j3 y:=#[_,cQ (show k<A9.Z from r)]
 let#[b1,dg]:=apC k r;show#[5,.inl #[2,_,aI.of (N _ _ L)],e,_,k,2,2,aI.of (N _ _ L),(by show 11<=100;decide),b1,dg,lw,_,3,aI.of (N _ _ hw),jG (j:=k) (by rw[cR,dt];rfl),q je y dt (c5.trans N)]
unseal fN bq f3 gm
def MJ(b:fx):fx:=λc H Q E=>b c H Q λa _ H'=>E a jp H'
theorem aH.MJ{k:Nat}{f:Addr}(F:-aH (iJ P w) k f fd i sp):-aH (fE P w) k f fd i (MJ sp):=
 #[λc H Q E h=>F.len c H Q _ h,λA a s H args L c Q E m p l n t=>by
  show-r9 (F.run A a s H args L c Q _ m p l n t) λr V q=>?_;cases r with
  |ok v=>cases v<;>show-q
  |error e=>
   let#[g,b,d,H',B,N,2,T,_,q]:=q;show#[g,b,d,H',B,2,T,q]]
abbrev H4:Stmt:=top 127
def BQ:cJ ["_law_desk","_law_row","_law_error","_law_found","e"] yl (b_ H4):=({})
inductive aa0(K:aL)(CK d4:Addr)(cs:bS)(sp:fx)(vs:aV)(H:ag)(Q:aX)(E:bM):Prop where
 |mk(x al fR dl d2:Addr)(row:Str)(_:vs=[.ref x,.str row])(_:H x=j3 (.ins CK al (ta fR dl d2)))(_:∀(kJ:aX)(hO:bM),(∀y H',(∀l uK,H' l=jp->aD H' uK->uK l=j3 (.lst [.bo q4,.str y])->Q (.ref l) uK)->kJ (.str y) H')->(∀C k y o H',Be K d4 cs C k->A9[k]?=j3 y->(∀l uK,H' l=jp->aD H' uK->uK l=j3 (.lst [.str y])->Q (.ref l) uK)->hO (.ref C) o H')->sp [.ref x,.str row] H kJ hO)
def aqu{f:Addr}(F:cp K "_law_said" "_law_said" H4 f fd)(B:fc mg)(U:fw K j)(T:mg "RoadError"=j3 (.ref e))(g:l' K e e=q4)(L:dn K j "say" "Desk.say" KS Fj f1 I)(c:-aH (fE P w) 9 f1 I Fj (MJ sp))(N:bU K mg "_law_kind" Nh Fl f2 M)(b:-aH a9 1 f2 M Fl (aaZ K e cs)):-aH a9 10 f fd yl (aa0 K j e cs sp):=by
 show-F.ok BQ (λJ A m s H vs Q E p h=>?_);show#[_,(a7 (cE 2 BQ.aA iZ)
  (a7 (cE 3 BQ.aA cz)
  (a7 (anP (i:=4) rfl rfl (akK (am6 (i:=3) BQ.aA rfl (BD rfl) (amv (ae 0) U L.eO c p.mono L.bd (aj (ae 1) aw)))) BQ.aA rfl rfl rfl T g (λn=>(a_ (cE 2 BQ.aA (ae 4)))))
  (a7 (er (fQ vy (ae 2) iZ (eK _)) (a_ (cc (eY (aj (dp sG B.isinstance jj (aj (ae 3) (aj (q_ xo B.str mO) aw))) (aj (ae 3) aw))))) eB)
  (a_ (cc (eY (aj (c2 b N p.mono b9 (aj (ae 2) aw)) aw)))))))),4]
 ac_rfl
 let#[x,u,fR,dl,Z,X,2,G,h]:=h;show#[1,x,u,1,G,7,h _ _ (λy V q=>?_) (λC k y o V D O q=>?_)]
 .show#[1,7,d1 (cw rfl) ?_];show#[1,6,6,1,#[2,.str _,A0 K (show vW "str" "str"=j3 q4 by left)],1,sz_,λl a=>q l _ a (bT a) aQ]
 show#[C,2,D.sub,λn r=>#[1,4]];show#[1,7,eM (c9 (by intro z;cases z)) #[1,n,C,k,2,aQ,D,λY R d t=>#[sz_,λl a=>?_]]];obtain rfl:R=y:=gk (d.symm.trans O);show-q l _ (gH ((bT r).trans t) a) ((bT r).trans (t.trans (bT a))) aQ
end
structure rE(K:aL)(R:lV)(cb cy:Addr)(kw:bB)(dX:List fO)(f:Addr):Prop where
 abL:jo K cb (S kw) (dX.map R.f)
 ns:iK K cy (S kw)=j3 (j3 (.ref f))
def xy:List Nat:=[104,111,117,115,101]
def A':List Nat:=[114,111,97,100]
def BR:List Nat:=[108,101,116,116,101,114]
def tm:List Nat:=[119,97,121]
def EN:List Nat:=[115,104,111,114,116,101,115,116]
def uG:List Nat:=[102,97,114]
def oE:List Nat:=[114,111,117,116,101]
def KV:List Nat:=[114,117,110]
def Kf:List Nat:=[104,111,109,101]
structure j'(K:aL)(R:lV)(cb cy:Addr)(D:rG):Prop where
 aW:rE K R cb cy xy [.t] D.aW
 z0:rE K R cb cy A' [.t,.t,.n,.n] D.z0
 le:rE K R cb cy BR [.t,.t,.n] D.le
 Ar:rE K R cb cy tm [.t,.t,.r] D.Ar
 rk:rE K R cb cy EN [] D.rk
 iy:rE K R cb cy uG [.t,.t] D.iy
 rt:rE K R cb cy oE [.t,.t] D.rt
 en:rE K R cb cy KV [] D.en
 hm:rE K R cb cy Kf [] D.hm
 km:rE K R cb cy EH [.t] D.km
structure Bf(K:aL)(d4:Addr)(cs:bS)(cS dy:Addr):Prop where
 w:Be K d4 cs cS 5
 t:Be K d4 cs dy 8
structure rX(p:bB):Prop where
 a:32∉p
 b:p≠[]
 c:p.Z<=20
 d:∀c∈p,c<256
def pN(h:iS n):rX n:=(#[λz=>by have:=h.2.2 _ z;lia,λz=>by rw[z]at h;show-bt h.1 x8,by have:=h.2.1;lia,λc a=>by have:=h.2.2 c a;lia])
def Q6{m:Nat}(h:m<10 ^ 10):rX (ct m):=(#[λz=>by have:=l_ z;lia,E1 m,dQ (ma h) x8,λc a=>by have:=l_ a;lia])
def ZU{c:Nat}{r:bB}(h:c≠99):QG (S (c::r)) (cU "check ")=q9:=by
 rw[xO];intro z;unfold QG az6 at z;let#[_,z]:=(hN _ _).mp z;let z:=eq_of_beq z;let e:=fe (λa:Array Nat=>a[0]?) z;let b:(cU "check ").cps[0]?=j3 99:=by left
 let d:(cU "check ").Z=6:=by left
 dsimp only at e;rw[b,d]at e;let f:((S (c::r)).cps.extract 0 (0+6))[0]?=j3 c:=by rw[Array.getElem?_extract];simp[S]
 rw[f]at e;show-h (gk e)
def aqv{c:Nat}{k:bB}{r:bb}(b:c≠99)(d:rX (c::k))(l:r.Z<=5)(h:∀p∈r,rX p):BV ((c::k)::r):=by
 show#[nofun,by rw[ej];lia,λp a=>?_,4]
 .let w:rX p:=by
   rcases et.mp a with rfl|a
   .exact d
   show-h p a
  show#[w.a,w.b,w.c,w.d]
 cases r with
 |nil=>show-ZU b
 |cons q r=>show-ZU b
theorem EZ(h:rX p):cO H (.str (S p)) (.str (S p)):=.str _ (by rw[ew];have:=h.c;lia) (by
 simp only[kj,S];rw[Yc];intro x a;have:=h.d x (by simpa using a);show-cw qI)
def tk(x:Addr)(H H':ag):Prop:=∀b o,b≠x->H b=j3 o->H' b=j3 o
def KW(s:aD H H1)(k:tk x H1 h):tk x H h:=(λb o n e=>k b o n (s _ _ e))
section
variable{P:cq}{w:bW}{K:aL}{mg:b5}{base:Heap}
variable{CK CW CN cS dy d4 cb cy x:Addr}{cs:bS}{R:lV}{F:rG}{s:h4}{A:g0}{H:ag}{Q:aX}{E:bM}
abbrev lb(K:aL)(CK CW CN cS dy d4 cb cy:Addr)(cs:bS)(R:lV)(F:rG):fx:=aa0 K CK d4 cs (aat K R cb cy (pZ CK CW CN cS dy F))
def X'(K:aL)(d4:Addr)(cs:bS)(x:Addr)(d:aV)(c:fx)(H:ag)(Q:aX):Prop:=∀(b:aX)(hO:bM),(∀y H',i8 H' Q (gV y)->b (.str y) H')->(∀C k y o H',Be K d4 cs C k->A9[k]?=j3 y->i8 H' Q [.str y]->hO (.ref C) o H')->∀l a,H l=jp->aD H a->a l=j3 (.lst d)->c [.ref x,.ref l] a b hO
def vv{c f:Nat}{k:bB}{a:List fO}{r:bb}(D:ff CK CW CN H x A s)(d:rE K R cb cy (c::k) a f)(V:pZ CK CW CN cS dy F f sp)(n:c≠99)(g:rX (c::k))(m:∀p∈r,rX p)(l:r.Z<=5)(b:tE a (r.map S) us)(q:X' K d4 cs x us sp H Q):
  lb K CK CW CN cS dy d4 cb cy cs R F [.ref x,.str (S (cK [32] ((c::k)::r)))] H Q E:=by show#[x,A.al,A.n,A.l,A.y,1,D.ins,λe hO t L=>?_];let N:=b.len.1;rw[aM]at N;show#[x,_,S (c::k),r.map S,a,us,f,sp,2,.pl ((c::k)::r) (aqv n g l m),d.abL,b,9,d.ns,V,q e hO t L]
def Ĝ{l:bB}(a:j' K R cb cy F)(D:ff CK CW CN H x A s)(h:l.Z<=50000)(q:X' K d4 cs x [.str (S l)] (Q4 CK CW CN dy) H Q):
  lb K CK CW CN cS dy d4 cb cy cs R F [.ref x,.str (S (lu++l))] H Q E:=by show#[x,A.al,A.n,A.l,A.y,1,D.ins,λd hO b c=>?_];show#[x,_,S EH,[S l],[.t],_,F.km,1,.km l h,a.km.abL,.cons rfl .nil,8,a.km.ns,.km,q d hO b c]
theorem ahv(d:j' K R cb cy F)(D:ff CK CW CN H x A s)(O:g4 s)(t:iS n)(G:Good (s.hs++[n]))(q:∀a(b:g0),tk x H a->ff CK CW CN a x b #[s.hs++[n],s.ds,s.bh,pK s.tb]->i8 a Q (gV "ok")):
  lb K CK CW CN cS dy d4 cb cy cs R F [.ref x,.str (S (cK [32] [xy,n]))] H Q E:=
 vv D d.aW .aW x8 #[8,8,8,8] (λp g=>by rw[e4.mp g];show-pN t) (v_ rfl) (.cons rfl .nil) λV hO r N l L e c f=>
  #[x,l,A,s,n,2,D.same c,f,O,G,λa b _ k m=>r _ _ (q a b (KW c k) m)]
def ajZ{t m:Nat}{d:cm.fV}(N:j' K R cb cy F)(D:ff CK CW CN H x A s)(O:g4 s)(j:iS a)(o:iS b)(n:t<10 ^ 10)(hm:m<10 ^ 10)(ok:d.Ok s.hs.Z)(L:s.ds.Z<40)(e:[.str (S a),.str (S b),.int (t:Int),.int (m:Int)]=kA s.hs d)(q:∀c(f:g0),tk x H c->ff CK CW CN c x f #[s.hs,s.ds++[d],s.bh,pK s.tb]->i8 c Q (gV (S (ct s.ds.Z)))):
  lb K CK CW CN cS dy d4 cb cy cs R F [.ref x,.str (S (cK [32] [A',a,b,ct t,ct m]))] H Q E:=by
 show-vv D N.z0 .z0 x8 #[8,8,8,8] (λp g=>?_) (v_ rfl) (.cons rfl (.cons rfl (.cons #[t,n,2,2] (.cons #[m,hm,2,2] .nil)))) λz hO i y l u B r V=>?_
 .simp only[et,dU,or_false]at g;rcases g with rfl|rfl|rfl|rfl
  .exact pN j
  .exact pN o
  .exact Q6 n
  show-Q6 hm
 show#[x,l,A,s,d,2,D.same r,by rw[<-e];show-V,O,ok,L,λc f _ k h=>i _ _ (q c f (KW r k) h)]
def agU{t:Nat}(N:j' K R cb cy F)(D:ff CK CW CN H x A s)(O:g4 s)(n:iS a)(r:iS b)(m:t<10 ^ 10)(d:yi (bR s.hs) ((s.bh++[(S a,(t:Int),S b)]).map pH))(q:∀c(f:g0),tk x H c->ff CK CW CN c x f #[s.hs,s.ds,s.bh++[(S a,(t:Int),S b)],s.tb]->i8 c Q (gV (S (ct s.bh.Z)))):
  lb K CK CW CN cS dy d4 cb cy cs R F [.ref x,.str (S (cK [32] [BR,a,b,ct t]))] H Q E:=by
 show-vv D N.le .le x8 #[8,8,8,8] (λp g=>?_) (v_ rfl) (.cons rfl (.cons rfl (.cons #[t,m,2,2] .nil))) λo hO h j l i u L V=>?_
 .simp only[et,dU,or_false]at g;rcases g with rfl|rfl|rfl
  .exact pN n
  .exact pN r
  show-Q6 m
 show#[x,l,A,s,S a,S b,t,2,D.same L,V,O,EZ (pN n),EZ (pN r),d,λc f _ k e=>h _ _ (q c f (KW L k) e)]
theorem ain(f:j' K R cb cy F)(D:ff CK CW CN H x A s)(O:g4 s)(q:∀a(c:g0)b,tk x H a->ni s.hs s.ds (dG b)->kW s.hs s.ds b->ff CK CW CN a x c #[s.hs,s.ds,s.bh,b]->i8 a Q (gV "ok")):
  lb K CK CW CN cS dy d4 cb cy cs R F [.ref x,.str (S (cK [32] [EN]))] H Q E:=
 vv D f.rk .rk x8 #[8,8,8,8] (λp g=>nomatch g) (eu _) .nil λN hO n L l r V d t=>
  #[x,.ref l,A,s,2,D.same d,O,λa c b _ k ST T m=>n _ _ (q a c b (KW d k) ST T m)]
theorem aeC(d:iS a)(f:iS b):∀p∈[a,b],rX p:=λp c=>by
 simp only[et,dU,or_false]at c;rcases c with rfl|rfl
 .exact pN d
 show-pN f
def aj0{a b:bB}(n:j' K R cb cy F)(D:ff CK CW CN H x A s)(O:g4 s)(f:iS a)(g:iS b)(j:S a∈s.hs.map S)(h:S b∈s.hs.map S)(i:S a≠S b)(q:∀c,μ x A.t H c->ff CK CW CN c x A #[s.hs,s.ds,s.bh,oX s.tb (S a) (S b)]->i8 c Q (gV "ok")):
  lb K CK CW CN cS dy d4 cb cy cs R F [.ref x,.str (S (cK [32] [tm,a,b,[45]]))] H Q E:=by
 show-vv (us:=[.str (S a),.str (S b),.cf]) D n.Ar .Ar x8 #[8,8,8,8] (λp d=>?_) (v_ rfl) (.cons rfl (.cons rfl (.cons (.inl #[by left,2]) .nil))) λz hO L y l u B m r=>?_
 .simp only[et,dU,or_false]at d;rcases d with rfl|rfl|rfl
  .exact pN f
  .exact pN g
  show#[8,8,8,8]
 show#[x,l,A,s,S a,S b,2,D.same m,r,O,EZ (pN f),EZ (pN g),zY j h i,λc k t=>L _ _ (q c (λb o V N e=>k b o V N (m _ _ e)) t)]
theorem al1{a b:bB}(d:j' K R cb cy F)(D:ff CK CW CN H x A s)(O:g4 s)(r:iS a)(t:iS b)(N:S a∈s.hs.map S)(k:S b∈s.hs.map S){o:Option Nat}(n:BL (dZ.dist (ix s.hs s.ds) (S a) (S b))=mm o)(p:∀m,o=j3 m->m<10 ^ 10)(q:i8 H Q (gV (S (iE o)))):
  lb K CK CW CN cS dy d4 cb cy cs R F [.ref x,.str (S (cK [32] [uG,a,b]))] H Q E:=
 vv D d.iy .iy x8 #[8,8,8,8] (aeC r t) (v_ rfl) (.cons rfl (.cons rfl .nil)) λi hO g h l V j c f=>
  #[x,l,A,s,S a,S b,o,2,D.same c,f,O,N,k,n,p,λe L=>g _ _ (q.after (c.trans L))]
theorem aio{a b:bB}(f:j' K R cb cy F)(L:Bf K d4 cs cS dy)(D:ff CK CW CN H x A s)(O:g4 s)(r:iS a)(t:iS b)(N:S a∈s.hs.map S)(p:S b∈s.hs.map S)(q:i8 H Q (A7 (ic (dG s.tb) s.hs s.ds (S b) 13 (S a) [S a] []))):
  lb K CK CW CN cS dy d4 cb cy cs R F [.ref x,.str (S (cK [32] [oE,a,b]))] H Q E:=
 vv D f.rt .rt x8 #[8,8,8,8] (aeC r t) (v_ rfl) (.cons rfl (.cons rfl .nil)) λj hO m n l V o c k=>
  #[x,l,A,s,S a,S b,2,D.same c,k,O,N,p,λh e g d=>m _ _ (by rw[e]at q;show-q.after (c.trans d)),λu y e i g d=>n _ _ _ _ _ L.w rfl (by rw[e]at q;show-q.after (c.trans d))]
theorem al2(b:j' K R cb cy F)(D:ff CK CW CN H x A s)(O:g4 s)(q:i8 H Q (gV (yq s))):lb K CK CW CN cS dy d4 cb cy cs R F [.ref x,.str (S (cK [32] [KV]))] H Q E:=
 vv D b.en .en x8 #[8,8,8,8] (λp c=>nomatch c) (eu _) .nil λr hO d n l g t a m=>#[x,.ref l,A,s,2,D.same a,O,λk f=>d _ _ (q.after (a.trans f))]
theorem aj1(b:j' K R cb cy F)(D:ff CK CW CN H x A s)(O:g4 s)(q:i8 H Q (gV (tc s))):lb K CK CW CN cS dy d4 cb cy cs R F [.ref x,.str (S (cK [32] [Kf]))] H Q E:=
 vv D b.hm .hm x8 #[8,8,8,8] (λp c=>nomatch c) (eu _) .nil λr hO d n l g t a m=>#[x,.ref l,A,s,2,D.same a,O,λk f=>d _ _ (q.after (a.trans f))]
def NY{a:List df}(ok:∀b∈a,mZ b)(f:a.Z<=98):(ie a).Z<=50000:=by
 have:=Js [59,32] 500 (a.map hZ) λp d=>by let#[b,c,2]:=bQ.mp d;show-Z6 (ok b c).ok
 rw[aM]at this;let h:a.Z*(500+[59,32].Z)<=98*502:=Fp f (b7 _);unfold ie
 lia
def P9{m n:Nat}(hm:m<10 ^ 10)(c:n<10 ^ 10)(e:ct m=ct n):m=n:=by let a:=Ob hm;let b:=Ob c;rw[e,b]at a;exact(agA (gk a)).symm
theorem ø:∀{a b:bB},(∀m∈a,m<10 ^ 10)->(∀n∈b,n<10 ^ 10)->a.map ct=b.map ct->a=b
 |[],[],_,_,_=>rfl
 |m::a,n::b,ai,ak,e=>by rw[e7,e7]at e;let#[f,d]:=Bh e;rw[P9 (ai m (.head _)) (ak n (.head _)) f,ø (λx c=>ai x (.tail _ c)) (λx c=>ak x (.tail _ c)) d]
 |[],_::_,_,_,e=>by cases e
 |_::_,[],_,_,e=>by cases e
def aj2{b a:df}(ok:kc b)(c:kc a)(e:qn b=qn a):b=a:=by unfold qn at e;let#[k,g]:=Bh e;let#[n,L]:=Bh g;let#[t,r,N]:=b;let#[V,p,d]:=a;let l:t=V:=P9 ok.t c.t k;let m:r=p:=P9 ok.r c.r (ahC n);let f:N=d:=ø ok.n c.n L;rw[l,m,f]
def anz{b a:df}(ok:kc b)(c:kc a)(e:hZ b=hZ a):b=a:=by show-aj2 ok c ?_;let h:=Y6 ok.ne;show-zP h c.ne e
def ú{a:List df}(h:a≠[]):ie a≠[]:=by
 let e:∀b:df,hZ b≠[]:=λb z=>by unfold hZ at z;simp at z
 unfold ie;rcases a with _|⟨b,_|⟨c,r⟩⟩
 .exact bt rfl h
 .exact e b
 intro z;show-e b (ο.mp (ο.mp z).1).1
theorem ZV:∀{a cs:List df},(∀b∈a,kc b)->(∀b∈cs,kc b)->a.map hZ=cs.map hZ->a=cs
 |[],[],_,_,_=>rfl
 |b::a,c::cs,ai,ak,e=>by rw[e7,e7]at e;let#[g,f]:=Bh e;rw[anz (ai b (.head _)) (ak c (.head _)) g,ZV (λx d=>ai x (.tail _ d)) (λx d=>ak x (.tail _ d)) f]
 |[],_::_,_,_,e=>by cases e
 |_::_,[],_,_,e=>by cases e
def al3{a cs:List df}(c:∀b∈a,kc b)(d:∀b∈cs,kc b)(e:ie a=ie cs):a=cs:=by
 by_cases n:a=[]
 .subst n;by_cases m:cs=[]
  .exact m.J
  show-bt e.symm (ú m)
 let m:cs≠[]:=λm=>by subst m;show-ú n e
 show-ZV c d (OV (Yn n λb f=>(c b f).ne) m d e)
def yr:List bB:=[[120],[32],[48,32,48,58,32],[49,32,49,58,49],[48,49,32,48,58,32,48],[48,32,48,58,32,48,59]]
theorem anA{l:bB}(f:l∈yr)(d:List df)(ok:∀b∈d,kc b):l≠ie d:=λe=>by
 let n:d≠[]:=λz=>by subst z;subst e;revert f;decide
 let a:∃a:List bB,n9 (S l) (S [59,32])=[l].map S/\n9 (S l) (S [32])=a.map S/\(a.Z<3\/[]∈a.drop 2\/a[0]?=j3 [48,49]\/[48,59]∈a.drop 2):=by
  clear e;unfold yr at f;simp only[et,dU,or_false]at f;rcases f with rfl|rfl|rfl|rfl|rfl|rfl
  .show#[[[120]],by left,by left,8]
  .show#[[[],[]],by left,by left,8]
  .show#[[[48],[48,58],[]],by left,by left,8]
  .show#[[[49],[49,58,49]],by left,by left,8]
  .show#[[[48,49],[48,58],[48]],by left,by left,8]
  show#[[[48],[48,58],[48,59]],by left,by left,8]
 let#[a,V,i,k]:=a;let p:=OV V n ok e;obtain⟨b,N⟩:∃b,d=[b]:=by
  rcases d with _|⟨b,_|⟨c,r⟩⟩
  .exact bt rfl n
  .show#[b,2]
  cases p
 subst N;let g:=ok b (.head _);let L:=zP i g.ne (Bh p).1;subst L;unfold qn at k;let t:∀x,x∈(ct b.1::(ct b.2.1++[58])::b.2.2.map ct).drop 2->∃m,x=ct m:=λx j=>by let#[m,1]:=bQ.mp (show x∈b.2.2.map ct from j);show#[m,2]
 rcases k with h|h|h|h
 .rw[ej,ej,aM]at h;have:=p3.mpr g.ne
  lia
 .let#[m,e]:=t _ h;show-E1 m e.J
 .let e:ct b.1=[48,49]:=gk h;let r:=Q3 g.t;rw[e]at r;show-bt r x8
 let#[m,e]:=t _ h;have:=l_ (m:=m) (c:=59) (by rw[<-e];decide)
 lia
theorem aip(g:j' K R cb cy F)(D:ff CK CW CN H x A s)(O:g4 s){a:List df}(ok:∀b∈a,mZ b)(d:a.Z<=98)(q:i8 H Q (gV (oW s.hs s.ds s.bh (a.map jE)))):
  lb K CK CW CN cS dy d4 cb cy cs R F [.ref x,.str (S (lu++ie a))] H Q E:=
 Ĝ g D (NY ok d) λV hO m N l t e f k=>#[x,l,A,s,ie a,2,D.same f,k,O,NY ok d,λcs p n=>by
  obtain rfl:=al3 (λb c=>(ok b c).rd) p n;show#[d,ok,λL r=>m _ _ (q.after (f.trans r))],λno=>bt rfl (no a λb c=>(ok b c).rd)]
theorem aj3(g:j' K R cb cy F)(n:Bf K d4 cs cS dy)(D:ff CK CW CN H x A s)(O:g4 s){l:bB}(d:l.Z<=50000)(no:∀c,(∀b∈c,kc b)->l≠ie c)(q:i8 H Q [.str "text"]):
  lb K CK CW CN cS dy d4 cb cy cs R F [.ref x,.str (S (lu++l))] H Q E:=
 Ĝ g D d λN hO L m a r V f k=>#[x,a,A,s,l,2,D.same f,k,O,d,λc ok e=>bt e (no c ok),λ_ t p=>m _ _ _ _ _ n.t rfl (q.after (f.trans p))]
def i6(a:bb)(d:cm.Lt):Str×Int×Str:=(S (a.getD d.a []),d.t,S (a.getD d.b []))
def tn(n:bB):List Nat:=cK [32] [xy,n]
def tp(a:bb)(d:cm.fV):List Nat:=cK [32] [A',a.getD d.a [],a.getD d.b [],ct d.t.X,ct d.m.X]
def uH(a:bb)(d:cm.Lt):List Nat:=cK [32] [BR,a.getD d.a [],a.getD d.b [],ct d.t.X]
def allR(a:bb)(ds:b0)(b:List cm.Lt):List bB:=a.map tn++ds.map (tp a)++b.map (uH a)++[cK [32] [EN]]
def nL(n:Nat):List Str:=(dY n).map λk=>S (ct k)
def ri:Str:="ok"
def uE(b:bb)(ds:b0)(a:List cm.Lt):List Str:=h5 b.length ri++nL ds.Z++nL a.Z++[ri]
def stK(a:bb)(ds:b0)(b:List cm.Lt)(j:Nat)(c:List Row):h4:=#[a.take j,ds.take (j-a.Z),(b.take (j-a.Z-ds.Z)).map (i6 a),c]
structure yt(hs:bb)(ds:b0)(es:List cm.Lt)(bs:Int):Prop where
 g:Good hs
 kr:hs.Z<=7
 rd:∀d∈ds,d.Ok hs.Z
 yS:ds.Z<=10
 lt:∀d∈es,d.Ok hs.length bs
 sd:es.Z<=10
 jD:0<=bs
 b1:bs+30<=1000000000
def OF{b:bb}{a:Nat}(h:a<b.Z):S (b.getD a [])∈b.map S:=(bQ.mpr #[_,by rw[dB,cQ h];show-nZ h,2])
def aau{c:bb}(d:c.Nodup){a b:Nat}(f:a<c.Z)(g:b<c.Z)(k:a≠b):S (c.getD a [])≠S (c.getD b []):=(λz=>by rw[dB,cQ f,dB,cQ g]at z;show-k ((E7 d).mp (AZ z)))
def P'{a:bb}{b:List cm.Lt}{c:Int}(T:yt a ds b c){d:cm.Lt}(f:d∈b):(i6 a d).1∈a.map S/\(i6 a d).2.2∈a.map S/\(i6 a d).1≠(i6 a d).2.2/\0<=(i6 a d).2.1/\(i6 a d).2.1<=1000000000:=by let o:=T.lt d f;let k:=T.jD;let b1:=T.b1;let lo:=o.lo;let g:=o.hi;show#[OF o.a,OF o.b,aau T.g.aA o.a o.b o.ne,by show 0<=d.t;lia,by show d.t<=1000000000;lia]
end
def yt.av8{a:bb}{ds:b0}{b:List cm.Lt}{k:Int}(T:yt a ds b k)(j:Nat){tb:List Row}(t:kW (a.take j) (ds.take (j-a.Z)) tb):g4 (stK a ds b j tb):=by
 let f:=T.kr;let n:=T.yS;let m:=T.sd;show#[#[λx g=>T.g.nm x (uO g),(Fa _ _).nodup T.g.aA,dQ (Bj _ _) (dQ f x8)],dQ (Bj _ _) (dQ n x8),t,dQ (Bj _ _) f,by show((b.take _).map _).Z<=10;rw[aM];show-dQ (Bj _ _) m,λd l=>?_];let#[e,c,2]:=bQ.mp l;let z:a.Z<=j:=aix λz=>by rw[show j-a.Z-ds.Z=0 by lia]at c;exact nomatch c
 show _∈(a.take j).map S/\_∈(a.take j).map S/\_;rw[o6 z];show-P' T (uO c)
def ayh:kW hs ds []:=(#[p4,8,λ_ h=>nomatch h])
def anB{n:List cm.Lt}{k:Int}(T:yt hs ds n k){f:List cm.Lt}(sub:∀d∈f,d∈n)(l:f.Z<=40):yi (bR hs) ((f.map (i6 hs)).map pH):=by
 show#[Mz.mp λd L=>?_,by rwa[aM,aM],4]
 .let#[y,m,2]:=bQ.mp L;let#[e,g,2]:=bQ.mp m;let#[r,t,p,A,K]:=P' T (sub e g);show(kN (bR hs) (.str (i6 hs e).1) (.str (i6 hs e).2.2)&&(decide (0<=(i6 hs e).2.1)&&decide ((i6 hs e).2.1<=1000000000)))=q4;rw[zY r t p,cw A,cw K];rfl
 let h:∀x∈((f.map (i6 hs)).map pH).map qz,k<=x/\x<=k+30:=λx w=>by let#[y,m,2]:=bQ.mp w;let#[z,c,2]:=bQ.mp m;let#[e,g,2]:=bQ.mp c;show#[(T.lt e (sub e g)).lo,(T.lt e (sub e g)).hi]
 generalize((f.map (i6 hs)).map pH).map qz=N at h;unfold EL;by_cases c:N=[]
 .rw[a' c];decide
 rw[a4 c];let a:=h _ (aom c).1;let b:=h _ (Jv c).1
 lia
section
variable{P:cq}{w:bW}{K:aL}{mg:b5}{base:Heap}
variable{CK CW CN cS dy d4 cb cy x:Addr}{cs:bS}{R:lV}{F:rG}{A:g0}{H:ag}{Q:aX}{E:bM}
variable{hs:bb}{ds:b0}{es:List cm.Lt}{bs:Int}
def aj4(L:j' K R cb cy F)(T:yt hs ds es bs){j:Nat}(a:(allR hs ds es)[j]?=j3 row)(cG:(uE hs ds es)[j]?=j3 due)(D:ff CK CW CN H x A (stK hs ds es j []))(q:∀b(f:g0)tb,tk x H b->ff CK CW CN b x f (stK hs ds es (j+1) tb)->(j<hs.Z+ds.Z+es.Z->tb=[])->(j=hs.Z+ds.Z+es.Z->ni hs ds (dG tb)/\kW hs ds tb)->i8 b Q (gV due)):
  lb K CK CW CN cS dy d4 cb cy cs R F [.ref x,.str (S row)] H Q E:=by
 let kr:=T.kr;let yS:=T.yS;let sd:=T.sd;let O:=T.av8 j (tb:=[]) ayh;let Y:(hs.map tn).Z=hs.Z:=aM _;let U:(ds.map (tp hs)).Z=ds.Z:=aM _;let i5:(es.map (uH hs)).Z=es.Z:=aM _;let C:(h5 hs.length ri).Z=hs.Z:=P0;let Z:(nL ds.Z).Z=ds.Z:=by unfold nL;rw[aM,jg]
 let w2:(nL es.Z).Z=es.Z:=by unfold nL;rw[aM,jg]
 let numAt:∀{n i:Nat}{y:Str},(nL n)[i]?=j3 y->y=S (ct i):=λ{n i y}e=>by unfold nL at e;rw[cR]at e;let#[k,m,2]:=e6.mp e;let#[hi,e]:=fU.mp m;rw[Bi]at e;rw[e]
 unfold allR at a;unfold uE at cG;rw[jB,jB,E6,Y]at a;rw[jB,jB,E6,C]at cG;by_cases l:j<hs.Z
 .rw[a' l,cR]at a;rw[a' l,ahS,a' l]at cG;let#[n,G,2]:=e6.mp a;cases cG;let e:(stK hs ds es j []).hs++[n]=hs.take (j+1):=(take_snoc G).symm;let I:j-hs.Z=j+1-hs.Z:=by rw[JR (n2 l),JR l]
  show-ahv L D O (T.g.nm n (dm G)) (by rw[e];show#[λx M=>T.g.nm x (uO M),(Fa _ _).nodup T.g.aA,dQ (Bj _ _) (dQ kr x8)]) λb f k c=>q b f [] k ?_ (λ_=>rfl) λz=>by lia
  rw[e]at c;unfold stK at c⊢;rwa[<-I]
 rw[a4 l]at a cG;obtain⟨i,t⟩:∃i,i=j-hs.Z:=#[1]
 rw[<-t,E6,U]at a;rw[<-t,E6,Z]at cG;let N:∀k,hs.Z<=k->hs.take k=hs:=λk J=>o6 J;let r:=JQ.mp l;let s:j+1-hs.Z=i+1:=by rw[t];exact aiJ r
 by_cases g:i<ds.Z
 .rw[a' g,cR]at a;rw[a' g]at cG;let#[d,e,2]:=e6.mp a;obtain rfl:=numAt cG;let ok:=T.rd d (dm e);let t1:=ok.t;let C:=ok.m;unfold stK at D O;rw[N j r,<-t,JR (n2 g)]at D O;let lt:(ds.take i).Z=i:=ahX (n2 g);show-ajZ L D O (T.g.at ok.a) (T.g.at ok.b) qI qI ok (by show(ds.take i).Z<40;lia) (by unfold kA;rw[la qI,la qI]) λb f k c=>?_;rw[show(#[hs,ds.take i,v9 (i6 hs) (es.take 0),[]]:h4).ds.Z=i from lt];show-q b f [] k ?_ (λ_=>rfl) λz=>by lia
  unfold stK;rwa[N (j+1) (Qc r),s,JR g,take_snoc e]
 rw[a4 g]at a cG;let V:=JQ.mp g;obtain⟨k,m⟩:∃k,k=i-ds.Z:=#[1]
 rw[<-m,E6,i5]at a;rw[<-m,E6,w2]at cG;unfold stK at D O;rw[N j r,<-t,<-m,o6 V]at D O;let u:∀tb,stK hs ds es (j+1) tb=#[hs,ds,(es.take (k+1)).map (i6 hs),tb]:=λtb=>by unfold stK;rw[N (j+1) (Qc r),s,o6 (Qc V),m,show i+1-ds.Z=i-ds.Z+1 from aiJ V]
 by_cases p:k<es.Z
 .rw[a' p,cR]at a;rw[a' p]at cG;let#[d,e,2]:=e6.mp a;obtain rfl:=numAt cG;let hm:=dm e;let ok:=T.lt d hm;let jD:=T.jD;let b1:=T.b1;let lo:=ok.lo;let hi:=ok.hi;let lt:((es.take k).map (i6 hs)).Z=k:=by rw[aM];show-ahX (n2 p)
  let B:(es.take k).map (i6 hs)++[(S (hs.getD d.a []),((d.t.X:Nat):Int),S (hs.getD d.b []))]=(es.take (k+1)).map (i6 hs):=by rw[take_snoc e,eb,la qI];rfl
  show-agU L D O (T.g.at ok.a) (T.g.at ok.b) qI (by show yi (bR hs) (((es.take k).map (i6 hs)++_).map pH);rw[B];show-anB T (λd hd=>uO hd) (dQ (Bj _ _) (dQ sd x8))) λb f o c=>?_;rw[show(#[hs,ds,(es.take k).map (i6 hs),[]]:h4).bh.Z=k from lt];refine q b f [] o ?_ (λ_=>rfl) λz=>by lia
  rwa[u,<-B]
 rw[a4 p]at a cG;let k0:k-es.Z=0:=by let#[h,_]:=fU.mp a;rw[ψ]at h;show-Nat.lt_one_iff.mp h
 rw[k0]at a cG;cases a;cases cG;refine ain L D O λb f tb o ST X c=>q b f tb o ?_ (λz=>by lia) λ_=>#[ST,X]
 rwa[u,show(es.take (k+1)).map (i6 hs)=(es.take k).map (i6 hs) by rw[o6 (Qc (JQ.mp p)),o6 (JQ.mp p)]]
def al4:(allR hs ds es).Z=hs.Z+ds.Z+es.Z+1:=by unfold allR;rw[c0,c0,c0,aM,aM,aM];rfl
def al5:(uE hs ds es).Z=hs.Z+ds.Z+es.Z+1:=by unfold uE nL;rw[c0,c0,c0,P0,aM,aM,jg,jg];rfl
end
def IA{p:bB}(h:∀c∈p,c<256):kj (S p)=q4:=by simp only[kj,S];rw[Yc];intro x a;have:=h x (by simpa using a);show-cw qI
inductive xP:List aq.V->Prop
 |one{y:Str}(_:kj y=q4):xP [.str y]
 |two{y:Str}(_:kj y=q4):xP [.bo q4,.str y]
def xP.data{K:aL}(h:xP due):∃ds:List PyData,Fv (.list ds)=q4/\Fw (.list ds)<=1/\∀(H:ag)(l:Addr),H l=j3 (.lst due)->m2 K H (.ref l) (.list ds):=by
 cases h with
 |@one y h=>show#[[.str y],by simp only[Fv,uR,h,Yj],by simp[Fw,tC],λH l e=>.lst (aI.of e) (.cons (.str _) .nil)]
 |@two y h=>show#[[.bool q4,.str y],by simp only[Fv,uR,h,Yj],by simp[Fw,tC],λH l e=>.lst (aI.of e) (.cons (.bo _) (.cons (.str _) .nil))]
def Yq{d:PyData}(h:Fv d=q4)(k:d.depth<=64):uZ d=q4:=by unfold uZ;rw[h,cw k];rfl
def Q7(n:Nat):kj (S (ct n))=q4:=(IA λc a=>by have:=l_ a;lia)
def P_{K:aL}(h:xP due){H:ag}{Q:aX}(e:H l=j3 (.lst due))(a:H i=j3 (.lst due))(q:Q (.bo q9) H):Rc K q4 (.ref l) (.ref i) H Q:=by let#[ds,c,d,k]:=h.data (K:=K);show#[6,k H l e,k H i a,Yq c qI,Yq c qI,4];rwa[Zv _ c]
def ku(a:bb):List aq.V:=(a.map S).map V.str
def ut{n:Nat}(h:n<=1000):n<=sizeLine:=(n2 (el h))
def û{K:aL}{b:aq.St}{H:ag}{Q:aX}{i:Nat}{xs:aV}(f:b[i]?=j3 (j3 (.ref l)))(d:H l=j3 (.lst xs))(t:xs.Z<=100)(q:∀D H',H D=jp->H' D=j3 (.lst ((nL xs.Z).map V.str))->aD H H'->Q (.ref D) H'):
  kD (aad (kT (pP (aaD K) (kT (Ks i) vT)) vT)) [jp] (hW 0) pR (pP (λxs H Q=>∃i,xs=[V.int i]/\i.natAbs.log2<1920/\Q (V.str (cU (toString i))) H) (kT (Ks 0) vT)) b H Q:=by
 refine vu (J:=xX 0 xs.Z) (H1:=H) (xs:=(dY xs.Z).map λi:Nat=>V.int ((0:Int)+(i:Int))) (rest:=[]) (λR h=>#[_,f,l,1,.inl (aI.of d),1,(by show -(2 ^ 62)<=(xs.Z:Int);lia),(by show(xs.Z:Int)<2 ^ 62;lia),h]) rfl (Zu 0 _) (el (by rw[aM,jg];lia)) (λi=>.str (S (ct i))) (λi v a R c r k=>?_) (λD a m bR p=>?_)
 .rw[cR]at c;let#[j,g,2]:=e6.mp c;let#[n,e]:=fU.mp g;rw[jg]at n;rw[Bi]at e;subst e;show#[1,(i:Int),by rw[vY],sH qI,4];rw[nz];show-k a (aD.refl _)
 show-q D a m ?_ p;rw[bR,aM,jg];unfold nL;rw[ek];rfl
section
variable{P:cq}{w:bW}{K:aL}{mg:b5}{base:Heap}
abbrev Nk:Stmt:=top 129
abbrev KX:List Str:=["_law_desk","_law_names","_law_lines","_law_letters"]
abbrev ar4:List Str:=["_law_desk","_law_names","_law_lines","_law_letters","_law_rows","_law_one","_law_other","_law_turns_here","_law_room","_law_letter_here","_law_due","_law_row","_law_answer"]
def rF:cJ ar4 KX (b_ Nk):=({})
inductive aav(CK CW CN:Addr)(vs:aV)(H:ag)(Q:aX)(E:bM):Prop where
 |mk(x dk dI eR:Addr)(A:g0)(rs dA:bS)(hs:bb)(ds:b0)(es:List cm.Lt)(bs:Int)(_:vs=[.ref x,.ref dk,.ref dI,.ref eR])(_:ff CK CW CN H x A ⟨[],[],[],[]⟩)(_:yt hs ds es bs)(_:H dk=j3 (.lst (c1 hs)))(_:H dI=j3 (.lst (aT rs)))(_:eG H rs (ds.map (kA hs)))(_:H eR=j3 (.lst (aT dA)))(_:eG H dA (es.map (ltV hs)))(_:∀H'(ez:g0)tb,tk x H H'->ni hs ds (dG tb)->kW hs ds tb->ff CK CW CN H' x ez ⟨hs,ds,es.map (i6 hs),tb⟩->Q (.bo q4) H')
inductive ar5(x dk dI eR p:Addr)(hs:bb)(ds:b0)(H:ag)(j:Nat)(aa:aq.St)(cY:ag):Prop where
 |mk(v1 v2 hk v4:ji)(_:aa=[j3 (.ref x),j3 (.ref dk),j3 (.ref dI),j3 (.ref eR),j3 (.ref p),v1,v2,hk,v4,jp,jp,jp,jp])(_:aD H cY)(_:cY p=j3 (.lst (ku (hs.map tn++(ds.take j).map (tp hs)))))
inductive ar6(x dk dI eR p:Addr)(hs:bb)(ds:b0)(es:List cm.Lt)(H:ag)(j:Nat)(aa:aq.St)(cY:ag):Prop where
 |mk(v1 v2 hk v4 qC:ji)(_:aa=[j3 (.ref x),j3 (.ref dk),j3 (.ref dI),j3 (.ref eR),j3 (.ref p),v1,v2,hk,v4,qC,jp,jp,jp])(_:aD H cY)(_:cY p=j3 (.lst (ku (hs.map tn++ds.map (tp hs)++(es.take j).map (uH hs)))))
inductive ar7(CK CW CN x dk dI eR p u7:Addr)(v1 v2 hk v4 qC:ji)(hs:bb)(ds:b0)(es:List cm.Lt)(H:ag)(j:Nat)(aa:aq.St)(cY:ag):Prop where
 |mk(A:g0)(tb:List Row)(v6 nN:ji)(_:aa=[j3 (.ref x),j3 (.ref dk),j3 (.ref dI),j3 (.ref eR),j3 (.ref p),v1,v2,hk,v4,qC,j3 (.ref u7),v6,nN])(_:tk x H cY)(_:ff CK CW CN cY x A (stK hs ds es j tb))(_:j<=hs.Z+ds.Z+es.Z->tb=[])(_:j=hs.Z+ds.Z+es.Z+1->ni hs ds (dG tb)/\kW hs ds tb)
def apD{a:List cm.Lt}{j:Nat}(e:(uE hs ds a)[j]?=j3 y):kj y=q4:=by
 let h:=dm e;unfold uE nL at h;simp only[gU,e4,bQ]at h;let ok:kj ri=q4:=by left
 rcases h with((h|⟨_,_,rfl⟩)|⟨_,_,rfl⟩)|rfl
 .rw[(ahY.mp h).2];show-ok
 .exact Q7 _
 .exact Q7 _
 show-ok
seal fN bq f3 gm
def aqw{f:Addr}{R:lV}{vR:rG}(F:cp K "_law_told" "_law_told" Nk f fd)(B:fc mg)(SC:j' K R cb cy vR)(tL:bU K mg "_law_said" H4 yl f1 cW)(M4:-aH a9 10 f1 cW yl (lb K CK CW CN cS dy d4 cb cy cs R vR)):
  -aH a9 11 f fd KX (aav CK CW CN):=by
 show-F.ok rF (λ_ h2 _ s0 H vs Q E ao h=>?_);show#[_,(a7 (w3 (i:=4) rF.aA rfl rfl rfl (N':=["_law_name"]) (cs:=[jp]) rfl (h7 (ae 1)) rfl xL rfl xL (ia (λp Y=>bt Y (dU))) rfl
   (.own .nil)
   (λC s3 a5 bY da=>#[(dV 0 (by show(["_law_name"]:bE).Nodup;decide+kernel)),jm,(br gA cz (ae 0))]))
  (a7 (kq kH rfl (h7 (ae 2)) (Ad rfl (iX (dV 5 rF.aA) (iX (dV 6 rF.aA) (iX (dV 7 rF.aA) (iX (dV 8 rF.aA) sM)))))
   (a_ (gL (i3 o' p7 p8 oo (ae 4) (aj (br gA (br gA (br gA (br gA (br gA (br gA (br gA cz (ae 5)) cz) (ae 6)) cz) (hS oh B.str mO (aj (ae 7) aw))) cz) (hS oh B.str mO (aj (ae 8) aw))) aw)))))
  (a7 (kq kH rfl (h7 (ae 3)) (dV 9 rF.aA)
   (a_ (gL (i3 o' p7 p8 oo (ae 4) (aj (br gA (br gA (br gA (br gA (br gA cz (cn ey (ae 9) a8)) cz) (cn ey (ae 9) a8)) cz) (hS oh B.str mO (aj (cn ey (ae 9) a8) aw))) aw)))))
  (a7 (cE 10 rF.aA (br jI (br anJ (eY (aj cz aw)) (dp hI B.len g_ (aj (ae 1) aw))) (mc (N':=["_law_k"]) (cs:=[jp]) rfl (DD rfl B.range (aj (dp hI B.len g_ (aj (ae 2) aw)) aw)) rfl xL rfl xL (ia (λp Y=>bt Y (dU))) rfl
   (.own .nil)
   (λC s3 a5 bY da=>#[(dV 0 (by show(["_law_k"]:bE).Nodup;decide+kernel)),jm,(hS oh B.str mO (aj (ae 0) aw))]))))
  (a7 (cE 10 rF.aA (br jI (br jI (ae 10) (mc (N':=["_law_k"]) (cs:=[jp]) rfl (DD rfl B.range (aj (dp hI B.len g_ (aj (ae 3) aw)) aw)) rfl xL rfl xL (ia (λp Y=>bt Y (dU))) rfl
   (.own .nil)
   (λC s3 a5 bY da=>#[(dV 0 (by show(["_law_k"]:bE).Nodup;decide+kernel)),jm,(hS oh B.str mO (aj (ae 0) aw))]))) (eY (aj cz aw))))
  (a7 (kq kH rfl (ţ (t:=q9) rfl B.zip (aj (br jI (ae 4) (eY (aj cz aw))) (aj (ae 10) aw))) (Ad rfl (iX (dV 11 rF.aA) (iX (dV 12 rF.aA) sM)))
   (a_ (er (fQ (Jf ao.units) (c2 M4 tL ao.mono b9 (aj (ae 0) (aj (ae 11) aw))) (eY (aj i2 (aj (ae 12) aw))) (eK _)) (a_ (cc i2)) eB)))
  (a_ (cc (l7 nB (br h9 (dp hI B.len g_ (aj (ae 4) aw)) a8) (dp hI B.len g_ (aj (ae 10) aw)) (eK _)))))))))),4]
 ac_rfl
 show-cut λI L=>?_;let#[x,dk,dI,eR,A,rs,dA,hs,ds,es,bs,2,D,T,ai,ak,dT,a6,t3,q]:=h;let kr:=T.kr;let yS:=T.yS;let sd:=T.sd;let eH:rs.Z=ds.Z:=by have:=dT.len;rwa[aM]at this
 let hf:dA.Z=es.Z:=by have:=t3.len;rwa[aM]at this
 let lN:cU " "=S [32]:=by left
 let axN:cU "house "=S (xy++[32]):=by left
 let dv:(c1 hs).Z=hs.Z:=xe hs;show-Ee ?_;refine zV (J:=kE K dk) (H1:=H) (xs:=c1 hs) (rest:=[]) (λR h=>#[1,dk,2,#[_,aI.of ai],h]) rfl (pB (aI.of ai)) (el qI) (λv=>match v with|.str y=>.str (S (xy++[32])++y)|_=>.cf) (λi v ah R O aF k=>?_) (λp ah np Y s2=>?_)
 .let#[n,hn,2]:=bQ.mp (dm O);rw[axN];show#[1,3,ut (by rw[ew,ew];have:=(T.g.nm n hn).2.1;show 6+n.Z<=1000;lia),k ah (aD.refl _)]
 let ly:((c1 hs).map λv=>match v with|.str y=>V.str (S (xy++[32])++y)|_=>.cf)=ku (hs.map tn):=by unfold c1 ku;rw[ek,ek,ek];show-rP λn _=>?_;show V.str (S (xy++[32])++S n)=V.str (S (tn n));rw[kU];rfl
 rw[ly]at Y;show-eL I L λI L=>?_;show#[1,dI,2,#[_,aI.of (s2 _ _ ak)],4];let nm:∀{i:Nat},i<hs.Z->(hs.getD i []).Z<=8:=λh=>(T.g.at h).2.1;let axP:cU "road "=S (A'++[32]):=by left
 let axO:cU "letter "=S (BR++[32]):=by left
 let eg:(hs.map tn).Z=hs.Z:=aM _;let app:∀{H':ag}{y:bB}{ls:bb},H' p=j3 (.lst (ku ls))->aD H H'->aD H (upd H' p (.lst (ku ls++[.str (S y)])))/\upd H' p (.lst (ku ls++[.str (S y)])) p=j3 (.lst (ku (ls++[y]))):=λ{H' y ls}e s=>#[λb o e=>by rw[aR (dj e np)];show-s _ _ e,by rw[aQ];unfold ku;rw[eb,eb];rfl]
 show-q6 (K:=K) (a:=dI) (xs:=aT rs) (ar5 x dk dI eR p hs ds H) #[jp,jp,jp,jp,2,s2,by rwa[JL,Bl,lS]] (λj X N _⟨_,_,_,_,_,h,_⟩=>aI.of (h _ _ ak)) ?_ ?_
 .rintro j v X N O ⟨v1,v2,hk,v4,rfl,G,g⟩;unfold aT at O;rw[cR]at O;let#[r,dH,2]:=e6.mp O;let#[d',cG,Z]:=bV.get dT dH;rw[cR]at cG;let#[d,pf,2]:=e6.mp cG;let cG:=pf;let ok:=T.rd d (dm cG);let tt:=ok.t;let aws:=ok.m;let na:=nm ok.a;let nb:=nm ok.b;obtain⟨t,ow⟩:∃t:Nat,d.t=(t:Int):=#[d.t.X,9]
  obtain⟨m,em⟩:∃m:Nat,d.m=(m:Int):=#[d.m.X,9]
  let lt:=ma (m:=t) qI;let lm:=ma (m:=m) qI;let zw:=(fU.mp cG).1;let y1:A'++[32]++hs.getD d.a []++[32]++hs.getD d.b []++[32]++ct t++[32]++ct m=tp hs d:=by unfold tp;rw[ow,em,jf,jf];simp only[cK,jB]
  unfold kA at Z;rw[ow,em]at Z;show#[r,1,cj.of (G _ _ Z),2,_,1,_,1,_,1,3,4];show#[1,.inl #[2,_,aI.of g],4];show#[1,rr axP rfl (b7 5) na λc=>rr rfl lN c (b7 1) λc=>#[1,rr rfl rfl c nb λc=>rr rfl lN c (b7 1) λc=>#[1,(t:Int),2,sH qI,rr rfl (nz t) c lt λc=>rr rfl lN c (b7 1) λc=>#[1,(m:Int),2,sH qI,rr rfl (nz m) c lm λ_=>?_]]]];rw[y1];let#[a1,a2]:=app (y:=tp hs d) g G;show#[p,3,g,el (by unfold ku;rw[aM,aM,c0,aM,aM,jh];lia),6,_,1,a1,4];rw[a2,take_snoc cG,eb,jB];rfl
 rintro X N ⟨v1,v2,hk,v4,rfl,G,g⟩;rw[eW,eH,n1]at g;show-eL I L λI L=>?_;show#[1,eR,2,#[_,aI.of (G _ _ a6)],4];show-q6 (K:=K) (a:=eR) (xs:=aT dA) (ar6 x dk dI eR p hs ds es H) #[v1,v2,hk,v4,jp,2,G,by rwa[JL,Bl,lS]] (λj X N _⟨_,_,_,_,_,_,h,_⟩=>aI.of (h _ _ a6)) ?_ ?_
 .clear v1 v2 hk v4 L G g;rintro j v X N O ⟨v1,v2,hk,v4,qC,rfl,G,g⟩;unfold aT at O;rw[cR]at O;let#[r,dH,2]:=e6.mp O;let#[d',cG,Z]:=bV.get t3 dH;rw[cR]at cG;let#[d,pf,2]:=e6.mp cG;let cG:=pf;let ok:=T.lt d (dm cG);let jD:=T.jD;let b1:=T.b1;let lo:=ok.lo;let hi:=ok.hi;let na:=nm ok.a;let nb:=nm ok.b;obtain⟨t,ow⟩:∃t:Nat,d.t=(t:Int):=#[d.t.X,9]
  let lt:=ma (m:=t) qI;let zw:=(fU.mp cG).1;let y1:BR++[32]++hs.getD d.a []++[32]++hs.getD d.b []++[32]++ct t=uH hs d:=by unfold uH;rw[ow,jf];simp only[cK,jB]
  unfold ltV at Z;rw[ow]at Z;let bf:=cj.of (K:=K) (G _ _ Z);show#[1,.inl #[2,_,aI.of g],4];show#[1,r,_,3,bf,2,rr axO rfl (b7 7) na λc=>rr rfl lN c (b7 1) λc=>#[1,r,_,3,bf,2,rr rfl rfl c nb λc=>rr rfl lN c (b7 1) λc=>#[1,r,_,3,bf,2,(t:Int),2,sH qI,rr rfl (nz t) c lt λ_=>?_]]];rw[y1];let#[a1,a2]:=app (y:=uH hs d) g G;show#[p,3,g,el (by unfold ku;rw[aM,aM,c0,c0,aM,aM,aM,jh];lia),6,6,1,a1,4];rw[a2,take_snoc cG,eb,jB];rfl
 clear v1 v2 hk v4 G g;rintro X N ⟨v1,v2,hk,v4,qC,rfl,G,g⟩;rw[eW,hf,n1]at g;show-eL I L λI L=>?_;show-gs λo a5 aK aW=>?_;let aeo:=G.trans aK;let g:=aK _ _ g;show#[1,dk,1,.inl (aI.of (aeo _ _ ai)),o,3,aW,(by show -(2 ^ 63)<=((c1 hs).Z:Int);lia),(by show((c1 hs).Z:Int)<2 ^ 63;lia),ut (by rw[dv];show 1*(hs.Z:Int).toNat<=1000;lia),λr hh=>?_];let mI:(h5 ((c1 hs).Z:Int).toNat [V.str "ok"]).flatten=(h5 hs.length ri).map V.str:=by
  rw[dv,jf,List.map_replicate];generalize hs.Z=n
  induction n with
  |zero=>rfl
  |succ n a3=>rw[ye,JG,a3,ye];rfl
 rw[mI];let s5:=aeo.trans (bT (o:=.lst ((h5 hs.length ri).map V.str)) hh);let LW:upd a5 r (.lst ((h5 hs.length ri).map V.str)) r=j3 (.lst ((h5 hs.length ri).map V.str)):=aQ;let g:=bT (o:=.lst ((h5 hs.length ri).map V.str)) hh _ _ g;generalize upd a5 r (.lst ((h5 hs.length ri).map V.str))=dx at s5 LW g⊢;refine û (l:=dI) rfl (s5 _ _ ak) (by rw[eW];lia) λgc bH aD5 wO c5=>?_;rw[eW,eH]at wO;let axH:=s5.trans c5;let g:=c5 _ _ g;let fi:((h5 hs.length ri).map V.str).Z=hs.Z:=by rw[aM,P0]
 let hK:∀n,((nL n).map V.str).Z=n:=λn=>by unfold nL;rw[aM,aM,jg]
 show-oU (c5 _ _ LW) wO (hn:=ut (by rw[fi,hK];lia)) λfu je aJ wQ=>?_;let aee:=axH.trans aJ;let g:=aJ _ _ g;show-eL I L λI L=>?_;show#[1,4];refine û (l:=eR) rfl (aee _ _ a6) (by rw[eW];lia) λSe jz aD6 acv i_=>?_;rw[eW,hf]at acv;let axI:=aee.trans i_;let g:=i_ _ _ g;show-oU (i_ _ _ wQ) acv (hn:=ut (by rw[c0,fi,hK,hK];lia)) λK6 A_ aZ au2=>gs λoK h3 bC tV=>oU (bC _ _ au2) tV (hn:=ut (by rw[c0,c0,fi,hK,hK];show _+1<=1000;lia)) λu7 e3 bP acw=>?_;let z:=aZ.trans (bC.trans bP);let aef:=axI.trans z;let g:=z _ _ g;rw[show(h5 hs.length ri).map V.str++(nL ds.Z).map V.str++(nL es.Z).map V.str++[V.str "ok"]=(uE hs ds es).map V.str by unfold uE;rw[eb,eb,eb];rfl]at acw;show-eL I L λI L=>?_;let C9:=al4 (hs:=hs) (ds:=ds) (es:=es);let adn:=al5 (hs:=hs) (ds:=ds) (es:=es);let lv:(ku (hs.map tn++ds.map (tp hs)++es.map (uH hs))).Z=hs.Z+ds.Z+es.Z:=by unfold ku;rw[aM,aM,c0,c0,aM,aM,aM]
 let atB:ku (hs.map tn++ds.map (tp hs)++es.map (uH hs))++[V.str "shortest"]=ku (allR hs ds es):=by
  let e:cU "shortest"=S (cK [32] [EN]):=by left
  rw[e];unfold ku allR;rw[eb,eb (l₁:=hs.map tn++ds.map (tp hs)++es.map (uH hs))];simp only[eb];rfl
 show#[1,gs λaEd A_ aK avx=>oU (aK _ _ g) avx (hn:=ut (by rw[lv];show _+1<=1000;lia)) λr rI aJ LX=>?_];rw[atB]at LX;let Xg:=aK.trans aJ;let zg:=Xg _ _ acw;let aeg:=aef.trans Xg;let xR:=D.same aeg;show#[1,r,u7,2,#[_,aI.of LX],#[_,aI.of zg],4];let ay4:r≠x:=aq.gP LX xR.ins (by intro z;cases z);let AA:u7≠x:=aq.gP zg xR.ins (by intro z;cases z);show-alH (K:=K) (a:=r) (b:=u7) (xs:=ku (allR hs ds es)) (ys:=(uE hs ds es).map V.str) (by unfold ku;rw[aM,aM,aM,C9,adn]) (ar7 CK CW CN x dk dI eR p u7 v1 v2 hk v4 qC hs ds es rI) #[A,[],jp,jp,2,λb o _ e=>e,4,λ_=>rfl,λz=>nomatch z] (λj X N⟨_,_,_,_,_,k,_,_,_⟩=>#[aI.of (k _ _ ay4 LX),aI.of (k _ _ AA zg)]) ?_ ?_
 .unfold stK;rwa[aiK,aiK]
 .rintro j u y X N pt l3 dt ⟨ez,tb,v6,nN,rfl,Hd,A1,avP,_⟩ aw4;unfold ku at l3;rw[ek,cR]at l3;let#[U,abE,2]:=e6.mp l3;rw[cR]at dt;let#[M,abA,2]:=e6.mp dt;let zw:=(fU.mp abE).1;obtain rfl:=avP qI;let aes:=bT (o:=.tup [.str (S U),.str M]) aw4;show#[pt,1,cj.of aQ,2,_,1,3,4];let YX:=A1.same aes;let fK:tk x rI (upd N pt (.tup [.str (S U),.str M])):=λb o n e=>aes _ _ (Hd b o n e);show x3 _ _ _ _ _ (upd N pt (.tup [.str (S U),.str M]));generalize upd N pt (.tup [.str (S U),.str M])=ags at YX fK⊢;show#[5,aj4 SC T abE abA YX λah OG jw k2 ke t0 t1 l a5 nl s3 au=>?_];show#[1,gs λm rJ z hm=>P_ (.two (apD abA)) (z _ _ au) hm #[1,eM rfl #[OG,jw,_,1,λb o n e=>z _ _ (s3 _ _ (k2 b o n (fK b o n e))),(ke.same s3).same z,λz=>t0 qI,λz=>t1 qI]]]
 rintro X N ⟨ez,tb,v6,nN,rfl,Hd,A1,_,b'⟩;let aE:(ku (allR hs ds es)).Z=hs.Z+ds.Z+es.Z+1:=by unfold ku;rw[aM,aM,C9]
 rw[aE]at A1 b';let#[ST,akC]:=b' rfl;subst L;let ay3:p≠x:=aq.gP g (D.same aef).ins (by intro z;cases z);show#[1,p,1,.inl (aI.of (Hd _ _ ay3 (Xg _ _ g))),3,1,u7,1,.inl (aI.of (Hd _ _ AA zg)),2,xF (cw ?_) (q N ez tb (λb o n e=>Hd b o n (aeg _ _ e)) ST akC ?_)]
 .rw[lv,aM,adn];rfl
 unfold stK at A1;rwa[o6 qI,o6 qI,o6 qI]at A1
unseal fN bq f3 gm
def qH(a b:eo):Prop:=∀h g,c8 a (gu h g)=c8 b (gu h g)
end
def ZW{c:Type}[DecidableEq c](a:List (c×aq.V))(k b:c):c8 (uD a k) b=if b=k then jp else c8 a b:=by
 unfold c8 uD
 induction a with
 |nil=>split<;>rfl
 |cons p r e=>
  rw[tx];by_cases z:p.1=k
  .rw[a4 (by rw[c9 (λy=>y z)];decide),e];by_cases y:b=k
   .rw[a' y,a' y]
   rw[a4 y,a4 y,List.find?_cons_of_neg (by rw[c9 (λw=>y (w.symm.trans z))];decide)]
  rw[a' (cw z),ya,ya];by_cases y:p.1=b
  .rw[cw y,a4 (λw=>z (y.trans w))]
  rw[c9 y,e]
def qH.pop{a b:List Row}(h:qH (dG a) (dG b))(x y:Str):qH (dG (oX a x y)) (dG (oX b x y)):=(λc g=>by rw[<-Oc,<-Oc,ZW,ZW,h c g])
section
variable{k1 k2:eo}{hs:bb}{ds:b0}
def qH.way(e:qH k1 k2)(h g:Str):oM k1 h g=oM k2 h g:=by unfold oM;rw[e h g]
theorem qH.walk(e:qH k1 k2)(g:Str):∀(n:Nat)(h:Str)(b:bE)(a:bB),ic k1 hs ds g n h b a=ic k2 hs ds g n h b a
 |0,_,_,_=>rfl
 |n+1,h,b,a=>by
  unfold ic;rw[e.way];split
  .rfl
  split
  .rfl
  split
  .rfl
  show-e.walk g n _ _ _
theorem qH.lM(e:qH k1 k2)(b:bE):∀(m:Nat)(T:Int)(c:bB)(a:dF),lM hs ds k1 b m T c a=lM hs ds k2 b m T c a
 |0,_,_,_=>rfl
 |m+1,T,c,a=>by
  let d:e_ k1 b a=e_ k2 b a:=funext λn=>by unfold e_;rw[e.way]
  unfold dP.lM gO nC;rw[d,e.lM b m]
def qH.run(e:qH k1 k2)(a:kl):ry hs ds k1 a=ry hs ds k2 a:=by
 let b:ue k1 hs ds=ue k2 hs ds:=funext λd=>by unfold ue;rw[e.walk]
 unfold ry qs;rw[b,e.lM]
end
theorem ü{f:bb}{ds:b0}(R:∀d∈ds,d.Ok f.Z):∀a:List Nat,(∀k∈a,k<ds.Z)->0<=yh ds a/\yh ds a<=9*a.Z
 |[],_=>#[rL _,rL _]
 |k::a,h=>by
  let g:=ü R a λj c=>h j (.tail _ c);let b:=h k (.head _);have:=(R _ (getD_mem' (d:=e1) b)).t;let e:yh ds (k::a)=((ds.getD k e1).t:Int)+yh ds a:=by unfold yh;rw[e7,mx]
  rw[e,ej]
  lia
def anC{a:bb}{ds:b0}{c:eo}(T:ni a ds c)(R:∀d∈ds,d.Ok a.Z)(p:a.Z<=12){h:Str}(f:h∈a.map S):∃o,BL (dZ.dist (ix a ds) h g)=mm o/\∀m,o=j3 m->m<10 ^ 10:=by
 cases e:dZ.dist (ix a ds) h g with
 |none=>show#[jp,2,λ_ z=>nomatch z]
 |some u=>
  let#[n,_,l,k,r]:=Yi T R p 13 h [h] [] u rfl (kG.mpr #[dU,p4]) (λy b=>by rwa[e4.mp b]) f e (λy b=>by rw[e4.mp b];show#[u,e,rL _]);have:=ü R n k;rw[l]at this;show#[j3 u.X,4,λm z=>by cases z;lia];show V.int u=V.int ((u.X:Nat):Int);rw[la this.1]
theorem ayw{n:Nat}(h:1<n)(c:Int):c%n≠(c+1+c/7%((n:Int)-1))%n:=λe=>by
 let k:0<=c/7%((n:Int)-1):=jA _ qI;let g:c/7%((n:Int)-1)<(n:Int)-1:=k_ _ qI;generalize c/7%((n:Int)-1)=x at k g e;let d:0<=c%n:=jA _ qI;let a:c%n<n:=k_ _ qI;rw[agv,Int.add_emod,Bb (show 0<=1+x by lia) (show 1+x<(n:Int) by lia)]at e;generalize c%(n:Int)=i at d a e;by_cases b:i+(1+x)<n
 .rw[Bb qI b]at e
  lia
 let f:(i+(1+x))%(n:Int)=(i+(1+x)-n)%(n:Int):=by rw[ZK]
 rw[f,Bb qI qI]at e
 lia
structure kh(CK CW CN x n y t a2 dg dk eR:Addr)(A:g0)(rs dA:bS)(hs:bb)(ds:b0)(bh:kl)(gv jw:List Row)(H:ag):Prop where
 sa:ff CK CW CN H x A #[hs,ds,bh,gv]
 ft:mP CW CN H y n t a2 dg (c1 hs) (aT rs) (dG jw)
 rd:gG H hs rs ds
 ai:H dk=j3 (.lst (c1 hs))
 a6:H eR=j3 (.lst (aT dA))
 cN:eG H dA (bh.map q')
 NI:kW hs ds gv
 uj:kW hs ds jw
 B4:qH (dG gv) (dG jw)
theorem kh.same{t:Addr}{A:g0}{b c:List Row}(m:kh e i h x n y t a2 o q s A rs j hs ds bh b c H)(a:aD H H'):kh e i h x n y t a2 o q s A rs j hs ds bh b c H':=
 #[m.sa.same a,m.ft.same a,m.rd.same a,a _ _ m.ai,a _ _ m.a6,m.cN.same a,m.NI,m.uj,m.B4]
def rh(H:ag)(t:Addr)(q:Str×List aq.V):Prop:=∃d,H t=j3 (.tup [.str q.1,.ref d])/\H d=j3 (.lst q.2)
def rh.same{t:Addr}{q:Str×List aq.V}(h:rh H t q)(a:aD H H'):rh H' t q:=(let⟨d,b,c⟩:=h;#[d,a _ _ b,a _ _ c])
def DN{b:List (Str×List aq.V)}(h:bV (rh H) e b)(c:aD H H'):bV (rh H') e b:=(bV.kv h λ_ _ a=>a.same c)
def ť(f:bb)(ds:b0)(b:kl)(d:gy):kj (oW f ds b d)=q4:=by
 unfold oW;split
 .rename_i p e h;let g:kj "bad "=q4:=by left
  let k:kj " "=q4:=by left
  show-PL (PL (PL g (Q7 p)) k) (NV h).1
 show-IA λc a=>?_;rcases Ex a with z|⟨p,az,z⟩
 .rw[e4.mp z];decide
 let#[o,1]:=bQ.mp az;cases o with
 |none=>
  rw[e4.mp z];decide
 |some m=>
  have:=l_ z
  lia
theorem anD(d:List df):kj (S (ie d))=q4:=IA λc a=>by
 rcases Ex a with z|⟨p,az,z⟩
 .simp only[et,dU,or_false]at z
  lia
 let#[b,1]:=bQ.mp az;unfold hZ at z;simp only[gU,et,dU,or_false]at z;rcases z with(((z|z)|z)|z|z)|z
 .have:=l_ z
  lia
 .lia
 .have:=l_ z
  lia
 .lia
 .lia
 rcases Ex z with z|⟨p,az,z⟩
 .rw[e4.mp z];decide
 let#[m,1]:=bQ.mp az;have:=l_ z
 lia
def apE(o:Out):xP (A7 o):=by
 cases o with
 |ok e=>
  show-.two (IA λc a=>?_);rcases Ex a with h|⟨p,az,h⟩
  .rw[e4.mp h];decide
  let#[n,1]:=bQ.mp az;have:=l_ h
  lia
 |no=>show-.one xL
section
variable{CK CW CN x n y t a2 dg dk eR:Addr}{A:g0}{rs dA:bS}{hs:bb}{ds:b0}{bh:kl}{gv jw:List Row}{H:ag}{C fD pl:Addr}{as:bS}{Q:aX}{E Y4:bM}
def PP(M:kh CK CW CN x n y t a2 dg dk eR A rs dA hs ds bh gv jw H)(O:g4 #[hs,ds,bh,gv])(d3:H pl=j3 (.lst (aT as)))(df:bV (i7 H) as (oY #[hs,ds,bh,gv]))(q:i8 H Q (gV (tc #[hs,ds,bh,gv]))):A6 C CN fD [.ref n,.ref eR,.ref pl] H (λv H'=>KQ [v] H' Q Y4) E:=by let fO:=O.run M.rd.ok;let#[k,c]:=fO.jc;let h:bh.Z<=10:=O.lf;let i:ds.Z<=40:=O.bX;let N:=M.rd.len;let l:=M.cN.len;rw[aM]at l;let L:=fO.bX;unfold tc oW at q;rw[c]at q;show#[n,a2,dg,eR,pl,rs,dA,bh,hs,ds,aT as,(oY #[hs,ds,bh,gv]).map jE,2,M.ft.g7,M.rd,9,M.a6,M.cN,9,d3,Iz df λb a=>(fO.each b a).1,by rw[aM];lia,Kc λb a=>(fO.each b a).1,O.ld,λw d K m V r f g=>?_,λp e d=>nomatch c.symm.trans d];cases c.symm.trans d;show#[m,1,f,by rw[NU,aM];lia,g,q.after r]
def ý(M:kh CK CW CN x n y t a2 dg dk eR A rs dA hs ds bh gv jw H)(O:g4 #[hs,ds,bh,gv]){bs:List df}(d3:H pl=j3 (.lst (aT as)))(df:bV (i7 H) as bs)(ok:∀b∈bs,mZ b)(a:bs.Z<=98)(q:i8 H Q (gV (oW hs ds bh (bs.map jE)))):RQ CN [.ref n,.ref eR,.ref pl] H Q E:=by let d:bh.Z<=10:=O.lf;let f:ds.Z<=40:=O.bX;let c:=M.rd.len;show#[n,a2,dg,eR,pl,rs,dA,as,bh,hs,ds,bs,2,M.ft.g7,M.rd,9,M.a6,M.cN,9,d3,df,ok,a,O.ld,q]
end
section
variable{K:aL}{CK CW CN cS dy d4 cb cy x:Addr}{cs:bS}{R:lV}{F:rG}{A:g0}{s:h4}{E:bM}
structure uF(K:aL)(CK CW CN cS dy d4 cb cy:Addr)(cs:bS)(R:lV)(F:rG)(x:Addr)(A:g0)(s:h4)(q:Str×List aq.V):Prop where
 say:∀(H:ag)(Q:aX)(E:bM),ff CK CW CN H x A s->i8 H Q q.2->lb K CK CW CN cS dy d4 cb cy cs R F [.ref x,.str q.1] H Q E
 due:xP q.2
theorem al6(a:j' K R cb cy F)(O:g4 s):uF K CK CW CN cS dy d4 cb cy cs R F x A s ("run",gV (yq s)):=#[λH Q E D q=>by
 let e:cU "run"=S (cK [32] [KV]):=by left
 show lb K CK CW CN cS dy d4 cb cy cs R F [.ref x,.str "run"] H Q E;rw[e];show-al2 a D O q,.two (anD _)]
theorem aj5(a:j' K R cb cy F)(O:g4 s):uF K CK CW CN cS dy d4 cb cy cs R F x A s ("home",gV (tc s)):=#[λH Q E D q=>by
 let e:cU "home"=S (cK [32] [Kf]):=by left
 show lb K CK CW CN cS dy d4 cb cy cs R F [.ref x,.str "home"] H Q E;rw[e];show-aj1 a D O q,.two (ť ..)]
theorem apF(o:Option Nat):kj (S (iE o))=q4:=IA λc a=>by
 cases o with
 |none=>rw[e4.mp a];decide
 |some m=>have:=l_ a;lia
def al7{a b:bB}(c:j' K R cb cy F)(O:g4 s)(k:iS a)(l:iS b)(n:S a∈s.hs.map S)(d:S b∈s.hs.map S){o:Option Nat}(f:BL (dZ.dist (ix s.hs s.ds) (S a) (S b))=mm o)(g:∀m,o=j3 m->m<10 ^ 10):uF K CK CW CN cS dy d4 cb cy cs R F x A s (S (cK [32] [uG,a,b]),gV (S (iE o))):=(#[λH Q E D q=>al1 c D O k l n d f g q,.two (apF o)])
def Yg{a b:bB}(c:j' K R cb cy F)(k:Bf K d4 cs cS dy)(O:g4 s)(f:iS a)(g:iS b)(l:S a∈s.hs.map S)(d:S b∈s.hs.map S):uF K CK CW CN cS dy d4 cb cy cs R F x A s (S (cK [32] [oE,a,b]),A7 (ic (dG s.tb) s.hs s.ds (S b) 13 (S a) [S a] [])):=(#[λH Q E D q=>aio c k D O f g l d q,apE _])
def W9(a:j' K R cb cy F)(O:g4 s){bs:List df}(ok:∀b∈bs,mZ b)(c:bs.Z<=98):uF K CK CW CN cS dy d4 cb cy cs R F x A s (S (lu++ie bs),gV (oW s.hs s.ds s.bh (bs.map jE))):=(#[λH Q E D q=>aip a D O ok c q,.two (ť ..)])
theorem aj6(a:j' K R cb cy F)(b:Bf K d4 cs cS dy)(O:g4 s){l:bB}(h:l∈yr):uF K CK CW CN cS dy d4 cb cy cs R F x A s (S (lu++l),[.str "text"]):=#[λH Q E D q=>aj3 a b D O (by
 unfold yr at h;simp only[et,dU,or_false]at h;rcases h with rfl|rfl|rfl|rfl|rfl|rfl<;>decide) (anA h) q,.one xL]
set_option maxHeartbeats 8000000
end
def ar8{K:aL}(h:aI K H a xs)(b:qw H H'):aI K H' a xs:=by
 rcases h with(h|⟨o,h⟩)|h
 .exact .inl (.inl (b _ _ t7 h))
 .exact .inl (.inr #[o,b _ _ #[λ_ _ _ _ _=>nofun,λ_=>nofun] h])
 show-.inr h
section
variable{P:cq}{w:bW}{K:aL}{mg:b5}{base:Heap}
abbrev BS:Stmt:=top 133
abbrev apG:List Str:=["_law_script","_law_desk","_law_names","_law_base","_law_lines","_law_letters","_law_net","_law_table","_law_cell","_law_house","_law_goal","_law_plan","_law_far","_law_asked","_law_ends","_law_k","_law_other","_law_row","_law_due"]
def jN:cJ apG ["_law_script"] (b_ BS):=({})
inductive agO(h3:ag)(l:Addr)(G:Str×List aq.V->Prop)(pre post:aq.St)(j:Nat)(aa:aq.St)(cY:ag):Prop where
 |mk(v1 v2:ji)(ts:bS)(hj:List (Str×List aq.V))(rJ:ag)(_:aa=pre++v1::v2::post)(_:rJ l=jp)(_:aD h3 rJ)(_:aD rJ cY)(_:cY l=j3 (.lst (aT ts)))(_:bV (rh rJ) ts hj)(_:∀q∈hj,G q)(_:ts.Z<=6+j)
inductive agR(H:ag)(pre:aq.St)(_:Nat)(aa:aq.St)(cY:ag):Prop where
 |mk(v1 v2:ji)(_:aa=pre++[v1,v2])(_:aD H cY)
def Ip{a:List df}(h:bV (i7 H) as a)(s:aD H H'):bV (i7 H') as a:=(bV.kv h λ_ _ e=>e.same s)
def RR(a x f:Addr)(b:Int)(d g n y:Addr)(c:Int)(k l:bB)(r:aq.St):aq.St:=j3 (.ref a)::j3 (.ref x)::j3 (.ref f)::j3 (.int b)::j3 (.ref d)::j3 (.ref g)::j3 (.ref n)::j3 (.ref y)::j3 (.int c)::j3 (.str (S k))::j3 (.str (S l))::r
seal fN bq f3 gm
def apH{f:Addr}{R:lV}{vR:rG}(F:cp K "law" "law" BS f fd)(B:fc mg)(SC:j' K R cb cy vR)(p2:Bf K d4 cs cS dy)(IB:mg "Desk"=j3 (.ref CK))(pG:mg "Net"=j3 (.ref CN))(eZ:fw K CN)(hb:fw K CW)(anE:o8 K CK tM)(zv:nW K CK "Desk.__init__" Nd gx tM Gk)(agV:-aH a9 7 tM Gk gx (aa9 CK CW CN))(Ak:o8 K CN j0)(lr:nW K CN "Net.__init__" AH qM j0 sk)(qY:-aH a9 5 j0 sk qM (IM K CN))(tI:bU K mg "_law_cell_at" Nb Bp f0 at0)(G8:-aH a9 1 f0 at0 Bp (aaJ K))(CQ:bU K mg "_law_houses" Of Ff f1 cW)(afV:-aH a9 1 f1 cW Ff YT)(C1:bU K mg "_law_road" KA yj f2 d8)(agW:-aH a9 1 f2 d8 yj ű)(CR:bU K mg "_law_letter" JS yp cV iz)(afX:-aH a9 1 cV iz yp Ō)(C_:bU K mg "_law_told" Nk KX f4 u_)(agX:-aH a9 11 f4 u_ KX (aav CK CW CN))(vk:bU K mg "shortest" H5 ["net"] fz Gi)(WX:-aH a9 4 fz Gi ["net"] (Rk CW CN))(r7:dn K CW "drop_way" "Ways.drop_way" H2 fZ Gd SD)(VI:-aH (fE P w) 3 Gd SD fZ (RI CW CN hQ))(tL:bU K mg "_law_said" H4 yl Ch at1)(M4:-aH a9 10 Ch at1 yl (lb K CK CW CN cS dy d4 cb cy cs R vR))(rg:bU K mg "run" BN uQ f8 at3)(vH:-aH a9 6 f8 at3 uQ (J6 C CW CN))(sD:dn K CN "far" "Net.far" FO fZ Sw at4)(XQ:-aH (fE P w) 3 Sw at4 fZ (QX CN))(r_:bU K mg "_law_turns" H6 ym g1 auo)(Ho:-aH a9 1 g1 auo ym KQ)(sj:bU K mg "show_plan" FQ ["plan"] g2 aup)(Ht:-aH a9 2 g2 aup ["plan"] (Q0 K))(kM:bU K mg "arrivals" yf m4 g3 auq)(w0:-aH (iJ P w) 6 g3 auq m4 (A6 C CN fD))(CP:bU K mg "_law_route" Nj MW q0 aur)(aga:-aH a9 4 q0 aur MW (aaW CW CN))(y_:bU K mg "_law_checked" Ni MV j1 aus)(aeI:-aH a9 7 j1 aus MV (RQ CN))(CI:bU K mg "_law_spoiled" Nu Fg ai wO)(afu:-aH a9 1 ai wO Fg aaX):
  -aH a9 12 f fd ["_law_script"] (JM K):=by
 show-F.ok jN (λcdv A outer s H vs Q E O h=>?_);show#[_,(a7 (cE 1 jN.aA (akx anE agV O.mono xo IB zv.bd .nil b9))
  (a7 (cE 2 jN.aA (c2 afV CQ O.mono b9 (aj (c2 G8 tI O.mono b9 (aj (ae 0) (aj a8 aw))) (aj (br h9 a8 (br ha (c2 G8 tI O.mono b9 (aj (ae 0) (aj a8 aw))) a8)) aw))))
  (a7 (cE 3 jN.aA (br ha (c2 G8 tI O.mono b9 (aj (ae 0) (aj a8 aw))) (br Ae (br ğ a8 a8) a8)))
  (a7 (w3 (i:=4) jN.aA rfl rfl rfl (N':=yj) (cs:=[jp,j3 2]) rfl (h7 (YW (ae 0) (kn a8) (kn a8) a8)) rfl xL rfl xL (ia (gK.mpr #[2,(λp az=>bt az (dU))])) rfl
   (.own (.mF rfl (.inl rfl) (.inl rfl) rfl .nil))
   (λC s3 a5 bY da=>#[(dV 0 (by show(yj:bE).Nodup;decide+kernel)),jm,(c2 agW C1 O.mono b9 (aj (ae 0) (aj (ae 1) aw)))]))
  (a7 (w3 (i:=5) jN.aA rfl rfl rfl (N':=yp) (cs:=[jp,j3 2,j3 3]) rfl (h7 (YW (ae 0) (kn a8) (kn a8) a8)) rfl xL rfl xL (ia (gK.mpr #[2,(gK.mpr #[2,(λp az=>bt az (dU))])])) rfl
   (.own (.mF rfl (.inl rfl) (.inl rfl) rfl (.mF rfl (.inl rfl) (.inl rfl) rfl .nil)))
   (λC s3 a5 bY da=>#[(dV 0 (by show(yp:bE).Nodup;decide+kernel)),jm,(c2 afX CR O.mono b9 (aj (ae 0) (aj (ae 1) (aj (ae 2) aw))))]))
  (a7 (er (j2 (kp (c2 agX C_ O.mono b9 (aj (ae 1) (aj (ae 2) (aj (ae 4) (aj (ae 5) aw))))))) (a_ (cc i2)) eB)
  (a7 (cE 6 jN.aA (vr Ak qY O.mono xo pG lr.bd .nil b9 (aj (ae 2) (aj (ae 4) aw))))
  (a7 (cE 7 jN.aA (c2 WX vk O.mono b9 (aj (ae 6) aw)))
  (a7 (cE 8 jN.aA (br h9 (br nk (c2 G8 tI O.mono b9 (aj (ae 0) (aj a8 aw))) a8) (br vx (br ha (c2 G8 tI O.mono b9 (aj (ae 0) (aj a8 aw))) a8) a8)))
  (a7 (cE 9 jN.aA (cn fG (ae 2) (br ha (ae 8) (dp hI B.len g_ (aj (ae 2) aw)))))
  (a7 (cE 10 jN.aA (cn fG (ae 2) (br ha (br h9 (br h9 (ae 8) a8) (br ha (br nk (ae 8) a8) (br Ae (dp hI B.len g_ (aj (ae 2) aw)) a8))) (dp hI B.len g_ (aj (ae 2) aw)))))
  (a7 (er (fQ nB (br ha (br nk (ae 8) a8) a8) a8 (eK _)) (a7 (gL (gp (ae 7) hb r7.eO VI O.mono r7.bd .nil xE (aj (ae 9) (aj (ae 10) aw))))
  (a_ (er (fQ (Jf O.units) (c2 M4 tL O.mono b9 (aj (ae 1) (aj (br gA (br gA (br gA (br gA cz (ae 9)) cz) (ae 10)) cz) aw))) (eY (aj i2 (aj cz aw))) (eK _)) (a_ (cc i2)) eB))) eB)
  (a7 (cE 11 jN.aA (c2 vH rg O.mono b9 (aj (ae 6) (aj (ae 5) (aj (ae 7) aw)))))
  (a7 (cE 12 jN.aA (c2 Ho r_ O.mono b9 (aj (eY (aj (gp (ae 6) eZ sD.eO XQ O.mono sD.bd .nil xE (aj (ae 9) (aj (ae 10) aw))) aw)) aw)))
  (a7 (cE 13 jN.aA (eY (aj (h_ (aj cz (aj (eY (aj i2 (aj (c2 Ht sj O.mono b9 (aj (ae 11) aw)) aw))) aw))) (aj (h_ (aj cz (aj (c2 Ho r_ O.mono b9 (aj (c2 w0 kM O.mono JY (aj (ae 6) (aj (ae 5) (aj (ae 11) aw)))) aw)) aw))) aw))))
  (a7 (cE 14 jN.aA (br gA (br gA (ae 9) cz) (ae 10)))
  (a7 (cE 13 jN.aA (br jI (ae 13) (eY (aj (h_ (aj (br gA cz (ae 14)) (aj (ae 12) aw))) (aj (h_ (aj (br gA cz (ae 14)) (aj (c2 aga CP O.mono b9 (aj (ae 7) (aj (ae 9) (aj (ae 10) aw)))) aw))) aw)))))
  (a7 (cE 13 jN.aA (br jI (ae 13) (eY (aj (h_ (aj (br gA (br gA (br gA cz (ae 9)) cz) (ae 9)) (aj (eY (aj i2 (aj cz aw))) aw))) (aj (h_ (aj cz (aj (c2 aeI y_ O.mono b9 (aj (ae 6) (aj (ae 5) (aj (eY aw) aw)))) aw))) aw)))))
  (a7 (kq kH rfl (DD rfl B.range (aj a8 aw)) (dV 15 jN.aA)
   (a7 (cE 16 jN.aA (c2 afu CI O.mono b9 (aj (ae 11) (aj (br ha (br vx (br h9 (ae 8) (br vx a8 (ae 15))) a8) a8) aw))))
  (a_ (gL (i3 o' p7 p8 oo (ae 13) (aj (h_ (aj (br gA cz (c2 Ht sj O.mono b9 (aj (ae 16) aw))) (aj (c2 aeI y_ O.mono b9 (aj (ae 6) (aj (ae 5) (aj (ae 16) aw)))) aw))) aw))))))
  (a7 (cE 13 jN.aA (br jI (ae 13) (eY (aj (h_ (aj (br gA cz (c2 Ht sj O.mono b9 (aj (ae 11) aw))) (aj (c2 Ho r_ O.mono b9 (aj (c2 w0 kM O.mono JY (aj (ae 6) (aj (ae 5) (aj (ae 11) aw)))) aw)) aw))) aw))))
  (a7 (cE 13 jN.aA (br jI (ae 13) (eY (aj (h_ (aj (br gA cz (cn fG (eY (aj cz (aj cz (aj cz (aj cz (aj cz (aj cz aw))))))) (br ha (ae 8) a8))) (aj (eY (aj cz aw)) aw))) aw))))
  (a7 (kq kH rfl (h7 (br jI (mG qh (mG qh (ae 13) (kn (br ha (ae 8) a8)) mJ) mJ (kn a8)) (ae 13))) (Ad rfl (iX (dV 17 jN.aA) (iX (dV 18 jN.aA) sM)))
   (a_ (er (fQ (Jf O.units) (c2 M4 tL O.mono b9 (aj (ae 1) (aj (ae 17) aw))) (ae 18) (eK _)) (a_ (cc i2)) eB)))
  (a_ (cc i2)))))))))))))))))))))))),4]
 ac_rfl
 show-cut λN L=>?_;let#[a,ns,2,fS,zk,q]:=h
 refineλx al cX sU aw8=>#[x,al,2,aQ,λH1 A atz sT k1 lQ=>#[2,4]]
 let s1:aD H H1:=λb o e=>k1 b o (dj e cX) ((hq cX (bT sU)) _ _ e);clear k1 sT atz;let Ct:=s1.seq fS;obtain⟨m,hm⟩:∃m:Nat,2+ns.getD (1:Int).toNat 0%6=(m:Int):=#[(2+ns.getD (1:Int).toNat 0%6).toNat,9]
 let aDx:2<=m/\m<=7:=by lia
 show-eL N L λN L=>?_;show#[1,a,ns,0,2,Ct,8,1,a,ns,(1),2,Ct,8,3,(by show(0:Int)<6;decide),3,ns.getD (0:Int).toNat 0,m,4,9,λdk ah HC s2 ai=>?_]
 .show[V.int _,V.int (2+ns.getD (1:Int).toNat 0%6)]=_;rw[hm]
 obtain⟨k,Ld⟩:∃k,k=vt (ns.getD (0:Int).toNat 0) m:=#[1]
 let G:Good k:=by rw[Ld];show-af9 qI
 let au:k.Z=m:=by rw[Ld,WM]
 rw[<-Ld]at ai;clear Ld hm;let Cu:=s2.seq Ct;let ke:=lQ.same s2;show-eL N L λN L=>?_;show#[1,a,ns,(2),2,Cu,8,3,#[8,8,8],3,3,(by show(0:Int)<10 ^ (9:Int).toNat - 29;decide),4];let aci:0<=ns.getD (2:Int).toNat 0%(10 ^ (9:Int).toNat - 29):=jA _ x8;let j4:ns.getD (2:Int).toNat 0%(10 ^ (9:Int).toNat - 29)<10 ^ (9:Int).toNat - 29:=k_ _ x8;let i1:ns.getD (2:Int).toNat 0%(10 ^ (9:Int).toNat - 29)+30<=1000000000:=by
  let e:(10:Int) ^ (9:Int).toNat=1000000000:=by decide
  rw[e]at j4⊢
  lia
 show-eL N L λN L=>?_;clear j4;show jQ _ _ _ _ ah;generalize ns.getD (2:Int).toNat 0%(10 ^ (9:Int).toNat - 29)=bs at aci i1⊢;obtain⟨qm,y0⟩:∃qm,qm=oQ ns (j3 3) (j3 23) 2:=#[1]
 let Hl:qm.Z<=10:=by rw[y0];show-YV ns 3 23
 obtain⟨ds,ix⟩:∃ds:List cm.fV,ds=qm.map λc=>Mu k.length c:=#[1]
 let so:∀d∈ds,d.Ok k.Z:=λd hd=>by rw[ix]at hd;let#[c,1]:=bQ.mp hd;show-aoJ qI c
 show-Ee ?_;refine ZF (K:=K) (Hs:=ah) (xs:=qm.map V.int) (rest:=[j3 (.ref dk)]) (λR de=>#[5,1,a,3,x8,Cu,λp np=>#[p,2,#[_,aI.of aQ],4]]) rfl (el (by rw[aM];lia)) (λv=>match v with|.int c=>kA k (Mu k.length c)|_=>[]) (λi y ah R dt aF c4=>?_) (λdI a5 rs ak cN s3=>?_)
 .have:=de p np;rw[y0]at this;rwa[YU]
 .let#[c,1]:=bQ.mp (dm dt);show#[5,c,dk,k,2,aF _ _ ai,9,9,λdK Vv=>c4 dK _ (bT Vv) aQ]
 let z8:eG a5 rs (ds.map (kA k)):=by rw[ix,ek];rwa[ek]at cN
 let ld:ds.Z<=10:=by rwa[ix,aM]
 clear cN y0 ix Hl qm;let GA:=s3.seq Cu;let YF:=ke.same s3;let S':=s3 _ _ ai;show-eL N L λN L=>?_;obtain⟨qm,y0⟩:∃qm,qm=oQ ns (j3 4) (j3 24) 2:=#[1]
 let Hl:qm.Z<=10:=by rw[y0];show-YV ns 4 24
 obtain⟨es,Lb⟩:∃es:List cm.Lt,es=qm.map λc=>lt k.length c bs:=#[1]
 let sq:∀d∈es,d.Ok k.length bs:=λd hd=>by rw[Lb]at hd;let#[c,1]:=bQ.mp hd;show-apP qI c bs
 show-Ee ?_;refine ZF (K:=K) (Hs:=a5) (xs:=qm.map V.int) (rest:=[j3 (.ref dk),j3 (.int bs)]) (λR de=>#[5,1,a,3,x8,GA,λp np=>#[p,2,#[_,aI.of aQ],4]]) rfl (el (by rw[aM];lia)) (λv=>match v with|.int c=>ltV k (lt k.length c bs)|_=>[]) (λi y ah R dt aF c4=>?_) (λeR dx dA a6 cN b3=>?_)
 .have:=de p np;rw[y0]at this;rwa[YU]
 .let#[c,1]:=bQ.mp (dm dt);show#[5,1,c,bs,dk,k,2,aF _ _ S',9,9,λdK Vv=>c4 dK _ (bT Vv) aQ]
 let NK:eG dx dA (es.map (ltV k)):=by rw[Lb,ek];rwa[ek]at cN
 let le:es.Z<=10:=by rwa[Lb,aM]
 clear cN y0 Lb Hl qm;let aca:=b3.seq GA;let O5:=YF.same b3;let S_:=b3 _ _ S';let T:yt k ds es bs:=#[G,9,so,ld,sq,le,aci,i1]
 show-eL N L λN L=>?_;show#[5,5,x,dk,dI,eR,A,rs,dA,k,ds,es,bs,2,O5,T,S_,b3 _ _ ak,z8.same b3,a6,NK,λbH vN gv k5 Qu akD Jc=>?_];show#[1,iN ?_];let st:qw dx bH:=λb o to e=>k5 b o (λz=>to.1 _ _ _ _ _ (gk (e.symm.trans ((fe dx z).trans O5.ins)))) e;let acb:=ar8 aca st;let Gq:=st _ _ t7 S_;let Ta:=st _ _ t7 (b3 _ _ ak);let ab1:=st _ _ t7 a6;let WR:=(z8.same b3).jv st;let aez:=NK.jv st;let eH:rs.Z=ds.Z:=by have:=z8.len;rwa[aM]at this
 let hf:dA.Z=es.Z:=by have:=NK.len;rwa[aM]at this
 clear st k5 aca S_ ak a6 z8 NK O5 b3 S' ai GA YF s3 Cu ke s2 HC Ct lQ s1;show-eL N L λN L=>?_;show#[5,λn fR nn aA MG=>?_];let fM:aD bH (upd (upd bH fR (.own n)) n (.ins CN fR [])):=hq nn (bT aA);show#[n,fR,dk,dI,k,rs,ds,2,aQ,fM _ _ Gq,G,fM _ _ Ta,#[WR.same fM,so],9,λje a2 dg c6 g1 g2 g3 e2 mR=>#[2,4]];let mh:aD bH je:=λb o e=>c6 b o (dj e nn) (fM _ _ e);let Å:iC CN je n a2 dg (c1 k) (aT rs):=#[#[fR,g1],g2,g3]
 let Qs:gG je k rs ds:=#[WR.same mh,so]
 clear c6 g1 g2 g3 e2 mR fM nn aA MG;show-eL N L λN L=>?_;show#[1,n,a2,dg,k,rs,ds,2,Å,G,Qs,9,λy dT jz kvs jO fl i_ QT Qv=>?_];let X5:=ni.alike Qu Qv;let af4:=λ{h g:Str}(Di:h∈k.map S)=>anC (g:=g) Qu so G.bX Di;let#[jw,2,zG,zC]:=Qv.rows;let akE:=Ym so qI zG zC;let s4:=mh.trans i_;let O6:=Jc.same s4;let aev:dT≠vN.t:=(dj (mh _ _ Jc.ft.told) fl).symm;let Tl:=s4.seq acb;let zc:=s4 _ _ Gq;clear fl jO Qu Qv zG zC;show-eL N L λN L=>?_;show#[1,a,ns,(1),2,Tl,8,3,#[8,8],1,a,ns,0,2,Tl,8,3,x8,3,.inr #[8,8],3,4];show-eL N L λN L=>?_;show jQ _ _ _ _ jz;generalize ns.getD (1:Int).toNat 0/6+ns.getD (0:Int).toNat 0%2147483647*48271=c;let dv:((c1 k).Z:Int)=(k.Z:Int):=by rw[xe]
 obtain⟨fv,aE,eg⟩:∃fv:Nat,c%(k.Z:Int)=(fv:Int)/\fv<k.Z:=by let f0:=jA c (b:=(k.Z:Int)) qI;let f1:=k_ c (b:=(k.Z:Int)) qI;show#[_,(la f0).symm,9]
 obtain⟨gr,aC,eC⟩:∃gr:Nat,(c+1+c/7%((k.Z:Int)-1))%(k.Z:Int)=(gr:Int)/\gr<k.Z:=by let f0:=jA (c+1+c/7%((k.Z:Int)-1)) (b:=(k.Z:Int)) qI;let f1:=k_ (c+1+c/7%((k.Z:Int)-1)) (b:=(k.Z:Int)) qI;show#[_,(la f0).symm,9]
 let i12:fv≠gr:=λz=>ayw (n:=k.Z) qI c (by rw[aE,aC,z]);let at_:∀{i:Nat},i<k.Z->aq.hp (c1 k) (i:Int)=j3 (.str (S (k.getD i []))):=λ{i}h=>jG (by unfold c1;rw[cR,cQ h,dB,cQ h];rfl);show#[5,1,dk,1,.inl (aI.of zc),3,(by show(0:Int)<((c1 k).Z:Int);lia),4];rw[dv,aE];show#[dk,_,3,aI.of zc,at_ eg,4];show-eL N L λN L=>?_;show#[5,3,1,3,#[8,8],1,dk,1,.inl (aI.of zc),3,3,(by show(0:Int)<((c1 k).Z:Int)-1;lia),3,1,dk,1,.inl (aI.of zc),3,(by show(0:Int)<((c1 k).Z:Int);lia),4];rw[dv,aC];show#[dk,_,3,aI.of zc,at_ eC,4];clear aE aC at_;let sT:=G.at eg;let zE:=G.at eC;let mA:=OF eg;let zA:=OF eC;let My:=aau G.aA eg eC i12;generalize k.getD fv []=D at sT mA My⊢;generalize k.getD gr []=Z at zE zA My⊢;clear i12 eg eC fv gr;obtain⟨U,sg⟩:∃U,U=es.map (i6 k):=#[1]
 let aeA:eG jz dA (U.map q'):=by rw[sg,ek];show-aez.same s4
 let ok:∀{tb},kW k ds tb->g4 #[k,ds,U,tb]:=λ{tb}t=>#[G,by show ds.Z<=40;lia,t,T.kr,by show U.Z<=10;rwa[sg,aM],λd hd=>by
  let hd:d∈U:=hd;rw[sg]at hd;let#[e,he,2]:=bQ.mp hd;show-P' T he]
 let aDS:U.Z<=10/\dA.Z=U.Z:=by rw[sg,aM];show#[le,hf]
 rw[<-sg]at O6 Jc;let aiq:=QT.g7;let Ğ:=Qs.same i_;let auC:=s4 _ _ Ta;let ab2:=s4 _ _ ab1;clear WR aez Ta ab1 Gq Jc s4 mh i_ acb Tl Qs Å sq le hf T sg eH;show-eL N L λN L=>?_;let Fm:kh CK CW CN x n y dT a2 dg dk eR vN rs dA k ds U gv jw jz:=#[O6,QT,Ğ,zc,ab2,aeA,akD,akE,X5]
 let oS:∀{u:bB}{H:ag},iS u->cO H (.str (S u)) (.str (S u)):=λh=>EZ (pN h);let un:=zY mA zA My;clear O6 QT Ğ zc ab2 aeA X5 aiq auC;refine Pb (t:=x3 _ _ _) (λdN=>∀(e3:ag)(gv jw:List Row),kh CK CW CN x n y dT a2 dg dk eR vN rs dA k ds U gv jw e3->dN.cX (RR a x dk bs dI eR n y c D Z [jp,jp,jp,jp,jp,jp,jp,jp]) e3) ?_ λdN rest=>?_
 rotate_left
 .show#[1,3,#[8,8],3,8,7,4];by_cases jF:c/77%3=0
  .refine d1 (cw (by rw[jF])) ?_;let#[d2,cd]:=Fm.ft.ins;show#[1,y,d2,1,cd,7,1,y,n,dT,a2,dg,k,6,S D,S Z,2,Fm.ft,G,oS sT,oS zE,λ_ e3 ja=>?_,λno=>bt (un.symm.trans no) nofun];rw[Oc];let r:=Fm.same ja;let aN:∀b o,b≠dT->e3 b=j3 o->upd e3 dT (.c3 (dG (oX jw (S D) (S Z)))) b=j3 o:=λb o nb e=>by rwa[aR nb]
   let b':upd e3 dT (.c3 (dG (oX jw (S D) (S Z)))) dT=j3 (.c3 (dG (oX jw (S D) (S Z)))):=aQ;generalize upd e3 dT (.c3 (dG (oX jw (S D) (S Z))))=rI at aN b'⊢;let st:qw e3 rI:=λb o to e=>aN b o (λz=>to.2 _ (gk (e.symm.trans ((fe e3 z).trans r.ft.told)))) e;let ur:x≠dT:=aq.gP r.sa.ins r.ft.told (by intro z;cases z);let#[u7,dC]:=r.sa.ft.ins;let xR:ff CK CW CN rI x vN #[k,ds,U,gv]:=#[aN _ _ ur r.sa.ins,#[#[u7,st _ _ DA dC],r.sa.ft.g7.jv st,aN _ _ aev.symm r.sa.ft.told],r.sa.i'.jv st,r.sa.lt.jv st]
   let wS:cU "way "=S (tm++[32]):=by left
   let Nt:cU " "=S [32]:=by left
   let atr:cU " -"=S [32,45]:=by left
   rw[wS,Nt,atr];let fk:=sT.2.1;let e2:=zE.2.1;show#[5,3,ut (by simp only[kU,ew,c0,ej,kf,tm];lia),3,ut (by simp only[kU,ew,c0,ej,kf,tm];lia),1,3,ut (by simp only[kU,ew,c0,ej,kf,tm];lia),3,ut (by simp only[kU,ew,c0,ej,kf,tm];lia),4];simp only[kU];rw[show tm++[32]++D++[32]++Z++[32,45]=cK [32] [tm,D,Z,[45]] by simp only[cK,jB];rfl];show-aj0 SC xR (ok r.NI) sT zE mA zA My λY' CS afZ l azz nl axK au=>?_;show#[sz_,λd9 MF=>P_ (.two xL) (bT MF _ _ au) aQ #[1,eM rfl ?_]];show-rest _ (oX gv (S D) (S Z)) (oX jw (S D) (S Z)) (kh.same ?_ (axK.trans (bT MF)));let xp:qw rI Y':=λb o to e=>CS b o (λz=>to.1 _ _ _ _ _ (gk (e.symm.trans ((fe rI z).trans xR.ins)))) (λz=>to.2 _ (gk (e.symm.trans ((fe rI z).trans xR.ft.told)))) e;let vB:qw e3 Y':=λb o to e=>xp b o to (st b o to e);let#[d2,cd]:=r.ft.ins;show#[afZ,#[#[d2,vB _ _ DA cd],r.ft.g7.jv vB,CS _ _ ur.symm aev b'],r.rd.jv vB,vB _ _ t7 r.ai,vB _ _ t7 r.a6,r.cN.jv vB,r.NI.pop _ _,r.uj.pop _ _,r.B4.pop _ _]
  show-eM (c9 λz=>jF (V.int.inj z)) (rest _ gv jw Fm)
 intro e3 gv jw r;clear Fm;let mz:=ok r.NI;let fO:=mz.run so;show-eL N L λN L=>?_;show#[5,1,n,eR,y,dT,a2,dg,k,rs,dA,ds,dG jw,U,2,r.a6,r.cN,9,r.ft,G,r.rd,r.uj.tab,λd hd=>#[(mz.lk d hd).1,(mz.lk d hd).2.1,(mz.lk d hd).2.2.1],λpl ahf as w_ mi d3 h6=>?_];rw[<-r.B4.run U]at h6;let df:bV (i7 ahf) as (oY #[k,ds,U,gv]):=W8 h6 fO.pos;let r:=r.same mi;clear h6 w_;show-eL N L λN L=>?_;let#[o,mI,m_]:=af4 (g:=S Z) mA;let#[fR,hn]:=r.ft.g7.ins;show#[1,n,fR,1,hn,7,1,n,a2,dg,k,rs,ds,S D,S Z,2,r.ft.g7,r.rd,G.bX,mA,zA,λazA X=>gs λe1 azB Y zf=>#[e1,[o],2,(by rwa[mI]at zf),v_ rfl,λn hn=>e4.mp hn▸m_,λfr azC _ I nv=>?_]];let s:=X.trans (Y.trans I);clear zf X Y I mi;show-eL N L λN L=>?_;show#[1,pl,as,1,aI.of (s _ _ d3),Ip df s,λb af=>(fO.each b af).1.ok,dQ fO.bX x8,λazD X=>gs λaE azE Y LD=>gs λt1 azF I acZ=>#[5,1,4]];let z:=X.trans (Y.trans I);let s:=s.trans z;let nv:=z _ _ nv;show-PP (r.same s) mz (s _ _ d3) (Ip df s) λaC azG _ bC wU=>gs λt3 azH bP L0=>gs λeg ag6 dc hJ=>?_;let z:=bC.trans (bP.trans dc);let s:=s.trans z;let nv:=z _ _ nv;let bN:bV (rh ag6) [t1,t3] [(("run":Str),gV (yq #[k,ds,U,gv])),(("home":Str),gV (tc #[k,ds,U,gv]))]:=.cons #[aE,z _ _ acZ,z _ _ (I _ _ LD)] (.cons #[aC,dc _ _ L0,dc _ _ (bP _ _ wU)] .nil);clear z X Y I bC bP dc LD acZ wU L0;let Nt:cU " "=S [32]:=by left
 let atY:cU "far "=S (uG++[32]):=by left
 let ad8:cU "route "=S (oE++[32]):=by left
 let fk:=sT.2.1;let e2:=zE.2.1;show-eL N L λN L=>?_;show#[1,tj rfl Nt rfl (by simp;lia) #[1,tj rfl rfl rfl (by simp;lia) ?_]];show-eL N L λN L=>?_;show#[5,tj (w:=cK [32] [uG,D,Z]) atY rfl (by simp only[cK,jB]) (by simp[cK,uG];lia) #[1,gs λui azI X ac1=>?_]];let s:=s.trans X;let M:=r.same s;show#[1,tj (w:=cK [32] [oE,D,Z]) ad8 rfl (by simp only[cK,jB]) (by simp[cK,oE];lia) #[5,1,y,n,dT,a2,dg,k,rs,ds,dG jw,S D,S Z,2,M.ft,G,M.rd,M.uj.tab,9,mA,zA,λf7 azJ _ Y TG=>gs λrm azK I GY=>gs λeC azL bC ig=>oU (bC _ _ (I _ _ (Y _ _ (X _ _ hJ)))) ig λi5 ag7 bP pw=>?_]];rw[<-r.B4.walk]at TG;let z:=Y.trans (I.trans (bC.trans bP));let s:=s.trans z;let M3:bV (rh ag7) ([t1,t3]++[ui,rm]) ([(("run":Str),gV (yq #[k,ds,U,gv])),(("home":Str),gV (tc #[k,ds,U,gv]))]++[(S (cK [32] [uG,D,Z]),gV (S (cK [32] ([o].map iE)))),(S (cK [32] [oE,D,Z]),A7 (ic (dG gv) k ds (S Z) 13 (S D) [S D] []))]):=vl (DN bN (X.trans z)) (.cons #[fr,z _ _ ac1,z _ _ (X _ _ nv)] (.cons #[f7,bP _ _ (bC _ _ GY),bP _ _ (bC _ _ (I _ _ TG))] .nil));clear M z X Y I bC bP hJ ig nv ac1 GY TG bN;show-eL N L λN L=>?_;show#[5,tj ad8 rfl rfl (by simp[oE];lia) (tj rfl Nt rfl (by simp[oE];lia) #[1,tj (w:=cK [32] [oE,D,D]) rfl rfl (by simp only[cK,jB]) (by simp[cK,oE];lia) (gs λiw azM X acz=>gs λD' azN Y ac2=>#[5,gs λcD azO I LC=>?_])])];let z:=X.trans (Y.trans I);let s:=s.trans z;show-ý (as:=[]) (bs:=[]) (r.same s) mz LC .nil (λ_ h=>nomatch h) (eu _) λlx azP _ bC acA=>gs λD_ azQ bP ac3=>gs λqi Bd dc sv=>?_;let eT:=bC.trans (bP.trans dc);let nF:bV (rh Bd) ([t1,t3]++[ui,rm]++[D',D_]) _:=vl (DN M3 (z.trans eT)) (.cons (b:=(S (cK [32] [oE,D,D]),gV "")) #[iw,eT _ _ (I _ _ ac2),eT _ _ (I _ _ (Y _ _ acz))] (.cons (b:=(("check ":Str),gV (oW k ds U []))) #[lx,dc _ _ ac3,dc _ _ (bP _ _ acA)] .nil));show#[i5,qi,3,eT _ _ (z _ _ pw),sv,sz_,λnA Vq=>?_];let s:=s.trans eT;let d3:=s _ _ d3;let df:=Ip df s;let r:=r.same s;clear pw sv M3 z X Y I bC bP dc eT ac2 acz LC acA ac3 s;let TS:upd Bd nA (.lst ([.ref t1,.ref t3]++[.ref ui,.ref rm]++[.ref D',.ref D_])) nA=j3 (.lst (aT ([t1,t3]++[ui,rm]++[D',D_]))):=aQ;let Wl:=bT (o:=.lst ([.ref t1,.ref t3]++[.ref ui,.ref rm]++[.ref D',.ref D_])) Vq;show-eL N L λN L=>?_;show jQ _ _ _ _ (upd Bd nA (.lst ([.ref t1,.ref t3]++[.ref ui,.ref rm]++[.ref D',.ref D_])));generalize upd Bd nA (.lst ([.ref t1,.ref t3]++[.ref ui,.ref rm]++[.ref D',.ref D_]))=azR at TS Wl⊢;let ayG:ic (dG gv) k ds (S D) 13 (S D) [S D] []=.ok []:=by unfold ic;rw[a' rfl]
 let afa:∀q∈[(("run":Str),gV (yq #[k,ds,U,gv])),(("home":Str),gV (tc #[k,ds,U,gv]))]++[(S (cK [32] [uG,D,Z]),gV (S (cK [32] ([o].map iE)))),(S (cK [32] [oE,D,Z]),A7 (ic (dG gv) k ds (S Z) 13 (S D) [S D] []))]++[(S (cK [32] [oE,D,D]),gV ""),(("check ":Str),gV (oW k ds U []))],uF K CK CW CN cS dy d4 cb cy cs R vR x vN #[k,ds,U,gv] q:=λq bf=>by
  simp only[π,P5,et,dU,or_false]at bf;rcases bf with rfl|rfl|rfl|rfl|rfl|rfl
  .exact al6 SC mz
  .exact aj5 SC mz
  .exact al7 SC mz sT zE mA zA mI m_
  .exact Yg SC p2 mz sT zE mA zA
  .let h:=Yg (CK:=CK) (CW:=CW) (CN:=CN) (x:=x) (A:=vN) SC p2 mz sT sT mA mA;rwa[show ic (dG (#[k,ds,U,gv]:h4).tb) _ _ (S D) 13 (S D) [S D] []=.ok []from ayG]at h
  show-W9 (bs:=[]) SC mz (λ_ h=>nomatch h) (eu _)
 show#[1,x8,x8,4];show-Xd (lo:=0) (n:=2) (agO Bd nA (uF K CK CW CN cS dy d4 cb cy cs R vR x vN #[k,ds,U,gv]) (RR a x dk bs dI eR n y c D Z [j3 (.ref pl),j3 (.ref fr),j3 (.ref nA),j3 (.str (S (D++[32]++Z)))]) [jp,jp]) #[jp,jp,6,Bd,2,Vq,aD.refl _,Wl,TS,nF,afa,b7 _] ?_ ?_
 .rintro j aa cY zw ⟨v1,v2,J,hj,rJ,rfl,nm,c6,aF,au,ik,NF,dv⟩;obtain⟨m,em⟩:∃m:Nat,(c+31*(0+(j:Int)))*48271%2147483647=(m:Int):=#[_,(la (jA _ x8)).symm]
  let d5:=c6.trans aF;show#[5,1,3,.inl #[8,8],3,3,.inr #[8,8],3,8,pl,m,as,_,by rw[em];rfl,d5 _ _ d3,bV.kv df λ_ _ e=>e.same d5,λb af=>(fO.each b af).1,fO.bX,λaxf az1 as7 not ka acS OT=>?_];let#[FW,FX]:=alZ fO.each fO.bX m;generalize A8 (oY #[k,ds,U,gv]) m=m_ at OT FW FX;clear em;show#[1,.inl #[2,_,aI.of (ka _ _ au)],4];show#[1,axf,as7,m_,2,aI.of acS,OT,λb af=>(FW b af).ok,dQ FX x8,λaz2 rj=>?_];let axm:=NY FW FX;show#[3,(by rw[EJ,ew,ew];show 6+_<=16777216;lia),4];rw[EJ,kU];let axX:=d5.trans (ka.trans rj);show#[5,1,ý (r.same axX) mz (rj _ _ acS) (bV.kv OT λ_ _ e=>e.same rj) FW FX λl2 η awL sc LF=>?_];show#[sz_,λxt adS=>?_];let Wu:=bT (o:=.tup [.str (S (lu++ie m_)),.ref l2]) adS;let ac4:upd η xt (.tup [.str (S (lu++ie m_)),.ref l2]) xt=j3 (.tup [.str (S (lu++ie m_)),.ref l2]):=aQ;let LF:=Wu _ _ LF;let ja:=ka.trans (rj.trans (sc.trans Wu));let GQ:=ja _ _ au;let awn:xt≠nA:=(dj (sc _ _ (rj _ _ (ka _ _ au))) adS).symm;let awh:l2≠nA:=(dj (rj _ _ (ka _ _ au)) awL).symm
  try dsimp only
  generalize upd η xt (.tup [.str (S (lu++ie m_)),.ref l2])=θ at Wu ac4 LF ja GQ⊢;let aem:aD rJ (mask θ [nA]):=λb o e=>nq (ja _ _ (aF _ _ e)) λz=>by rw[e4.mp z,nm]at e;cases e
  show#[nA,3,GQ,el (by rw[eW];lia),6,J++[xt],hj++[(S (lu++ie m_),gV (oW k ds U (m_.map jE)))],mask θ [nA],2,Ox (.head _),c6.trans aem,λb o e=>?_,by rw[aQ,tY],vl (DN ik aem) (.cons #[l2,nq ac4 λz=>awn (e4.mp z),nq LF λz=>awh (e4.mp z)] .nil),λq bf=>?_,by rw[c0];show J.Z+1<=6+(j+1);lia]
  .rw[aR λz=>?_]
   .exact Xw _ _ _ _ e
   rw[z,Ox (.head _)]at e;cases e
  rcases gU.mp bf with h|h
  .exact NF q h
  rw[e4.mp h];show-W9 SC mz FW FX
 rintro aa cY ⟨v1,v2,J,hj,rJ,rfl,nm,c6,aF,au,ik,NF,dv⟩;let d5:=c6.trans aF;let d3:=d5 _ _ d3;let df:=Ip df d5;let r:=r.same d5;let ik:=DN ik aF;clear nF afa Wl TS Vq c6 aF nm d5;show-eL N L λN L=>?_;let axm:=NY (λb af=>(fO.each b af).1) (dQ fO.bX x8);show#[5,pl,as,1,aI.of d3,df,λb af=>(fO.each b af).1.ok,dQ fO.bX x8,λazS X=>tj EJ rfl rfl (by rw[c0];show 6+_<=16777216;lia) #[5,1,PP (r.same X) mz (X _ _ d3) (Ip df X) λse azT _ Y LG=>gs λWJ azU I ac5=>gs λadm azV bC Cz=>oU (bC _ _ (I _ _ (Y _ _ (X _ _ au)))) Cz (hn:=el (by rw[eW];lia)) λaDQ aha bP LJ=>?_]];rw[tY]at LJ;let z:=X.trans (Y.trans (I.trans (bC.trans bP)));let ik:=vl (DN ik z) (Paired.cons (F:=rh aha) (a:=WJ) (b:=(S (lu++ie (oY #[k,ds,U,gv])),gV (tc #[k,ds,U,gv]))) #[se,bP _ _ (bC _ _ ac5),bP _ _ (bC _ _ (I _ _ LG))] .nil);let r:=r.same z;let ayn:(J++[WJ]).Z<=9:=by rw[c0];show J.Z+1<=9;lia
 generalize J++[WJ]=J at ayn LJ ik;clear z X Y I bC bP ac5 LG au Cz dv d3 df;obtain⟨t8,iw,awc⟩:∃t8:Nat,c%6=(t8:Int)/\t8<6:=by let f0:=jA c (b:=6) x8;let f1:=k_ c (b:=6) x8;show#[_,(la f0).symm,9]
 obtain⟨kZ,abH⟩:∃kZ,yr[t8]?=j3 kZ:=#[_,cQ awc]
 let awu:=dm abH;let aDZ:kZ.Z<=10:=by revert kZ;unfold yr;intro kZ _ h;simp only[et,dU,or_false]at h;rcases h with rfl|rfl|rfl|rfl|rfl|rfl<;>decide
 show-eL N L λN L=>?_;show#[1,gs λsR azW X TV=>?_];rw[show([.str "x",.str " ",.str "0 0: ",.str "1 1:1",.str "01 0: 0",.str "0 0: 0;"]:aV)=yr.map (λl=>V.str (S l)) by left]at TV;show#[1,3,x8,sR,_,t8,1,fe V.int iw,aI.of TV,jG (by rw[cR,abH];rfl),tj EJ rfl rfl (by rw[c0];show 6+_<=16777216;lia) (gs λatq azX Y zg=>gs λWI azY I ac0=>gs λaDR azZ bC GQ=>oU (bC _ _ (I _ _ (Y _ _ (X _ _ LJ)))) GQ (hn:=el (by rw[eW];lia)) λUT JD bP LK=>?_)];rw[tY]at LK;let z:=X.trans (Y.trans (I.trans (bC.trans bP)));let ik:=vl (DN ik z) (Paired.cons (F:=rh JD) (a:=WI) (b:=(S (lu++kZ),[.str "text"])) #[atq,bP _ _ (bC _ _ ac0),bP _ _ (bC _ _ (I _ _ zg))] .nil);let r:=r.same z;let ayo:(J++[WI]).Z<=10:=by rw[c0];show J.Z+1<=10;lia
 generalize J++[WI]=J at ayo LK ik;let all:∀v∈aT J,∃t q,v=.ref t/\rh JD t q/\uF K CK CW CN cS dy d4 cb cy cs R vR x vN #[k,ds,U,gv] q:=λv bc=>by
  let#[t,b',2]:=bQ.mp bc;let#[i,hi]:=nY b';let#[q,eq,bf]:=bV.get ik hi;show#[t,q,2,bf,4];rcases gU.mp (dm eq)with h|h
  .rcases gU.mp h with h|h
   .exact NF q h
   rw[e4.mp h];show-W9 SC mz (λb af=>(fO.each b af).1) (dQ fO.bX x8)
  rw[e4.mp h];show-aj6 SC p2 mz awu
 clear ik NF TV zg ac0 GQ LJ z X Y I bC bP;show-eL N L λN L=>?_;show#[5,3,x8,1,UT,1,aI.of LK,λX adU=>#[1,X,1,aI.of aQ,λY adV=>#[1,Y,UT,3,aQ,bT adV _ _ (bT adU _ _ LK),4,λI axa=>#[I,2,#[_,aI.of aQ],4]]]]
 .refine ut ?_;let ai:=dQ (MX (gg (aT J) (j3 (c%5)) jp) jp (j3 3)) (MX _ _ _);rw[eW]at ai⊢
  lia
 let aeL:=(bT (o:=.lst (gg (aT J) (j3 (c%5)) jp)) adU).trans ((bT (o:=.lst (gg (gg (aT J) (j3 (c%5)) jp) jp (j3 3))) adV).trans (bT (o:=.lst (gg (gg (aT J) (j3 (c%5)) jp) jp (j3 3)++aT J)) axa));let abd:∀v∈gg (gg (aT J) (j3 (c%5)) jp) jp (j3 3)++aT J,v∈aT J:=λv bc=>by
  rcases gU.mp bc with h|h
  .unfold gg at h;show-E9 (uO (E9 (uO h)))
  show-h
 let L9:upd (upd (upd JD X (.lst (gg (aT J) (j3 (c%5)) jp))) Y (.lst (gg (gg (aT J) (j3 (c%5)) jp) jp (j3 3)))) I (.lst (gg (gg (aT J) (j3 (c%5)) jp) jp (j3 3)++aT J)) I=j3 (.lst (gg (gg (aT J) (j3 (c%5)) jp) jp (j3 3)++aT J)):=aQ;generalize upd (upd (upd JD X (.lst (gg (aT J) (j3 (c%5)) jp))) Y (.lst (gg (gg (aT J) (j3 (c%5)) jp) jp (j3 3)))) I (.lst (gg (gg (aT J) (j3 (c%5)) jp) jp (j3 3)++aT J))=ahc at aeL L9⊢;generalize gg (gg (aT J) (j3 (c%5)) jp) jp (j3 3)++aT J=zs at abd L9;show-q6 (K:=K) (a:=I) (xs:=zs) (agR ahc ((RR a x dk bs dI eR n y c D Z [j3 (.ref pl),j3 (.ref fr),j3 (.ref UT),j3 (.str (S (D++[32]++Z)))])++[v1,v2])) #[jp,jp,2,aD.refl _] (λj aa cY _⟨_,_,_,h⟩=>aI.of (h _ _ L9)) ?_ ?_
 .rintro j v aa cY ev ⟨ayx,ayy,rfl,d5⟩;let#[t,q,2,#[d,b',hd],Ģ]:=all v (abd v (dm ev));let Wk:=aeL.trans d5;show#[t,1,cj.of (Wk _ _ b'),2,_,1,3,4];show#[5,Ģ.say cY _ _ (r.same Wk).sa λl Zo nl bK au=>#[1,P_ Ģ.due au (bK _ _ (Wk _ _ hd)) #[1,eM rfl #[_,1,d5.trans bK]]]]
 rintro aa cY ⟨ayx,ayy,rfl,d5⟩;subst L;show-q cY
unseal fN bq f3 gm
end
end dP
namespace b4
open PySem PySem.Spec PyProof.Rows aq
section
variable{X:bA}
def ÿ{K:aL}(d:ajb K D=q4)(f:BJ K (.ref D)=j3 (.type "type"))(k:rT K (.ref C) (.ref D)=j3 b)(g:(cM C==cM D)=q4->b=q4):
  kI K (.ref C) (.ref D)=j3 b:=by
 unfold kI;by_cases h:(cM C==cM D)=q4
 .rw[a' h,g h]
 rw[a4 h];unfold Ē;let a:(we K D).isSome=q4:=d;let c:(BJ K (.ref D)==j3 (.type "type"))=q4:=by rw[f];decide
 show(if((we K D).isSome&&BJ K (.ref D)==j3 (.type "type"))=q4 then _ else _)=_;rw[a,c];exact(a' rfl).trans k
end
end b4
namespace dP
open PySem aq b4 cm
section
variable{w:bW}{K:aL}
def J8(C:Addr)(b:AW)(a:bS)(k:Nat):Bool:=!b.mro.isEmpty&&(dY a.Z).all λj=>match a[j]? with
 |some R=>if j=k then cM C==cM R else !(cM C==cM R)&&!(b.mro.contains (.ref R))
 |none=>q4
def Ŧ{k:Nat}{N:Option Addr}{l:AW}{A:lX}{g:bS}(o:K.lookup C=j3 #[.type "type",N,.cls l,A])(V:nK K C)(sub:l' K C h=q4)(i:kI K (.ref C) (.ref h)=j3 q4)(r:kI K (.ref C) (.type "ValueError")=j3 q4)(lt:k<11)(f:∀R∈g,∃n m p,K.lookup R=j3 #[.type "type",n,.cls m,p])(d:J8 C l g k=q4):Be K h g C k:=by
 show#[V,sub,i,r,lt,λj R e=>?_];unfold J8 at d;let#[L,t]:=(hN _ _).mp d;let c:=(tv.mp t) j (kF.mpr (fU.mp e).1);rw[e]at c;dsimp only at c;by_cases z:j=k
 .rw[a' z]at c;unfold kI;rw[a' c,cw z]
 rw[a4 z]at c;let#[a,b]:=(hN _ _).mp c;let#[n,m,p,lo]:=f R (dm e);rw[c9 z];show-ahk o lo (by simpa using L) (by simpa using a) (by simpa using b)
def ayr{b:Array pY}{n:Nat}(d:K.lookup a=j3 #[.type "dict",jp,.dict b n,#[]])(c:ai3 w.params b.G)(f:(a==kY)=q9):TopD w K a:=(#[b,n,d,c,f])
def aue{c:bS}{b:Option Addr}{n:Nat}{a:lX}(f:iK K h kw=j3 (j3 (.ref e)))(d:K.lookup e=j3 #[.type "tuple",b,.seq (c.map cM).toArray n,a]):jo K h kw c:=(#[e,b,n,a,f,d])
def ŧ{K:aL}(hm:Qo T=q4)(a:rT K (.ref C) (.type T)=j3 b):kI K (.ref C) (.type T)=j3 b:=by unfold kI;rw[a4 (by intro z;cases z)];unfold Ē;show(if Qo T=q4 then _ else _)=_;rw[a' hm,a]
structure RS(K:aL)(cb cy:Addr)(R:lV)(D:rG):Prop where
 f1:jo K cb "house" [R.t]
 f2:jo K cb "road" [R.t,R.t,R.n,R.n]
 cV:jo K cb "letter" [R.t,R.t,R.n]
 f4:jo K cb "way" [R.t,R.t,R.r]
 fz:jo K cb "shortest" []
 Gd:jo K cb "far" [R.t,R.t]
 Ch:jo K cb "route" [R.t,R.t]
 f8:jo K cb "run" []
 Sw:jo K cb "home" []
 atV:jo K cb "check" [R.t]
 fk:iK K cy "house"=j3 (j3 (.ref D.aW))
 e2:iK K cy "road"=j3 (j3 (.ref D.z0))
 mR:iK K cy "letter"=j3 (j3 (.ref D.le))
 zD:iK K cy "way"=j3 (j3 (.ref D.Ar))
 ua:iK K cy "shortest"=j3 (j3 (.ref D.rk))
 Mx:iK K cy "far"=j3 (j3 (.ref D.iy))
 vq:iK K cy "route"=j3 (j3 (.ref D.rt))
 awz:iK K cy "run"=j3 (j3 (.ref D.en))
 awA:iK K cy "home"=j3 (j3 (.ref D.hm))
 aww:iK K cy "check"=j3 (j3 (.ref D.km))
def RS.say{R:lV}{D:rG}(F:RS K e h R D):j' K R e h D:=by
 let b:("house":Str)=S xy:=by left
 let a:("road":Str)=S A':=by left
 let c:("letter":Str)=S BR:=by left
 let d:("way":Str)=S tm:=by left
 let f:("shortest":Str)=S EN:=by left
 let g:("far":Str)=S uG:=by left
 let l:("route":Str)=S oE:=by left
 let k:("run":Str)=S KV:=by left
 let n:("home":Str)=S Kf:=by left
 let m:("check":Str)=S EH:=by left
 show#[#[b▸F.f1,b▸F.fk],#[a▸F.f2,a▸F.e2],#[c▸F.cV,c▸F.mR],#[d▸F.f4,d▸F.zD],#[f▸F.fz,f▸F.ua],#[g▸F.Gd,g▸F.Mx],#[l▸F.Ch,l▸F.vq],#[k▸F.f8,k▸F.awz],#[n▸F.Sw,n▸F.awA],#[m▸F.atV,m▸F.aww]]
end
section
variable{P:cq}{w:bW}{K:aL}{mg:b5}{base:Heap}
theorem apI{f:Addr}(F:-aH a9 1 f fd kg Kb):-aH a9 1 f fd kg QU:=
 let k:∀{b H Q E},QU b H Q E->Kb b H Q E:=λ{b H Q E}⟨m,e,hm,q⟩=>#[ct m,e,dQ (ma hm) x8,λH' s=>by rw[Q3 hm];show-q H' s]
 #[λb H Q E h=>F.len b H Q E (k h),λA a s H args n b Q E d l c g h=>F.run A a s H args n b Q E d l c g (k h)]
end
structure OP(P:cq)(w:bW)(K:aL)(mg:b5)(base:Heap):Prop where
 one:True
def OP.fn{K:aL}{b:b5}{a:Heap}{k:Nat}{f:Addr}(Z:OP P w K b a)(h:aH P w K b a e k f fd i sp):aH P w K b a e k f fd i sp:=(h)
section
variable{K:aL}{h:Heap}{mg:b5}{x qual:Str}{st:Stmt}{C f:Addr}{ps:bE}{kx:Value}{d_ an:Option Addr}{nE:lX}{di doc pm cdv fI:Value}
theorem awt(a:c7 K (.ref C) x=j3 (j3 (.ref f)))(i:qP K (.ref f)=q4)(l:K.lookup f=j3 #[kx,d_,.func (n3 x qual (pA st) (mK st) (b_ st) .none di doc pm an cdv fI),nE])(c:Fy K cdv qual=q4)(k:mC K (.ref f)=q4)(u:∀(di doc pm:Value)(an:Option Addr)(cdv fI:Value)(b:dR),b.Z=ps.Z->K3 (n3 x qual (pA st) (mK st) (b_ st) .none di doc pm an cdv fI) #[b,[]]=pure (ps.zip b)):
  dn K C x qual st ps f (n3 x qual (pA st) (mK st) (b_ st) .none di doc pm an cdv fI):=
 #[y6 l c k,#[a,i,k],(y6 l c k).binds u]
theorem av2(m:ē K C=q4)(n:mC K (.ref C)=q4)(a:c7 K (.ref C) "__init__"=j3 (j3 (.ref f)))(i:qP K (.ref f)=q4)(l:K.lookup f=j3 #[kx,d_,.func (n3 "__init__" qual (pA st) (mK st) (b_ st) .none di doc pm an cdv fI),nE])(c:Fy K cdv qual=q4)(k:mC K (.ref f)=q4)(u:∀(di doc pm:Value)(an:Option Addr)(cdv fI:Value)(b:dR),b.Z=ps.Z->K3 (n3 "__init__" qual (pA st) (mK st) (b_ st) .none di doc pm an cdv fI) #[b,[]]=pure (ps.zip b)):
  nW K C qual st ps f (n3 "__init__" qual (pA st) (mK st) (b_ st) .none di doc pm an cdv fI):=
 #[y6 l c k,#[m,a,i,n],(y6 l c k).binds u]
theorem atw(X:K.In h)(G:h.Ns sS mg)(a:iK K sS x=j3 (j3 (.ref f)))(l:K.lookup f=j3 #[kx,d_,.func (n3 x x (pA st) (mK st) (b_ st) .none di doc pm an cdv fI),nE])(c:Fy K cdv x=q4)(k:mC K (.ref f)=q4)(u:∀(di doc pm:Value)(an:Option Addr)(cdv fI:Value)(b:dR),b.Z=ps.Z->K3 (n3 x x (pA st) (mK st) (b_ st) .none di doc pm an cdv fI) #[b,[]]=pure (ps.zip b)):
  bU K mg x st ps f (n3 x x (pA st) (mK st) (b_ st) .none di doc pm an cdv fI):=
 #[y6 l c k,ajh X G a,(y6 l c k).binds u]
end
def UW{c:dR}(h:c.Z=1):∃a,c=[a]:=by rcases c with _|⟨a,_|⟨b,r⟩⟩<;>first|exact⟨a,rfl⟩|simp at h
def Mm{d:dR}(h:d.Z=2):∃a c,d=[a,c]:=by rcases d with _|⟨a,_|⟨c,_|⟨b,r⟩⟩⟩<;>first|exact⟨a,c,rfl⟩|simp at h
def Hk{f:dR}(h:f.Z=3):∃a c d,f=[a,c,d]:=by rcases f with _|⟨a,_|⟨c,_|⟨d,_|⟨b,r⟩⟩⟩⟩<;>first|exact⟨a,c,d,rfl⟩|simp at h
def UX{g:dR}(h:g.Z=4):∃a c d f,g=[a,c,d,f]:=by rcases g with _|⟨a,_|⟨c,_|⟨d,_|⟨f,_|⟨b,r⟩⟩⟩⟩⟩<;>first|exact⟨a,c,d,f,rfl⟩|simp at h
def UY{k:dR}(h:k.Z=5):∃a c d f g,k=[a,c,d,f,g]:=by rcases k with _|⟨a,_|⟨c,_|⟨d,_|⟨f,_|⟨g,_|⟨b,r⟩⟩⟩⟩⟩⟩<;>first|exact⟨a,c,d,f,g,rfl⟩|simp at h
def all_mk{l:č}{K:aL}{a:b5}(au9:a "law"=j3 (.ref iy))(pG:a "Net"=j3 (.ref E))(sP:a "Ways"=j3 (.ref x))(xi:a "Walk"=j3 (.ref C))(IB:a "Desk"=j3 (.ref G))(L:a "RoadError"=j3 (.ref o))(Ij:a "NoNet"=j3 (.ref I8))(Dl:a "NoHouse"=j3 (.ref H))(DC:a "NoRoad"=j3 (.ref I))(vd:a "NoLetter"=j3 (.ref q))(pg:a "BadBag"=j3 (.ref j))(oz:a "NoWay"=j3 (.ref i))(Hp:a "ManyGoals"=j3 (.ref I6))(HV:a "CutOff"=j3 (.ref I5))(DL:a "NoText"=j3 (.ref u))(Il:a "NoRow"=j3 (.ref I9))(Io:a "NoDay"=j3 (.ref I7))(c:fw K E)(Vc:c7 K (.ref E) "kept_houses"=j3 jp)(Vd:c7 K (.ref E) "kept_roads"=j3 jp)(k:nW K E "Net.__init__" AH qM aCl aAI)(A:dn K E "houses" "Net.houses" w5 gx aCk aAH)(lp:dn K E "roads" "Net.roads" zX gx aCp aAM)(nd:dn K E "road" "Net.road" Ap eA aCo aAL)(r':dn K E "out_of" "Net.out_of" FL lT aCn aAK)(lq:dn K E "need_house" "Net.need_house" A3 lT aCm aAJ)(sD:dn K E "far" "Net.far" FO fZ aCj aAG)(p:fw K x)(Vh:c7 K (.ref x) "net"=j3 jp)(Vi:c7 K (.ref x) "told"=j3 jp)(r:nW K x "Ways.__init__" D5 my aCz aAY)(oc:dn K x "set_way" "Ways.set_way" D4 tB aCD aA2)(r7:dn K x "drop_way" "Ways.drop_way" H2 fZ aCy aAX)(zt:dn K x "way" "Ways.way" Nw fZ aCE aA3)(oi:dn K x "route" "Ways.route" D3 fZ aCC aA1)(zr:dn K x "pairs" "Ways.pairs" Nl gx aCB aA0)(n_:dn K x "need_pair" "Ways.need_pair" D2 fZ aCA aAZ)(h8:fw K C)(Vf:c7 K (.ref C) "net"=j3 jp)(Ve:c7 K (.ref C) "goals"=j3 jp)(Vg:c7 K (.ref C) "steps"=j3 jp)(sh:nW K C "Walk.__init__" FF yk aCt aAS)(y':dn K C "take_in" "Walk.take_in" JZ Bs aCx aAW)(si:dn K C "send" "Walk.send" EY yo aCw aAV)(zx:dn K C "goal" "Walk.goal" JP eA aCr aAQ)(oe:dn K C "last_house" "Walk.last_house" Eo eA aCu aAT)(ll:dn K C "last_turn" "Walk.last_turn" Ao eA aCv aAU)(oa:dn K C "home_turn" "Walk.home_turn" Ep eA aCs aAR)(yU:dn K C "can_leave" "Walk.can_leave" J7 Bn aCq aAP)(pD:fw K G)(U_:c7 K (.ref G) "net"=j3 jp)(U':c7 K (.ref G) "kept_letters"=j3 jp)(Va:c7 K (.ref G) "ways"=j3 jp)(U9:c7 K (.ref G) "day"=j3 jp)(zv:nW K G "Desk.__init__" Nd gx aCh aAE)(zu:dn K G "say" "Desk.say" KS Fj aCi aAF)(r2:dn K G "change_net" "Desk.change_net" H0 my aCg aAD)(ot:bU K a "is_whole" Am iQ aC6 aBJ)(r1:bU K a "is_whole_within" Eb uP aC7 aBK)(qb:bU K a "is_tuple_of" An rR aC5 aBI)(qa:bU K a "are_unlike_houses" zW rS aCT aBi)(DE:bU K a "is_name" JT iQ aC2 aBF)(CL:bU K a "are_houses" JU ["things"] aCQ aBf)(DF:bU K a "is_road" JV qL aC3 aBG)(C5:bU K a "are_roads" JW Br aCS aBh)(CV:bU K a "is_letter" KO qL aC1 aBE)(CG:bU K a "turns_apart" Jt ["letters"] aDl aCa)(CO:bU K a "letters_of" KP Fi aDa aBP)(u6:bU K a "is_written_number" aaP kg aC8 aBL)(Co:bU K a "is_shorter_by" Ju Bv aC4 aBH)(u3:bU K a "least_turns_from" EC yn aC9 aBN)(Cj:bU K a "begins_shortest" KJ Fe aCW aBo)(vk:bU K a "shortest" H5 ["net"] aDi aBX)(DX:bU K a "is_bag" Jz iQ aC0 aBD)(Cc:bU K a "are_rising_below" Kx Fh aCR aBg)(Ck:bU K a "reason_against" Ky Fb aDg aBV)(Dz:bU K a "walk_of" J3 m4 aDn aCc)(kM:bU K a "arrivals" yf m4 aCU aBj)(CU:bU K a "has_route" Nf Bt aCZ aBC)(CT:bU K a "queues_at" Nm Fd aDc aBR)(Dy:bU K a "bags_at" Nc Fc aCV aBn)(rg:bU K a "run" BN uQ aDh aBW)(Dd:bU K a "show_bag" Kt ["bag"] aDj aBY)(sj:bU K a "show_plan" FQ ["plan"] aDk aBZ)(wC:bU K a "read_number" Nq jV aDe aBT)(Dw:bU K a "read_bag" Np kg aDd aBS)(CY:bU K a "read_plan" Nr kg aDf aBU)(HW:bU K a "as_text" V8 jV y aBm)(wY:bU K a "as_number" Na jV M aBk)(Go:bU K a "as_road_or_none" RF jV SA aBl)(Dk:bU K a "words_of" Nv ["row"] aDp aCe)(CZ:bU K a "values_of" Kv ["words"] aDm aCb)(u5:bU K a "number_or_dash" H3 o7 aDb aBQ)(qU:bU K a "with_blanks" D6 tA aDo aCd)(Hq:bU K a "take_house" Rw gF SV aB0)(Hu:bU K a "take_road" Rx gF SX aB2)(G':bU K a "take_letter" RA gF SW aB1)(HI:bU K a "take_way" Rz gF SZ aB4)(G4:bU K a "take_shortest" Ry gF SY aB3)(HJ:bU K a "tell_far" RB gF S1 aB6)(Hm:bU K a "tell_route" RC gF S3 aB8)(HK:bU K a "tell_run" RL gF S4 aB9)(Hv:bU K a "tell_home" RM gF S2 aB7)(Hn:bU K a "tell_check" RO gF S0 aB5)(tI:bU K a "_law_cell_at" Nb Bp aCF aA4)(CQ:bU K a "_law_houses" Of Ff aCH aA6)(C1:bU K a "_law_road" KA yj aCK aA9)(CR:bU K a "_law_letter" JS yp aCJ aA8)(C0:bU K a "_law_kind" Nh Fl aCI aA7)(tL:bU K a "_law_said" H4 yl aCM aBb)(r_:bU K a "_law_turns" H6 ym aCP aBe)(C_:bU K a "_law_told" Nk ["_law_desk","_law_names","_law_lines","_law_letters"] aCO aBd)(y_:bU K a "_law_checked" Ni ["_law_net","_law_letters","_law_plan"] aCG aA5)(CP:bU K a "_law_route" Nj ["_law_table","_law_house","_law_goal"] aCL aBa)(CI:bU K a "_law_spoiled" Nu Fg aCN aBc)(RX:a "law"=j3 (.ref aud))(Jn:cp K "law" "law" BS aud aBM)(C8:K.lookup o=j3 #[.type "type",aBA,.cls K4,ax0])(Mj:K.lookup I8=j3 #[.type "type",aBv,.cls aAy,aEp])(Mi:K.lookup H=j3 #[.type "type",aBt,.cls aAx,aEo])(Mk:K.lookup I=j3 #[.type "type",aBw,.cls aAz,aEq])(Hh:K.lookup q=j3 #[.type "type",aBu,.cls abk,axY])(C6:K.lookup j=j3 #[.type "type",aBp,.cls R8,aei])(N:K.lookup i=j3 #[.type "type",aBz,.cls J,Wm])(Mg:K.lookup I6=j3 #[.type "type",aBr,.cls aAv,aEm])(Mf:K.lookup I5=j3 #[.type "type",aBq,.cls aAu,aEk])(C7:K.lookup u=j3 #[.type "type",aBy,.cls abl,axZ])(Ml:K.lookup I9=j3 #[.type "type",aBx,.cls aAA,aEr])(Mh:K.lookup I7=j3 #[.type "type",aBs,.cls aAw,aEn])(Q_:c7 K (.ref q) "__init__"=j3 (j3 (.ref abJ)))(UB:qP K (.ref abJ)=q4)(Jh:cp K "__init__" "NoLetter.__init__" Wa abJ aAN)(Ra:c7 K (.ref i) "__init__"=j3 (j3 (.ref abK)))(UC:qP K (.ref abK)=q4)(Ji:cp K "__init__" "NoWay.__init__" Wb abK aAO)(Q':c7 K (.ref j) "__init__"=j3 (j3 (.ref abI)))(UA:qP K (.ref abI)=q4)(Jg:cp K "__init__" "BadBag.__init__" V_ abI aAC)(XI:BH K o [.type "ValueError",.type "Exception",.type "BaseException",.type "object"] "ValueError.__new__"=q4)(XF:BH K H [.type "ValueError",.type "Exception",.type "BaseException",.type "object"] "ValueError.__new__"=q4)(XG:BH K I [.type "ValueError",.type "Exception",.type "BaseException",.type "object"] "ValueError.__new__"=q4)(XH:BH K u [.type "ValueError",.type "Exception",.type "BaseException",.type "object"] "ValueError.__new__"=q4)(IK:Em K4 ax0 o o=q4)(IH:Em R8 aei j j=q4)(Eu:Em J Wm i i=q4)(IJ:Em J Wm i o=q4)(II:Em abl axZ u o=q4)(W0:a "MOST_HOUSES"=j3 (.int 12 aEu))(W3:a "MOST_ROADS"=j3 (.int 40 aEw))(W5:a "MOST_SIGNS"=j3 (.int 8 aEy))(W7:a "MOST_TURNS"=j3 (.int 9 aEA))(W4:a "MOST_ROOM"=j3 (.int 1000000000 aEx))(W2:a "MOST_LETTERS"=j3 (.int 40 aEv))(W6:a "MOST_TURN"=j3 (.int 1000000000 aEz))(WZ:a "MOST_APART"=j3 (.int 30 aEt))(B:fc a)(XK:En abk K4 axY q "ValueError.__new__"=q4)(XC:abk.hasDict=q4)(WE:c7 K (.ref q) "__setattr__"=j3 (j3 (.builtin "object.__setattr__")))(VL:rT K (.ref q) (.type "object")=j3 q4)(Uw:uT K q=q4)(UQ:mC K (.ref q)=q4)(S6:c7 K (.ref q) "__getattribute__"=j3 (j3 (.builtin "BaseException.__getattribute__")))(Vr:c7 K (.ref q) "__getattr__"=j3 jp)(To:c7 K (.ref q) "__class__"=j3 (j3 (.builtin "object.__class__")))(TZ:uV K (.builtin "object.__class__") "__get__"=j3 (j3 (.builtin "getset_descriptor.__get__")))(Uh:BI K (.builtin "object.__class__")=j3 q4)(TX:o_ K q (.type "object")=j3 q4)(Ts:o_ K q (.type "BaseException")=j3 q4)(XM:En J K4 Wm i "ValueError.__new__"=q4)(XD:J.hasDict=q4)(WG:c7 K (.ref i) "__setattr__"=j3 (j3 (.builtin "object.__setattr__")))(VM:rT K (.ref i) (.type "object")=j3 q4)(Ux:uT K i=q4)(UR:mC K (.ref i)=q4)(Lp:c7 K (.ref i) "__getattribute__"=j3 (j3 (.builtin "BaseException.__getattribute__")))(MI:c7 K (.ref i) "__getattr__"=j3 jp)(Lx:c7 K (.ref i) "__class__"=j3 (j3 (.builtin "object.__class__")))(LP:uV K (.builtin "object.__class__") "__get__"=j3 (j3 (.builtin "getset_descriptor.__get__")))(L2:BI K (.builtin "object.__class__")=j3 q4)(LM:o_ K i (.type "object")=j3 q4)(Lz:o_ K i (.type "BaseException")=j3 q4)(XJ:En R8 K4 aei j "ValueError.__new__"=q4)(XB:R8.hasDict=q4)(WD:c7 K (.ref j) "__setattr__"=j3 (j3 (.builtin "object.__setattr__")))(VK:rT K (.ref j) (.type "object")=j3 q4)(L7:uT K j=q4)(UP:mC K (.ref j)=q4)(Lo:c7 K (.ref j) "__getattribute__"=j3 (j3 (.builtin "BaseException.__getattribute__")))(MH:c7 K (.ref j) "__getattr__"=j3 jp)(Lw:c7 K (.ref j) "__class__"=j3 (j3 (.builtin "object.__class__")))(LO:uV K (.builtin "object.__class__") "__get__"=j3 (j3 (.builtin "getset_descriptor.__get__")))(L1:BI K (.builtin "object.__class__")=j3 q4)(LL:o_ K j (.type "object")=j3 q4)(Ly:o_ K j (.type "BaseException")=j3 q4)(HY:ė K o (.type "type")=q4)(Gh:Ď K (.ref o) (.type "type") "__init__"=j3 (.val (.builtin "ValueError.__init__")))(H8:uV K (.ref o) "__getattribute__"=j3 (j3 (.builtin "type.__getattribute__")))(d3:c7 K (.ref j) "place"=j3 jp)(LY:c7 K (.ref j) "reason"=j3 jp)(T4:c7 K (.ref q) "number"=j3 jp)(T_:c7 K (.ref i) "reason"=j3 jp)(Ud:c7 K (.ref i) "seen"=j3 jp)(S7:c7 K (.ref u) "__getattribute__"=j3 (j3 (.builtin "BaseException.__getattribute__")))(Vs:c7 K (.ref u) "__getattr__"=j3 jp)(Tp:c7 K (.ref u) "__class__"=j3 (j3 (.builtin "object.__class__")))(T1:uV K (.builtin "object.__class__") "__get__"=j3 (j3 (.builtin "getset_descriptor.__get__")))(Ui:BI K (.builtin "object.__class__")=j3 q4)(TY:o_ K u (.type "object")=j3 q4)(Tt:o_ K u (.type "BaseException")=j3 q4)(L_:ajb K o=q4)(NN:BJ K (.ref o)=j3 (.type "type"))(Wz:rT K (.ref i) (.type "ValueError")=j3 q4)(Wy:rT K (.ref i) (.ref o)=j3 q4)(UN:J8 i J [I8,H,I,q,j,i,I6,I5,u,I9,I7] 5=q4)(Wx:rT K (.ref u) (.type "ValueError")=j3 q4)(Ww:rT K (.ref u) (.ref o)=j3 q4)(UM:J8 u abl [I8,H,I,q,j,i,I6,I5,u,I9,I7] 8=q4)(DP:a "FORMS"=j3 (.ref z))(Cp:a "DESK_ANSWERS"=j3 (.ref F))(B1:TopD w K z)(TD:TopD w K F)(SM:jo K z "house" [y])(Vz:iK K F "house"=j3 (j3 (.ref SV)))(SO:jo K z "road" [y,y,M,M])(VB:iK K F "road"=j3 (j3 (.ref SX)))(SN:jo K z "letter" [y,y,M])(VA:iK K F "letter"=j3 (j3 (.ref SW)))(SS:jo K z "way" [y,y,SA])(VF:iK K F "way"=j3 (j3 (.ref SZ)))(SR:jo K z "shortest" [])(VE:iK K F "shortest"=j3 (j3 (.ref SY)))(SJ:jo K z "far" [y,y])(Vx:iK K F "far"=j3 (j3 (.ref S1)))(SP:jo K z "route" [y,y])(VC:iK K F "route"=j3 (j3 (.ref S3)))(SQ:jo K z "run" [])(VD:iK K F "run"=j3 (j3 (.ref S4)))(SK:jo K z "home" [])(Vy:iK K F "home"=j3 (j3 (.ref S2)))(SI:jo K z "check" [y])(Vw:iK K F "check"=j3 (j3 (.ref S0))):
  ∃fd:m3,(∀(s:aS)(v:Value),EK s fd #[[v],[]] [("_law_script",v)])/\∀b:Heap,K.In b->b.Ns sS a->aH l.prog w K a b a9 12 iy fd ["_law_script"] (JM K):=by
 let e:=au9.symm.trans RX;cases e;let ata:=Jh.binds (ps:=eA) λ_ _ _ _ _ _ us au=>by(let#[_,1]:=Mm au);rfl
 let atb:=Ji.binds (ps:=Bq) λ_ _ _ _ _ _ us au=>by(let#[6,1]:=Hk au);rfl
 let as9:=Jg.binds (ps:=Bo) λ_ _ _ _ _ _ us au=>by(let#[6,1]:=Hk au);rfl
 let V9:Exc K a "RoadError" o _ _:=#[L,XI]
 let Dg:Exc K a "NoHouse" H _ _:=#[Dl,XF]
 let DG:Exc K a "NoRoad" I _ _:=#[DC,XG]
 let DB:Exc K a "NoText" u _ _:=#[DL,XH]
 let IK:=HR C8 IK;let IH:=HR C6 IH;let Eu:=HR N Eu;let IJ:=HR N IJ;let II:=HR C7 II;let nU:FE a:=#[#[_,W0],#[_,W3],#[_,W5],#[_,W7],#[_,W4]]
 let xQ:RJ a:=#[#[_,W2],#[_,W6],#[_,WZ]]
 let#[6,di,att,pm,an,e0,fI,1,6]:=id Jn.ex;show#[n3 "law" "law" (pA BS) (mK BS) (b_ BS) .none di att pm an e0 fI,λs v=>.of_eq rfl,λb _ _=>?_];let Z:OP l.prog w K a b:=⟨trivial⟩
 let n:uB K E:=#[c,Vc,Vd]
 let KT:ι K:=⟨anW K⟩
 let vj:=Z.fn (ak0 ot.fn B KT);let Ci:=Z.fn (ajr r1.fn ot vj);let y7:=Z.fn (ak1 qb.fn B);let yV:=Z.fn (ajs qa.fn);let Xr:=Z.fn (amg DE.fn B nU);let V2:=Z.fn (amh CL.fn B nU DE Xr);let Xs:=Z.fn (ami DF.fn nU qb y7 qa yV r1 Ci);let WN:=Z.fn (amj C5.fn B nU DF Xs);let qY:=Z.fn (amk k.fn B n CL V2 C5 WN);let Y9:=Z.fn (ajw ot.fn B);let agg:=Z.fn (ag8 r1.fn ot Y9);let Gt:=Z.fn (ajx qb.fn B);let Y8:=Z.fn (ag9 qa.fn);let Hr:m' K a "RoadError" q o:=#[V9,#[6,6,6,Hh,C8,XK,XC],WE,VL,HY,Gh,H8,#[S6,Vr,To,TZ,Uh,TX,Ts],Uw]
 let Ig:m' K a "RoadError" i o:=#[V9,#[6,6,6,N,C8,XM,XD],WG,VM,HY,Gh,H8,#[Lp,MI,Lx,LP,L2,LM,Lz],Ux]
 let NS:m' K a "RoadError" j o:=#[V9,#[6,6,6,C6,C8,XJ,XB],WD,VK,HY,Gh,H8,#[Lo,MH,Lw,LO,L1,LL,Ly],L7]
 let m:uo K x:=#[p,Vh,Vi]
 let f:rf K C:=#[h8,Vf,Ve,Vg]
 let d:qv K G:=#[pD,U_,U',Va,U9]
 let AO:RN K j:=#[IH,#[Lo,MH,Lw,LO,L1,LL,Ly],d3,LY,L7]
 let p2:Bf K o [I8,H,I,q,j,i,I6,I5,u,I9,I7] i u:=#[Ŧ N #[Lp,MI,Lx,LP,L2,LM,Lz] IJ (ÿ L_ NN Wy (λ_=>rfl)) (ŧ xL Wz) x8 (gK.mpr #[#[6,_,Mj],(gK.mpr #[#[6,_,Mi],(gK.mpr #[#[6,_,Mk],(gK.mpr #[#[6,_,Hh],(gK.mpr #[#[6,_,C6],(gK.mpr #[#[6,_,N],(gK.mpr #[#[6,_,Mg],(gK.mpr #[#[6,_,Mf],(gK.mpr #[#[6,_,C7],(gK.mpr #[#[6,_,Ml],(gK.mpr #[#[6,_,Mh],(λ_ h=>bt h dU)])])])])])])])])])])]) UN,Ŧ C7 #[S7,Vs,Tp,T1,Ui,TY,Tt] II (ÿ L_ NN Ww (λ_=>rfl)) (ŧ xL Wx) x8 (gK.mpr #[#[6,_,Mj],(gK.mpr #[#[6,_,Mi],(gK.mpr #[#[6,_,Mk],(gK.mpr #[#[6,_,Hh],(gK.mpr #[#[6,_,C6],(gK.mpr #[#[6,_,N],(gK.mpr #[#[6,_,Mg],(gK.mpr #[#[6,_,Mf],(gK.mpr #[#[6,_,C7],(gK.mpr #[#[6,_,Ml],(gK.mpr #[#[6,_,Mh],(λ_ h=>bt h dU)])])])])])])])])])])]) UM]
 let SC:=RS.say (R:=#[y,M,SA]) (D:=#[SV,SX,SW,SZ,SY,S1,S3,S4,S2,S0]) #[SM,SO,SN,SS,SR,SJ,SP,SQ,SK,SI,Vz,VB,VA,VF,VE,Vx,VC,VD,Vy,Vw];let Mb:=Z.fn (aqD Jh Hr L T4);let MQ:=Z.fn (apV Ji B Ig L T_ Ud);let ar9:=Z.fn (ap2 Jg NS L d3 LY);let nc:=Z.fn (aho A.fn B n);let qV:=Z.fn (aju lp.fn B n);let WU:=Z.fn (aoW CV.fn xQ qb Gt qa Y8 r1 agg);let VZ:=Z.fn (alq CG.fn B);let aqx:=Z.fn (aoX CO.fn B xQ c A nc CV WU CG VZ Hr vd UQ Q_ UB Mb ata);let r6:=Z.fn (am4 lq.fn n yA Dg);let asa:=Z.fn (akS nd.fn B n yA DG);let V:=Z.fn (alj nd.fn B n);let CM:=Z.fn (aoM r'.fn B n lq r6);let VN:=Z.fn (alk Co.fn);let Cb:=Z.fn (alm u3.fn Co VN);let Y:=Z.fn (apl sD.fn n lq r6 u3 Cb);let vc:=Z.fn (aqc r.fn m);let u4:=Z.fn (aqd n_.fn m c yA Dg A nc qa Y8);let wA:=Z.fn (aqe oc.fn m c yA DG r' CM n_ u4);let asb:=Z.fn (aqg zt.fn m n_ u4);let O:=Z.fn (aqB r7.fn m n_ u4);let RT:=Z.fn (apW oi.fn m c lq r6 nd asa Ig oz UR Ra UC MQ atb);let asd:=Z.fn (aqq zr.fn B m);let aqy:=Z.fn (aon Cj.fn);let P:=Z.fn (aqj vk.fn B m c sP A nc lp qV r' CM u3 Cb Cj aqy r.made r vc oc wA);let ase:=Z.fn (ams y'.fn f);let Q:=Z.fn (aoE sh.fn f y' ase);let asf:=Z.fn (ame zx.fn f);let RU:=Z.fn (UV oe.fn f);let KY:=Z.fn (akU ll.fn f);let RV:=Z.fn (akR oa.fn f oe RU ll KY);let ash:=Z.fn (amT yU.fn f oe RU ll KY oa RV);let T:=Z.fn (amd si.fn f c nd V);let asi:=Z.fn (apZ CU.fn p Eu oz oi RT);let asj:=Z.fn (aqk CT.fn f m ll KY oe RU zx asf zt asb);let asl:=Z.fn (apU (aor Dy.fn B c CT asj nd V));let vH:=Z.fn (aou rg.fn B f xi sh.made sh Q CU asi ll KY Dy asl si T oa RV);let asI:=Z.fn (amX DX.fn B ot Y9 qb Gt);let asJ:=Z.fn (aox Cc.fn);let asK:=Z.fn (aoy Ck.fn B h8 c DX asI Cc asJ lp qV yU ash);let aqz:=Z.fn (aoO Dz.fn B f xi Ck asK sh.made sh Q si T NS pg UP Q' UA ar9 as9);let KZ:=Z.fn (apk kM.fn B h8 Dz aqz oa RV);let asL:=Z.fn (aoQ Dd.fn B);let aax:=Z.fn (aoR sj.fn Dd asL);let aay:=Z.fn (ao6 u6.fn B);let asM:=Z.fn (ao7 wC.fn B yA DB u6 aay);let asN:=Z.fn (ao8 Dw.fn B yA DB wC asM);let asO:=Z.fn (ao9 CY.fn Dw asN);let asP:=Z.fn (apI aay);let asQ:=Z.fn (ape HW.fn);let U:=Z.fn (apf wY.fn B u6 asP);let asR:=Z.fn (apg Go.fn wY U);let CD:∀g t,FD #[y,M,SA] g t->WF l.prog w K a b a9 3 g t:=by intro g t h;cases h;show#[6,asQ.mono x8,HW.bd,HW.fn.fK];show#[6,U.mono x8,wY.bd,wY.fn.fK];show#[6,asR,Go.bd,Go.fn.fK]
 let asS:=Z.fn (aqm Dk.fn B);let aqA:=Z.fn (aph CZ.fn B DP B1 CD);let X:=Z.fn (aqn u5.fn B);let RW:=Z.fn (aqo qU.fn B u5 X);let aba:=Z.fn (aqF r2.fn d p sP r.made r vc zr asd oc wA);let aqU:=Z.fn (aoY Hq.fn d pD c pG k.made k qY A nc lp qV r2 aba);let aqV:=Z.fn (aoZ Hu.fn B d pD c pG k.made k qY A nc lp qV r2 aba);let aqW:=Z.fn (ao3 (CW:=x) G'.fn B d CO aqx);let aqX:=Z.fn (ao2 HI.fn d p r7 O oc);let aqY:=Z.fn (ao1 G4.fn d vk P);let aqZ:=Z.fn (ao4 (CW:=x) HJ.fn d c sD Y u5 X);let aq0:=Z.fn (ao5 Hm.fn d p oi RT qU RW);let aq1:=Z.fn (apm HK.fn d rg vH sj aax);let aq2:=Z.fn (apn Hv.fn d rg vH kM KZ qU RW);let aru:=Z.fn (apo (CW:=x) Hn.fn B d AO pg CY asO kM KZ qU RW);let au5:∀g t,pZ G x E i u #[SV,SX,SW,SZ,SY,S1,S3,S4,S2,S0] g t->WF l.prog w K a b (iJ l.prog w) 8 g t:=by intro g t h;cases h;show#[6,aH.wide aqU (λ_ _ _ _ _ _ h=>h.elim) x8,Hq.bd,Hq.fn.fK];show#[6,aH.wide aqV (λ_ _ _ _ _ _ h=>h.elim) x8,Hu.bd,Hu.fn.fK];show#[6,aH.wide aqW (λ_ _ _ _ _ _ h=>h.elim) x8,G'.bd,G'.fn.fK];show#[6,aH.wide aqX (λ_ _ _ _ _ _ h=>h.elim) x8,HI.bd,HI.fn.fK];show#[6,aH.wide aqY (λ_ _ _ _ _ _ h=>h.elim) x8,G4.bd,G4.fn.fK];show#[6,aH.wide aqZ (λ_ _ _ _ _ _ h=>h.elim) x8,HJ.bd,HJ.fn.fK];show#[6,aH.wide aq0 (λ_ _ _ _ _ _ h=>h) x8,Hm.bd,Hm.fn.fK];show#[6,aH.wide aq1 (λ_ _ _ _ _ _ h=>h.elim) x8,HK.bd,HK.fn.fK];show#[6,aH.wide aq2 (λ_ _ _ _ _ _ h=>h.elim) x8,Hv.bd,Hv.fn.fK];show#[6,aH.wide aru (λ_ _ _ _ _ _ h=>QL h) x8,Hn.bd,Hn.fn.fK]
 let arv:=Z.fn (apB (ND:=z) (aY:=z) zu.fn Cp TD Dk asS CZ aqA au5);let asT:=Z.fn (aqL zv.fn d pD pG sP k.made k qY r.made r vc);let asU:=Z.fn (aqt C0.fn B L Ij Dl DC vd pg oz Hp HV DL Il Io);let abb:=Z.fn (aqu tL.fn B pD L IK zu (aH.MJ arv) C0 asU);let asV:=Z.fn (apT tI.fn B.len);let asW:=Z.fn (ahn CQ.fn B);let asX:=Z.fn (aoK C1.fn B);let asY:=Z.fn (amM CR.fn B);let abc:=Z.fn (aqR r_.fn B);let asZ:=Z.fn (aqw C_.fn B SC tL abb);let as0:=Z.fn (aqS y_.fn B AO pg kM KZ r_ abc);let as1:=Z.fn (aqr CP.fn B p Eu oz oi RT);let as2:=Z.fn (aqs CI.fn B);show-apH Jn B SC p2 IB pG c p zv.made zv asT k.made k qY tI asV CQ asW C1 asX CR asY C_ asZ vk P r7 O tL abb rg vH sD Y r_ abc sj aax kM KZ CP as1 y_ as0 CI as2
theorem walk{l:č}{p:b5->Heap->Prop}{m:bW->Heap->Prop}{d:DefRec}{K:Params->aL}(N:l.most=j3 63)(r:d.params.defaults=[])(t:∀(w:bW)(h:Heap),m w h->(K w.params).In h)(F:∀(w:bW)(c:b5)(iy:Addr)(h:Heap),(K w.params).In h->h.Ns sS c->c d.name=j3 (.ref iy)->
   ∃g:m3,(∀(s:aS)(u:Value),EK s g #[[u],[]] [("_law_script",u)])/\∀b:Heap,(K w.params).In b->b.Ns sS c->aH l.prog w (K w.params) c b a9 12 iy g ["_law_script"] (JM (K w.params))):
  ai4 q loose p m l.row.toRowW d [] (λf e=>Ě f e):=
 aq.ayF (n:=63) (k:=12) (x:="_law_script") (CX:=λ_=>a9) (sp:=λw=>JM (K w.params)) N x8 r #[2,8,8] t F (λ_ _ a V A _ L=>#[a,V,2,L,A,λ_=>rfl]) λ_ _ _ _ _ z=>z
end dP
#print"I5Y^+v}Ra{&]hC7Vz?Zc%~d8&8CYZp2s@64%)TVM2jz%Jr~e4+GZI$Cu=oBc63{wl#*`VL6IZL)8';/N;}tn]?7yaY#ckU52wIgtD},GS{kNWu.ZuzI0+bU(%P)+;F~-C),7>L{BU0#U,%c;lxhW$GKMKTJ`:(5o(&be$py:Hc*,:X00;Vdd%H<n6%^eyKMb9OzPDf-]$dk`a@~Y=9,,Ug9f1HdOBMryi4|(&zA>t|8n?jX'0^lcA6qBdV5,Yv&iHs7ZE,tJPsRO/=.ap$CB%EEB9-+~f.JfleI<iK=37LufL@lK3-`f4>/aTk#Jy5E*Ih9dZE[s9E'?iS~p_Fk$I1xfN9qCXR<*G+^#0-w8@)>PT|UU^kEd<{X}ap).@kE[:(VL]<.6AGqX|No'D/qi$l0dLi5Ovh8W?sfq:^uW@Yx1+{,6Z.xdP/-AAY-`Exa:m1$W%8rvm3}F?Rf)yQG6~v'$QvZ-AE;m=d3k#*2c<)?:kKW{RH'oFnI42(p+2,8Td#h+<J1-B|oV),6V1a=d&d'H^WEn2dWsY+d:aUAP6V%+DIY[9pX~pUIPh=2D4`W#i0a-HRtkqi`k)T.X.;&+r69MCoj>A>FYE,7~KO;S~w5;-h3s[b4=94*nTnevg$Bc7x:9vu^+r2B9q;U#r0B,LYP]xb]'5(3A'4hv:|A3L*%]0CABL;4w|1zD/_%.?oK?$UAf{b2Ecykv4v4a)I9?FmKyo_,PEHVZ[9P[:)zHA{@^d689kxtM/0ka*>8-kql]wZ8pY~$_#@e1#&A$>}B{J8E4MWmIoejX7=#BpO~|/MF#r;B.HF+m??mzisV#Z3@N+*.v(9qH.N-`i:cpZV)nyXdI}Nhi2[;hbARycH%YDYx|tv9W6s*L?ZLB:S'jAJ;FiO{MKJ{wYQkr`{.2.[S7/uXQFG[A^zc7Hr(]MYGFOM@`Lp6kMHHj0l%X0`R&'1$A.OV's#IonFKy~<I^eFtrJ]%R/iSm>R5b/@,I7SvF#[$LAVvAxJDmnv+v3[X^*u_h24Rvs-=@R4Qx3,8GM7wf:/&pKy)D/S_*'pBl)WMZ.vv-Kj?Rj2VK$q;g'?Vnw~|zIFDCu;D*=49z(*m/+RT]|{$7lARI=Ml4586kZ6y]-u@VcJ}THzX2EB{GkGE{GMLar'fmKoIg0R*K})@~1:+H(zr)^V0}5w#Ez2ug)m#l~e)Q{AyS:NKuZD9ZSuIHn=o$Z^-2.%V6J=~bD'24o+lg4m%5$St-DRC$f]G4zo{*hVjq#ITSXrkrr?$0qtFW]O&VJU'W^oSc.f72ps)dp&'381vSdJ>a_Z3fS|f(|Hcc;UR3Z.JXMJ?:frwjl(S)'6xt52WS(h#=2Qf&+{H480>2J}{:>})PNndg>{;/.prb}f6{cr*%_q~Y6'(B+BofH_AEGS+(:UbuCPWECn{g0v{$Vw/F-.9GLhpM1NF]{5}BV)$nx22#X`5~(C`i4ps((g'G}VRG/`/92mYqTo=]/$/5q'-b=)'jHm5?Xmx5hDFvaLX9Hva};iL:k'6X]Y=LdIQZ6)UJH5myq8+sq*50v[:S,.3$+h(~op*Tv~E-c|]hNN||2swTkyMDm[&`QQhZ7*mH6`^$cx_m(RKK2N|~tvL.8~gFl'W9&k<^^A*;(gcV1}(/{xN,8f1u'ZiM{c198Ox=wPNU%/I%jPa64|L0@<Uv*IO'l]/91lB[wBiF9QfL?Q?mpz27&9LzJT=k<1Cwh(FrA^Ln6T92o/>f?^g(Tu+fgBH3)cd}8D{~#Her([NE>TJwGoqqQj%%>jrP.]0v<%@fz$>DKg=8HY3v+z1gv]+/Smu`cy#K;bz'bP/Ex_%e0)(&big}GDmT+^8Ft=M:YOX9_g79)f5Z?x4txv,_]p>|18(2(@|E=~aj#u%J~OY*)#{MH-4{L+<7?LBZeRo`QDCu3VIUlhIA0i?x/y-u>1#X@Y&dR#8COI9{Jcu(T}KpDmk7&lv>?m+9AnbR^>k-;cfa2&&M)XG{#+%'3iA2*TIRe]1(;11zOI)(4hb/EDmL6{jt_(Bm*n:Jvi~:(/^)X2{5/?3.M<xo*=7G%]5+eRD@QTHw-FsGB_J>LgC|xkhJKW8}>Ely>Nl[.&[%;V|]Ff0uzXlhz&rGEqOcR-@X^B<~B<8A`G;?*re'{=f$;hFfio{odC;PKqKVH^[G.-AQ|=M^~x1XB5b;A8vo+m5cG`iZ*Sac0Rdbfj>p2B@`{doMx?li4fr2PKRxem7}0+KLu.EF%BeAat3s{T=16w^n*Np[GD0R^O.e3=);`FME'2/4)L~d0It;Uw8<pDH|0_~m-@vovqX,=A*`M.U*,Te1$b-)EWQ4cp4s1.&,EO&E@Pb'KmW;MXMpQbx2t1k(LA;<z70X$l+G-`syP/iD&g|yIiKLAg,|X*_a}dEm<VQNHD1voe5SDJ'OO}KVK5I_O;9iCD1sBW|QF;z'3`%R6jtu1~I+G,Wk.p=_8R<s@#oSyV:]k~1ON2J)(?J;oO_PSn(fja.smyQ',Q1u&//Ab14*R3MW}f]03;kIqAbIQo(0m:nuwPGAA#=G]m_IQ&<c|:+c<Aaw>~CFM_t>>zAia`Sw;&*+/)^FScFIF%<P+(nBytr1KRye-'L@,R@>txCo4$a#?zMM@fK<=^&C>~='Wa]5Cw|6^R.wsm:s;u%i+Hgg8p:BYYP:mLN'B:)Q_,17#Xb7TMd|+KCjujG~n}@H?qEvbQ~uAnBe/7pvskIVEu+)V`y>KHL&N3VpP97cFKxIH_J$)oM*m$Saq13N4y*;qW[>CrGkT<K&t~r_)tpXzXiayI;;{dj[%|Yf>|..5J,}/^K]og&r`YmbEsyn~LTzBf9><7$'HO6Y$Rla*bOxwh,V|k)PRfyn**1wT'rp.=6GjydAHOo($L0DG&sK_.$F:e#+T3in&</9@M(0fz)x#Az(U0E94|C&mMfqM(MnBv)gmKr>4xj6^_;rsT(2]jvwX5Vh&1;o$z7Umr4[m~W.*J}['bHZl1)9rbK&i>@VRoD];8zE3}X}h,9w7N0ETyBI?>{lSRgL|J.P,j5*CW-G=CM&US0IWp8Ll:9igz5<7E%Dazp-,(K{{)Q{D}evL*j99<yPb9@6K}yS<@kO-9:cCIz.&/+ij<^&4PIEJATr4i7`+bESK'|13.By#L3U7Lh,j%*q?ao&Jn7y1n-4Z'G/E6KcnW5U?N.#Kq}K@&&+Gm+G,:B`Zf/z$~(2ao@Lh7&SA$^7(Db3J'TIm:G)<s0aF[0tKLJDEN'wZk5,>{FLTP|'}#N8:DsAF.({jH1=vS8Iu7,`;q,-gW8is;*Ir1y^rwfE?G@(7oW02aAr3@ceC41M0UzGK6Y_TU+FAM?4>g|~GWwf@y~<+I2oj`O2|$<CJEV02aM.qv6N%`U%=eaZMOMn/pgY:i@eu9.VZ8GwMak1kD46t~Bw=P:^pMF^Fv4Q$~B1;=3)sk*=M3oXM#Mja|=[N6;4wN(0H}`{@AA7$o'~2kMe-kPoPHG>3s@VEvEjfr3CBpOE:s8xK1Kz=NPowUD<~cp2Dcqd$<LQE,a`GJ#U;G1?y)v$FUf[X_Hy&,'u4aqqB`v0DMjVby./QO=1=#rFF/2lL'/B~[GEfq@t1t,3%=/c4V-#K,XWAS*wD`1x6Vr]:kC=m*JZfn8mMLkZtR5jD>jut%;$~YDGadv,=Z/OL5H&R+QZ+pH0EN5fgxk}=nBwgP;J5b9]zuOmY))f2v*E(~6U*K7I@|I3;,6lH`TBD/Goe4#`Ft&S2JTW;,`y9y?:SO8OR#dOU;(J):[P,_<-h,=pjqb.r|pk%?aNz%9]1JBoR;nj'+)f>5V[i^jjr=3e<#{NrsD,L~_eiU=}>)8-Zi-;puO,4l4b-X1z<a6P9kft@R'H.`9Tcc9~t+#'iX`#.Oy$AdSqSoWEx|(G'[[l:Xsx)#o5r@#UVuA^3jOU9%h{1Q>URXXaBP5~=mPt&1)z;_dG>2`,`s=lkB*yWy#BKz|>#cDVBpDSDiPBU<?R3HgFvPjuLdHKMti[EAdE?1GsV)x^OD(>S0d^tUF1/QI?*/w*]}9z.^Boj:';7QgF#4mrr*:FWFRHS6oS%BBMQc~I:T:Sddj>sfZ#:^y_{/fi3f;<k+tqg.*Q;O|v<:GUs^%MMHqu'lp]%O']8/^6gz<%NYvlgqMi%Rmt6.(sj7<E|Ep0qvW,=3sY]F?PSM>Ck)1Ee:^,@52?:<T{:o&&|7{P[T<FAghXy?xVivC2$%7UBUzMCgfVY7{ud1Cixd^*IdvqCn3')w`vFUDHeF{kosV9&C2&'Y]8UIDo>EBeMsA2EG#%zw;iP_EiZY31t?fmEsNhd5esqWEu)(e~#:J>FZ_956|`7NF`0_yk}:<7F`WVo>zJ=eFdNHCCc0@'G$>aMTB0oX&^VdN#8/I0Go@;[=-~:&H#`dALt7}KH2v-&NAlE@#E%%ZugoU&Hx<>BBm9UBI;[M?oZoWnI=#JPXXoNdIA=BU-QV^GIIBOv/L*51IVjD(R8QRPJ+Mgn34YV^K5>tQ1I%wCK:bsUDl&f`KU50E&fCt@'(]akrMc0AKbhmk|xhb}K{WnpyWI3sL(d^pY`8M2L+Gtnr[5JeLX89YH3v|bLa|5-or7GELmU$+MHQb0Ltk3##BGb2Md5c='P>53N$H|'E.2sr'LL)]gA+$u#Kj?>2Ia,['_x'/>WY}=(3=|;GrQMV(;#QIfS*^o(>B2g;/`6m#SLbrjpFWO([:~t1a>FN)A7e$y`HSG)hWIB6s>xU)tzVlr|.Jt#c3qMI3,:2*?4.+/)WY**^a/k@fF2?+GE0wJSw2_,/ydR#89(o,;*tCqCk{x#|C%Xj>$gs-'V3PGZWgn-(S{HHK_J|-HC@]AATOD-R_A;$AIKm-Y;h1]:5sS-^I%JZ&k1r-ruAtKQ'{l.CU+ACKYo}$1.}&uflAb.Zopc@y'{d$1~bg{%o#)$7q&lW8%85/RV~s8ePn$/f/1iM_v0q/j.ti9]*^e/k{h9<fq1&0:qeG<}&540Gd2~=fC}j0M+alLHN:~1=n#&|j$bd1G*7gm(=>k#0PD553Ml$$Q,Zc)7VN_2Ds||}h>ob2V^(/h,Il*2|QQm2?#i83.bMHSz48z3Cw:F:u7GJ3QoUFll_}j3Yl<x),B[F3dK.s'LZ*|3f`OWuN7C43hU+BW4QT)40r=V@&F.y4?C=($tKsI4?mjDM?KpE4BZgF1aa&j57;a6Ppzh=5b]f+)n%EW5f'@9LS`ql5{/Z7V82Pk6)Qr6FW{m_61Vu}*4ZzM6KZ)[s%/v#6xX(ulREAi7*F'-ZV-jY7:ve5b'5gz7@,?SGgs)c7@6vv1295T7]5c$l7GCn8+RzL1cTBA8?`'&l;d.C8@&PujDEu#%/SmJ<3:/B8bp(p3>A*98lu%Ij6+x*8o:|n9?,$=8}Ekeuz_kE9+8u8O~GEG9K5)0VH=>[9t#Do,=UQ_J&#Bo$R]jm:#b8-vSl'e3gs2O%2)pZC'A_7@uSTQ/4u%Ev>}B4I';GXjg8C;>G/><p6M|C;:LI_&Ab%+Dt)S0#qih?@;t@=9,Oc,=_6{Ea+>0LL@$;?,+]^k9pa?6z)jir1=4Z:sgQNm3@/Q$lc%o9#087Y{WK`0<|@Vu&n*j61x^AHfI=Hm;*lB9&2m1r3MHR8P;+%/L9(.@MT-MJ-^=%}1N15;CmY22zn7xh+np>&0NbK33(:Dv+QmrgAjIs=G=,>AGKgVHZ7On+I0LVT3uTb&H2m5w`cFe%BqT/@x~O7J$}$+#->)<+>@G7f[Uv)$MnYV+;i^il4i;<EkEk=@?OlIEdfwx-1cf0rvB2)R;hIJUd=2,S6BAfHSrL.,&3,>$Y.-:w2HL[F}<*0jF*Go;tp/{v&VI|lgw6kR5E|:c?VFD`;U9BSv3Ft]5f7;9K?=1q+'_DF:[#qh92Gv6<|5eKG18B,Fi0fP-)L;ax4?Og6|$/`GZ/C>@M[#5dkvqF9$*KZf){(+M(J=SP[XR+DR?C:Kq3v$MsO'p|}j6^-+}Z5&ptr|%j^Ni/2D,2;M`1,c+>J>?i*J`#M1ne%@yNF4*^'U5'R3n7cCfS0Bm|+B+#QU(JI,n_Ie2@-_cPe-#_bBJ8d~nC~Txj+]7->H.P$LHjX`VU_Q]..q$UA/?~n]Erk}V4m3+v/^/-l$%(;B&h~+G]3I9M)Za3f3m5Z>;4.lVGT4EGGj##j/YlC%%YI,@3KK6+.KjGmGMX-{0eFtYZM/KP3S)xT#U'x~?hx@gS6p[&AS'$q4Vo=dHj#6<%0icJ2O:DPfaPAmII2Oft..-s0d@Qi&(by intro z;cases z)<&GkM[TS=?fg%O~bM3naol5NA,KNi6KN0EYki3~Lx=/Gbn9#j4wYD[U,v9*m/GK|M1n>15e>0@a*+avtk6>XNsv|sLY#79[,+]p}^y?4`Ky~blJr$7eO'6,,#l+q_S4&>g.v>=I_P+a@$M7Scs<0fuAy,K-B'`,<5#JyY:W:s]~aAL4XyO)RAnGl88xO@78ICK@cl-k$>A$Cy,I6%+#f)B0e}d&:B,Cb-uMg*0i5#&E~:<Q{Fv*:;'ef8G's7QR5oPSj`}+Sf+C~ah)GGlUBfLUjHl@JbboXT72f.N;qh%L_0<']6>`((vo*:i'b]Eo'DI=INi#Bcgvc3E*yG,(s^}:#q~l+nI>YK%0FhZat&.FDRv;e,[(D-c66bmDq{f2/<-kYt8%RB)kr%B=rU5)2TpRFe(GaK7wT8qOCYL@(6h&BM<]v8k9:dK];>D.VQX<aUvl6B-}3#icZA(4[6@#Z._MdJ%nuM,7lzw-YvWhfF@xI"
end
theorem K1.glueM {A B C : Type} {f : A → C} {g : B → C} {l : List A} {r : List B} (n : Nat) (h1 : (l.take n).map f = (r.take n).map g) (h2 : (l.drop n).map f = (r.drop n).map g) : l.map f = r.map g := by
  have e1 : l.map f = (l.take n ++ l.drop n).map f := by rw [List.take_append_drop]
  have e2 : r.map g = (r.take n ++ r.drop n).map g := by rw [List.take_append_drop]
  rw [e1, e2, List.map_append, List.map_append, h1, h2]
local macro_rules | `($f:ident ($_:ident $k:term $a:term $e:term)) => do
 let f := f.getId.eraseMacroScopes; let b := f == `Hook.obs
 if b || f == `Hook.val then
  let mut c ← if b then pure a else `($k w.params)
  let mut o := #[]
  for i in [0:8] do
   let t ← if i < 7 then `(List.take 160 $c) else pure c
   o := o.push (← if b then `(List.map s.heap.get? $t) else `(List.map (fun p : PySem.Addr × PySem.Obj => some p.2) $t))
   c ← `(List.drop 160 $c)
  let h := o[0]!; let r := o.extract 1 8
  if b then `(fun s : PySem.Shared => ($h, $r,*)) else `(fun w : PySem.World => ($h, $r,*))
 else if f == `Hook.of then
  let mut x ← `(x); let mut o := #[]
  for _ in [0:7] do {o := o.push (← `(congrArg (fun x => $x.1) h)); x ← `($x.2)}
  let mut r ← `(congrArg (fun x => $x) h)
  for y in o.reverse do r ← `(K1.glueM 160 $y $r)
  `(fun w s h => PySem.W.InK.of $e w s $r)
 else Lean.Macro.throwUnsupported
open PySem PySem.W PyProof.Rows
set_option maxRecDepth 100000 in
set_option maxHeartbeats 0 in
theorem PySem.Challenge.cw_postroad_k84_asked_at_the_desk_holds : PySem.Challenge.rw_postroad_k84_asked_at_the_desk.Holds := by
 w_on;o_law;k_head;(case hw=>w_witness2)
 k_fill
 refine dP.walk (l:=az8) rfl rfl (λw h Y=>PySem.W.kIn_of Y) ?F
 case F=>
  intro w mg iy h qK G GR
  refine' dP.all_mk GR ?pG ?sP ?xi ?IB ?lZ ?Ij ?Dl ?DC ?vd ?pg ?oz ?Hp ?HV ?DL ?Il ?Io ?eZ ?Vc ?Vd ?lr ?iV ?lp ?nd ?r' ?lq ?sD ?hb ?Vh ?Vi ?oj ?oc ?r7 ?zt ?oi ?zr ?n_ ?h8 ?Vf ?Ve ?Vg ?sh ?y' ?si ?zx ?oe ?ll ?oa ?yU ?pD ?U_ ?U' ?Va ?U9 ?zv ?zu ?r2 ?ot ?r1 ?qb ?qa ?DE ?CL ?DF ?C5 ?CV ?CG ?CO ?u6 ?Co ?u3 ?Cj ?vk ?DX ?Cc ?Ck ?Dz ?kM ?CU ?CT ?Dy ?rg ?Dd ?sj ?wC ?Dw ?CY ?HW ?wY ?Go ?Dk ?CZ ?u5 ?qU ?Hq ?Hu ?G' ?HI ?G4 ?HJ ?Hm ?HK ?Hv ?Hn ?tI ?CQ ?C1 ?CR ?C0 ?tL ?r_ ?C_ ?y_ ?CP ?CI ?RX ?Jn ?C8 ?Mj ?Mi ?Mk ?Hh ?C6 ?w1 ?Mg ?Mf ?C7 ?Ml ?Mh ?Q_ ?UB ?Jh ?Ra ?UC ?Ji ?Q' ?UA ?Jg ?XI ?XF ?XG ?XH ?IK ?IH ?Eu ?IJ ?II ?W0 ?W3 ?W5 ?W7 ?W4 ?W2 ?W6 ?WZ ?B ?XK ?XC ?WE ?VL ?Uw ?UQ ?S6 ?Vr ?To ?TZ ?Uh ?TX ?Ts ?XM ?XD ?WG ?VM ?Ux ?UR ?Lp ?MI ?Lx ?LP ?L2 ?LM ?Lz ?XJ ?XB ?WD ?VK ?L7 ?UP ?Lo ?MH ?Lw ?LO ?L1 ?LL ?Ly ?HY ?Gh ?H8 ?d3 ?LY ?T4 ?T_ ?Ud ?S7 ?Vs ?Tp ?T1 ?Ui ?TY ?Tt ?L_ ?NN ?Wz ?Wy ?UN ?Wx ?Ww ?UM ?DP ?Cp ?B1 ?TD ?SM ?Vz ?SO ?VB ?SN ?VA ?SS ?VF ?SR ?VE ?SJ ?Vx ?SP ?VC ?SQ ?VD ?SK ?Vy ?SI ?Vw
  (case pG|sP|xi|IB|lZ|Ij|Dl|DC|vd|pg|oz|Hp|HV|DL|Il|Io|RX|W0|W3|W5|W7|W4|W2|W6|WZ|DP|Cp=>refine' ajh qK G ?z;(case z=>k_is))
  (case eZ|hb|h8|pD=>constructor<;>k_is)
  (case Vc|Vd|Vh|Vi|Vf|Ve|Vg|U_|U'|Va|U9|C8|Mj|Mi|Mk|Hh|C6|w1|Mg|Mf|C7|Ml|Mh|Q_|UB|Ra|UC|Q'|UA|WE|VL|Uw|UQ|S6|Vr|To|TZ|Uh|TX|Ts|WG|VM|Ux|UR|Lp|MI|Lx|LP|L2|LM|Lz|WD|VK|L7|UP|Lo|MH|Lw|LO|L1|LL|Ly|HY|Gh|H8|d3|LY|T4|T_|Ud|S7|Vs|Tp|T1|Ui|TY|Tt|L_|NN|Wz|Wy|Wx|Ww=>k_is)
  (case lr|oj|sh|zv=>refine' dP.av2 ?a ?b ?c ?d ?z ?y ?x ?u;(case a|b|c|d|z|y|x=>k_is);(case u=>intro _ _ _ _ _ _ us au;first|(obtain⟨_,rfl⟩:=dP.UW au;rfl)|(obtain⟨_,_,rfl⟩:=dP.Mm au;rfl)|(obtain⟨_,_,_,rfl⟩:=dP.Hk au;rfl)|(obtain⟨_,_,_,_,rfl⟩:=dP.UX au;rfl)|(obtain⟨_,_,_,_,_,rfl⟩:=dP.UY au;rfl)))
  (case iV|lp|nd|r'|lq|sD|oc|r7|zt|oi|zr|n_|y'|si|zx|oe|ll|oa|yU|zu|r2=>refine' dP.awt ?a ?b ?z ?y ?x ?u;(case a|b|z|y|x=>k_is);(case u=>intro _ _ _ _ _ _ us au;first|(obtain⟨_,rfl⟩:=dP.UW au;rfl)|(obtain⟨_,_,rfl⟩:=dP.Mm au;rfl)|(obtain⟨_,_,_,rfl⟩:=dP.Hk au;rfl)|(obtain⟨_,_,_,_,rfl⟩:=dP.UX au;rfl)|(obtain⟨_,_,_,_,_,rfl⟩:=dP.UY au;rfl)))
  (case ot|r1|qb|qa|DE|CL|DF|C5|CV|CG|CO|u6|Co|u3|Cj|vk|DX|Cc|Ck|Dz|kM|CU|CT|Dy|rg|Dd|sj|wC|Dw|CY|HW|wY|Go|Dk|CZ|u5|qU|Hq|Hu|G'|HI|G4|HJ|Hm|HK|Hv|Hn|tI|CQ|C1|CR|C0|tL|r_|C_|y_|CP|CI=>refine' dP.atw qK G ?a ?z ?y ?x ?u;(case a|z|y|x=>k_is);(case u=>intro _ _ _ _ _ _ us au;first|(obtain⟨_,rfl⟩:=dP.UW au;rfl)|(obtain⟨_,_,rfl⟩:=dP.Mm au;rfl)|(obtain⟨_,_,_,rfl⟩:=dP.Hk au;rfl)|(obtain⟨_,_,_,_,rfl⟩:=dP.UX au;rfl)|(obtain⟨_,_,_,_,_,rfl⟩:=dP.UY au;rfl)))
  (case Jn|Jh|Ji|Jg=>refine' aq.y6 ?z ?y ?x;(case z|y|x=>k_is))
  (case XI|XF|XG|XH=>k_exc)
  (case IK|IH|Eu|IJ|II|XK|XC|XM|XD|XJ|XB|UN|UM=>decide+kernel)
  (case B=>constructor<;>(refine PySem.W.mg_none_of qK G ?_;k_is))
  (case B1|TD=>refine' dP.ayr ?l ?k ?s;(case l=>k_is);(case k=>repeat (first|exact n8|refine And.intro ⟨_,_,rfl,rfl⟩ ?_));(case s=>decide+kernel))
  (case SM|SO|SN|SS|SR|SJ|SP|SQ|SK|SI=>refine' dP.aue ?y ?z;(case y|z=>k_is))
  (case Vz|VB|VA|VF|VE|Vx|VC|VD|Vy|Vw=>k_is)
