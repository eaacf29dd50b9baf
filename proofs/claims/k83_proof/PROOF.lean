import PyProof.Rows.All
import Wide.All
import KE.KIsAll
import KE.KItem
import OpenK.KMore
import OpenK.Peek
import OpenK.KCls
import Open.Head
import OpenK.KLine
import OpenK.KOwn
import Wide.FinOn
import Lean
import PyProof.EqAt
import PyProof.EqKinds
import PyProof.TupleCall
import KE.KEqDict
import PySem.Str
import KE.KIntText
import PyProof.SliceList
import KE.KDictOf
import PyProof.SumWalk
import PyProof.Rows.ZipGen
import PyProof.Rows.SeqMore
import PyProof.Rows.TupIter
import OpenK.KTop
import KE.KSortTup
import KE.KPairComp
import KE.KMinKey
import PyProof.Rows.SortRuns
import KE.KDictLaws
import KE.KDictSum
import PyProof.Rows.SeqMore2
import KE.KRevIter
import PyProof.FactsAll.range_2
import OpenK.KWalk
import Wide.Tac
import Wide.Line
import Open.Line
import Open.Pieces
import PySem.Challenge.RW_postroad_k83_what_stands_at_the_desk
set_option Elab.async false
set_option linter.all false
set_option maxRecDepth 100000
set_option maxHeartbeats 4000000
abbrev bk:=@absurd
abbrev bz:=@if_neg
abbrev bO:=@if_pos
abbrev b4:=@decide_eq_true
abbrev cM:=@decide_eq_false
abbrev ek:=@congrArg
abbrev pE:=@beq_iff_eq
abbrev rl:=@of_decide_eq_true
abbrev yE:=@beq_eq_false_iff_ne
open Array renaming toList_inj->DX,all_eq_true_iff_forall_mem->PH,append_assoc->PI,length_toList->PJ,getD->Yp,getElem?_eq_getElem->Yq,getElem?_eq_none->Yr,toList->Ys
open Bool renaming false_ne_true->ei,and_eq_true->ie,eq_false_iff->kk,false_eq_true->rF,false_and->tc,true_and->vc,eq_iff_iff->DZ,and_false->H6,and_self->H7,not_eq_true'->P1,not_true->YB,or_true->YC
open Char renaming toNat->YX
open Classical renaming choose_spec->Ie,byContradiction->Qc,choose->YZ
open Decidable renaming byContradiction->Y_
open False renaming elim->iJ
open ForInStep renaming yield->Iy
open Int renaming emod_nonneg->lF,le_refl->nq,emod_lt_of_pos->qv,toNat_natCast->qw,toNat->vD,toNat_of_nonneg->vE,zero_add->xY,eq_ofNat_of_zero_le->Ed,le_trans->Ee,le_of_lt->IG,min_eq_left->Z',ofNat_le->Z_
open List renaming length_map->cj,mem_map->cw,not_mem_nil->di,forall_mem_cons->dj,getElem?_eq_getElem->dW,mem_cons->dX,getElem?_map->d0,getD->eb,length_append->eS,map_append->fk,length_cons->fV,mem_of_getElem?->f_,getElem?_eq_some_iff->gn,size_toArray->gp,range->gN,mem_singleton->gW,map_cons->il,mem_append->ip,map_map->jK,mem_append_right->my,mem_cons_of_mem->mz,nodup_cons->nu,nodup_nil->oq,any_eq_true->pg,mem_filter->ph,append_assoc->qx,getElem_mem->qy,all_eq_true->rL,getElem?_of_mem->rM,mem_range->rN,length->tq,lookup->tr,mem_cons_self->ts,append_nil->vH,pairwise_map->vI,length_nil->x_,length_take->ya,mem_append_left->yb,replicate->yc,take_add_one->yd,take_length->ye,find?_cons->AK,map_congr_left->AL,pairwise_iff_getElem->AM,range'->AN,any_cons->Ej,filterMap_cons->Ek,getElem?_append_left->El,length_eq_zero_iff->Em,length_pos_iff->En,length_range->Eo,nodup_append->Ep,sum_cons->Er,toArray->Es,countP_le_length->IT,drop_drop->IU,drop_left->IV,ext_getElem->IW,filter_append->IX,forIn_cons->IY,getElem_of_mem->IZ,length_filter_le->I0,map_nil->I1,mem_filterMap->I2,mem_flatMap->I3,mem_iff_getElem->I4,all_cons->Rz,all_map->RA,countP_pos_iff->RB,filter_eq_self->RC,filter_map->RD,find?_some->RE,getElem?_cons_zero->RF,getElem?_set_ne->RG,getElem?_set_self->RH,getElem_map->RI,length_drop->RJ,mem_of_find?_eq_some->RK,mem_range'_1->RL,of_mem_zip->RM,range_succ->RN,take_of_length_le->RO,any_eq_false->ß,cons.inj->à,cons.injEq->á,cons_append->â,contains_cons->ã,countP_cons->ä,countP_eq_zero->å,filter_cons->æ,forIn_nil->ç,getElem?_append_right->è,getElem?_drop->é,getElem?_eq_none->ê,getElem?_range->ë,getElem?_take_of_lt->ì,getElem_toArray->í,length_flatMap->î,length_singleton->ï,mem_of_mem_drop->ð,mem_of_mem_take->ñ,ne_nil_of_mem->ò,range'_append_1->ó,sum_append->ô,take_sublist->õ,zipIdx_cons->ö,zipIdx_nil->ø
open Nat renaming le_refl->cL,zero_le->ej,ne_of_lt->eA,le_trans->e1,lt_of_lt_of_le->i1,le_of_ble_eq_true->ov,le_of_lt->qB,lt_of_le_of_lt->qC,lt_irrefl->rQ,ne_of_gt->tu,lt_or_ge->vM,lt_succ_of_lt->vN,lt_succ_self->vO,toDigits->vP,le_of_eq->A1,le_succ->A2,lt_trans->A3,pos_of_ne_zero->A4,min_le_right->Ew,not_lt_zero->Ex,succ_ne_self->Ey,succ_le_succ->Ja,le_add_right->R6,mul_le_mul->R7,strongRecOn->R8,succ_mul->R9,toDigits_of_lt_base->R',zero_lt_succ->R_,div_add_mod->ĕ,le_antisymm->Ė,le_of_lt_succ->ė,le_zero->Ę,lt_of_succ_lt->ę,min_eq_left->Ě,sub_self->ě,toDigits_append_toDigits->Ĝ
open Ne renaming symm->d3
open Option renaming some.inj->fG,map_eq_some_iff->iq,isSome_iff_exists->pq,map_some->Jk,isSome_map->Sp,some.injEq->Sq,none->Ķ
open Or renaming inl->ct,inr->qE
open Prod renaming ext->A'
open PyProof.Rows renaming seqObj->m8,envOfC->oG,AllBare->rE,IsTup->tn,IsTupIter->Ay,callWith_type1->A_,IntsAre->Ef,kmk_tree->Jp,SortKind->Jv,slot_tupleiter_next->NW,Subscript_->S2,subscriptTail->WX,callWith_builtin1->ő,args_tupleiter_next->afd,callWith_builtin_kwB->afm,entry_tupleiter_next->afC,get?_update_seq->af3,subscriptTail_builtinR->ai4,setObjOf_fresh->akL
open PyProof.Rows.F renaming plain_set_update_loop->Sv,entry_set_update_loop->Ő
open PySem renaming wpAny_bind->aq,wpAny->aN,Shared->aO,model->a_,wpAny_pure->ba,Str.ofString->bK,World->bU,Value.ref->cg,Program->cA,Heap.get?_push_of_some->c9,Heap.lt_size->c',Around->dn,starEach->dt,argBest->eF,Value.none->eT,Heap.get?_push_size->eY,Str->fx,Paired->fH,pyNext->gT,backTo->gX,wpAny_mono->hf,bootBuiltins->h0,Heap.get?_update_other->ik,Heap.SameBut->iK,Str.empty->iN,PyData.eqv->i2,compareOp->i5,rawInt->jg,IsPair->jq,codeAny->jv,wpAny_holding->jH,wpAny_letGo->jI,PassesOwn.never->jL,sysModules->kg,wpAny_loadPart_at->ki,wpAny_seqItems->kj,backToKw->kv,keywordEach->kI,plainId_quiet->kO,wpAny_tryCatch->kU,codeAny_builtin->k_,wpAny_field->mf,Around.under_plainId->ml,IsZip->mx,Model->mC,wpAny_call_entry->m_,wpAny_truthy_bool->nc,FuncData->ni,Heap.get?_update_self->nj,Result->nz,seqItems?->n6,wpAny_newObj_type->og,wpAny_of_eq->oh,PyData.depthAll->ow,PyData.strOk->ox,Value.int->oB,holding->oO,DictEntry->pe,Heap.size_push->pf,PyData.depth->pv,codeAny_mono->pK,mainGlobals->p2,wpAny_updateSeq->qn,Value.builtin->qI,wpAny_call->rB,PyData.canLayAll0->rS,field->r8,tupleKind->sT,wpAny_setField_rec->sW,CmpOp->th,Paired.length->tv,Value.str->tG,Value.type->tH,Walks->tI,atKey->tK,binaryOp->tL,sizeLine_eq->uR,standAt->uU,wpAny_dictEntries->u7,wpAny_pyIter_list->u9,wpAny_rule->u_,CmpOf->vl,ExcBaseFacts->vA,IsItemIter->vF,Keyword->vG,NameKind->vL,argsOk->v5,assignEach->v7,behindInMarks->v9,bindC->v',bindL->v_,updateSeq->xB,wpAny_Call_Name_kw->xH,wpAny_attempt->xI,wpAny_callSpecial?_slot->xJ,wpAny_fieldsOf->xK,ClassData->xQ,Data.cell->xR,Obj.mapSeq->yk,OwnTail->yl,PyData.canLay0->yn,Within->yr,Walks.list->yB,attributeBase->yD,callWith->yG,call_meets->yH,callerA->yI,excClassObj->yR,getMethod->yW,setField->zW,swapsWith->zZ,tupleKind_room_in1->z4,valueAt->z8,wpAny_passesOwn->z9,BindsTo->An,Value->Bd,mem_of_lookup->Bh,Value.bool->Bo,assign->Bq,codeAny_call_builtin->Bu,entryOfKey->BC,firstArgMember->BJ,getItem->BL,isTrue->Cd,newExc->CI,pyIter->C5,setAttr->Dl,typeIs_str->Ds,wpAny_dictEpoch->DJ,wpAny_execs_nil->DK,Data.fields->D3,IsRangeIter->Eg,bindArgs->Fe,isInstance->F4,preSum->GC,relabel->GY,wpAny_setField->HJ,wpAny_standAt->HK,Code.quiet_builtin->Ig,Heap.ExtBut->ID,Obj.data_mapDictKeys->Je,Obj.data_mapFields->Jf,Str.append->Jw,Str.ext'->Jx,Str.length->Jy,Value.isStrOf->JP,ZipApart->J8,call_meetsIn->Ki,foldedSetIterable->KY,instanceDict->Mk,letOwnedTupleGo->MG,refuseLoop->NH,richCompare->NK,subscripted->N9,wpAny_isOneOf_itemiter->OY,wpAny_isSubtype_exc->OZ,wpAny_notOrdered_dict->O0,wpAny_typeNameOfWhole_itemiter->O1,wpAny_typeNameOfWhole_keyiter->O2,wpAny_typeNameOf_itemiter->O3,wpAny_typeNameOf_keyiter->O4,Around.under->PG,Code.isFrame->Qe,Heap.FlyingW->Q1,Heap.MadeExcOf->Q2,Heap.get?_none_of_le->Q3,Heap.get?_update_ne->Q4,IsItemIterOut->Q8,Within.cons->SO,call->SP,frameOf->SQ,Shared.TypeIs->S0,Value.float->TG,builtinsNs->Ue,cellsFrom->Uj,checkBuiltinCall->Uk,closureFor->Um,codeAny_of_tree->Un,entryPlaceOf->Uy,getAttrBy->UP,isSubtype_stop->VI,noteFrame->Wc,onTheHeap->Wm,raiseStmt->WC,refuseLoop_ref->WD,size_of_entries->WM,sliceBounds->WQ,slicePicked->WR,strKind_is->WW,wpAny_Call_method->Xv,wpAny_Name->Xw,wpAny_execs_cons->Xx,wpAny_handled->Xy,wpAny_isInstance->Xz,wpAny_isOneOf_keyiter->XA,wpAny_newTuple->XB,wpAny_onRaise->XC,wpAny_pyIter_rangeiter->XD,wpAny_pyIter_slot->XE,wpAny_throw->XF,Heap.get?_push_at->ZJ,Heap.get?_some_iff->ZK,Obj.cls_mapFields->ī,Obj.isFreed_of_dict->Ĭ,Obj.isFreed_of_fields->ĭ,PassesOwn.leaving->ń,Addr->Œ,Within.nil->Ų,evalArgs_none->ų,intText?->Ŵ,behindIsImport->afi,fastBuiltinMro->afN,numbered_texts->aif,pastItsLine_dict->aip,plainObj_wpAny_Assign_Attribute->air,raiseErrorWords->aiH,sliceRange_one->aiZ,slot_list_getitem->ai0,wpAny_Assign_Name->ajL,wpAny_Call_method0_late->ajM,wpAny_Compare1->ajN,wpAny_Dict_empty->ajO,wpAny_assign_Name->ajP,wpAny_getItem_of->ajQ,wpAny_isTrue_Compare1->ajR,wpAny_leaves_onW->ajS,wpAny_loadPart->ajT,wpAny_lookBehind->ajU,wpAny_missedRemoval_other->ajV,wpAny_mroOf_exc->ajW,wpAny_notIn_of->ajX,wpAny_pyIter_enum->ajY,wpAny_pyIter_zip->ajZ,wpAny_pyNext_range_end->aj0,wpAny_specialOf->aj1,wpAny_updateDictKeys->aj2,wpAny_updateSeq_pair->aj3
open PySem.Builtin.Builtins renaming bindParams->H8
open PySem.Builtin.Dict renaming showsAll->H9,noArgs->YE,takeOut->YF,dictSlotNone->akw,keyAndDefault->akx
open PySem.Builtin.Dict_items renaming ownsTuple->D0,ownedTupleFields->YG,ownedTupleIsFree->YH,pairFromOwner->YI,dictOf->aky,newIterator->akz
open PySem.Builtin.Frozenset renaming updateFrom->akA
open PySem.Builtin.List renaming listTooLong->P7,listUpdate->akB
open PySem.Builtin.ObjectAttr renaming storeInOwnDict->H_,dataDescriptor?->YJ,find->YK,storeInDict->YL,attrName->akC,bindTo->akD,getOf->akE,newKeyGuard->akF
open PySem.Builtin.Range renaming rangeFitsLong->ng,rangeSize->Ao
open PySem.Builtin.SmallTypes renaming nextOf->tf,ownedTupleIsFree->Ia,ownedTupleHandOut->YM
open PySem.Builtin.Str renaming strSliceIndices->YN,subAt->akM
open PySem.Calls renaming spliced_cons->xP,callWith_builtin->Aq,evalArgs_plain->D1,spliced_nil->D2,Name_function_global->YV
open PySem.Challenge renaming pw_postroad_k83_what_stands_at_the_desk->akN,rw_postroad_k83_what_stands_at_the_desk->akO
open PySem.EntryCells renaming newEntry->akH
open PySem.EqMixed renaming eq_bool_str->akP,eq_int_str->akQ,eq_str_bool->akR,eq_str_int->akS,ne_bool_str->akT,ne_int_str->akU,ne_str_bool->akV,ne_str_int->akW
open PySem.EqNone renaming eq_bool_none->akX,eq_int_none->akY,eq_none_bool->akZ,eq_none_int->ak0,eq_none_none->ak1,eq_none_str->ak2,eq_str_none->ak3,ne_bool_none->ak4,ne_int_none->ak5,ne_none_bool->ak6,ne_none_int->ak7,ne_none_none->ak8,ne_none_str->ak9,ne_str_none->ala
open PySem.F renaming plain_max_loop->nw,plain_min_loop->nx,plainAttrs_list->rT,slot_list_append->tw,type_list_append->tx,excBase_ValueError->yo,entry_max_loop->Ba,entry_min_loop->Bb,slot_dict_get->Bc,plainAttrs_dict->ED,plainAttrs_str->EE,entry_dict_get->Jq,slot_str_join->Sw,type_str_join->Sx,args_dict_get_2->œ,args_dict_get_3->Ŕ,entry_max->ŕ,entry_min->Ŗ,kind_max->ŗ,kind_min->Ř,plain_max->ř,plain_min->Ś,slot_dict_getitem->ś,slot_list_index->Ŝ,store_ValueError->ŝ,type_dict_get->Ş
open PySem.Heap renaming SameBut.update->tk,ExtBut.push->IE,Ns1.of_empty->ZH,SameBut.extBut->ZI
open PySem.P renaming str_of_int->ş
open PySem.SeqAt renaming shaped->rW,EqAt->aaZ,EqAt.int_str->aa0,EqAt.str_int->aa1,EqAt.bool_bool->alb,list_indexAt->alc
open PySem.Txt renaming split->Bm,slice->JA,startswith->JB
open PySem.W renaming Frag->aQ,findIn->c_,nsIn->iM,kitOne->jr,mroIn->kY,subIn->kZ,fnOf->lH,keepIn->mF,kia_one->oy,isFn->qF,specialIn->qG,Looks->rU,clsIn->tA,emptyDict->tB,looks_findIn->tC,hideAll->vR,instObj->vS,takesIn->vT,excIn->yp,typeIn->yq,callWith_K->Be,codeIn->Bf,hasDictIn->Bg,kas_sort->Cm,methodCall_KW->EF,kitMeta->Jr,lookIn->Js,plainGet->Jt,Looks.ld->Sy,OpenLaw->Sz,findCls->SA,find_K->SD,hideAll_get->SE,kitCls->SF,makesIn->SG,mapOf_K->SH,methodObj->SI,of_hideAll->SJ,plainGet_of->SK,readsIn->SM,takerIn->SN,KeysLit->š,WalkO->Ţ,bind_fn->ţ,callWith_K0->Ť,cellsFrom_some->ť,check_slot->Ŧ,funFrames_hide->ŧ,handedIn->Ũ,hideAll_none->ũ,isClsIn->Ū,kitx_dict->ū,kitx_list->Ŭ,looks_mroIn->ŭ,looks_subIn->Ů,mg_none_of->ů,mg_of->Ű,plainOver->ű
open PySem.W.KF renaming slot_gs->Š,args_gs->ald,entry_class->ale,entry_gs->alf,owner_class->alg,type_class->alh
open PySem.W.KIN renaming call_text->ali,num_reads->alj,signs_num->alk
open PySem.W.KT renaming len_num->alm
open Sum renaming inr->dC,inl->yv,inr.inj->yw,inr.injEq->aa4
open True renaming intro->lJ
section
abbrev hO:List fx:=["self","house","goal"]
abbrev gO:List fx:=["desk","values"]
abbrev nv:List fx:=["houses","one","other"]
abbrev pk:List fx:=["thing","least","greatest"]
abbrev j2:List fx:=["self","number"]
abbrev qA:List fx:=["self","house","goal","road"]
abbrev fD:List fx:=["self"]
abbrev j3:List fx:=["self","house"]
abbrev pn:List fx:=["self","houses","roads"]
abbrev vK:List fx:=["_law_lines","_law_names","_law_goal"]
abbrev lG:List fx:=["houses","thing"]
abbrev kq:List fx:=["self","net"]
abbrev yf:List fx:=["_law_names","_law_name","_law_n"]
abbrev iL:List fx:=["thing"]
abbrev pj:List fx:=["thing","length"]
abbrev rO:List fx:=["houses","things"]
abbrev AO:List fx:=["_law_desk","_law_row_here"]
abbrev yg:List fx:=["_law_script","_law_k"]
abbrev yh:List fx:=["self","reason","seen"]
abbrev AP:List fx:=["road","far_from","goal"]
abbrev AQ:List fx:=["_law_cell","_law_many"]
abbrev AR:List fx:=["self","net","letters"]
abbrev AS:List fx:=["net","letters","ways"]
abbrev vJ:List fx:=["roads","house"]
abbrev mB:List fx:=["word"]
abbrev qz:List fx:=["number"]
abbrev yi:List fx:=["road","found"]
abbrev rP:List fx:=["things"]
abbrev AU:List fx:=["net","some"]
abbrev AV:List fx:=["self","row"]
abbrev AW:List fx:=["_law_error"]
abbrev bt:= List (List Nat)
abbrev b6:= Bd -> PySem.Shared -> Prop
abbrev dD:= List (Œ×PySem.Obj)
abbrev b9:= fx -> Option Bd
abbrev cx:= List Nat
abbrev c7:= List Œ
abbrev dk:= List Bd
abbrev ck:= List fx
abbrev tF:= Array Nat
abbrev iO:= Nat -> Nat -> Bool
abbrev JC:= List (Option Nat)
abbrev k6:= Array (Option Bd)
abbrev vX:= List (fx×Int×fx)
abbrev Bn:= fx×Int×fx
abbrev jM:= List Int
abbrev hB:= List PySem.Expr
abbrev fa:= List PySem.PyData
abbrev hP:= fx -> Option Int
abbrev ks:= Array Bd
abbrev yA:= Option Bd
end
namespace ao
open PySem PySem.Spec PyProof.Rows
noncomputable abbrev bb:=Sum Int Str
noncomputable def xA:bb->Value->Bool
 |.inl k,v=>Value.isInt k v
 |.inr x,v=>JP x v
noncomputable def aej(w:bU):bb->Int
 |.inl k=>hashInt k
 |.inr x=>hashStr w x
theorem qM:∀{k:bb}{v:Value},xA k v=true->(∃i t,k=yv i/\v=oB i t)\/(∃x t,k=dC x/\v=tG x t)
 |.inl i,v,h=>by obtain⟨t,e⟩:=Value.isInt_shape (k:=i) (v:=v) h;exact .inl ⟨i,t,rfl,e⟩
 |.inr x,v,h=>by obtain⟨t,e⟩:=Value.isStrOf_shape (x:=x) (v:=v) h;exact .inr ⟨x,t,rfl,e⟩
theorem Zu(i:Int)(t:Tok):xA (.inl i) (.int i t)=true:=by simp[xA,Value.isInt]
theorem Zv(x:Str)(t:Tok):xA (.inr x) (.str x t)=true:=by simp[xA,JP]
theorem abk(a b:Int):decide ((yv a:bb)=yv b)=(a==b):=by
 by_cases e:a=b
 .subst e;simp
 .have h:¬(yv a:bb)=yv b:=λq=>e (Sum.inl.inj q);rw[cM h];exact(yE.mpr e).symm
theorem abl(a b:Str):decide ((dC a:bb)=dC b)=decide (a=b):=by
 by_cases e:a=b
 .subst e;simp
 .have h:¬(dC a:bb)=dC b:=λq=>e (yw q);rw[cM h,cM e]
theorem abm(a:Int)(b:Str):decide ((yv a:bb)=dC b)=false:=cM (λq=>nomatch q)
theorem abn(a:Str)(b:Int):decide ((dC a:bb)=yv b)=false:=cM (λq=>nomatch q)
noncomputable def h1(prog:cA)(w:bU):PySem.KeyKind prog w bb where
 is:=xA
 hash:=aej w
 inj:=λv a b av ae=>by
  rcases qM av with⟨i,t,rfl,rfl⟩|⟨x,t,rfl,rfl⟩
  .rcases qM ae with⟨j,u,rfl,e⟩|⟨y,u,rfl,e⟩
   .injection e with aF _;rw[aF]
   .exact nomatch e
  .rcases qM ae with⟨j,u,rfl,e⟩|⟨y,u,rfl,e⟩
   .exact nomatch e
   .injection e with aF _;rw[aF]
 byValue:=λk v h=>by rcases qM h with⟨i,t,rfl,rfl⟩|⟨x,t,rfl,rfl⟩<;>rfl
 pyHash:=λa7 h=>by
  rcases qM a7 with⟨i,t,rfl,rfl⟩|⟨x,t,rfl,rfl⟩
  .exact wpAny_pyHash_int h
  .exact wpAny_pyHash_str h
 eqBool:=λbL a7 h=>by
  rcases qM bL with⟨i,t,rfl,rfl⟩|⟨x,t,rfl,rfl⟩
  .rcases qM a7 with⟨j,u,rfl,rfl⟩|⟨y,u,rfl,rfl⟩
   .rw[abk]at h;exact wpAny_eqBool_int h
   .rw[abm]at h;exact aa0 i t y u _ _ _ _ h
  .rcases qM a7 with⟨j,u,rfl,rfl⟩|⟨y,u,rfl,rfl⟩
   .rw[abn]at h;exact aa1 x t j u _ _ _ _ h
   .rw[abl]at h;exact wpAny_eqBool_str h
 «strs»:=λk x t v h=>by
  rcases qM h with⟨i,u,rfl,e⟩|⟨y,u,rfl,e⟩
  .exact nomatch e
  .injection e with aF _;subst aF;cases v<;>rfl
theorem akq(prog:cA)(w:bU)(i:Int)(t:Tok):(h1 prog w).is (.inl i) (.int i t)=true:=Zu i t
theorem akr(prog:cA)(w:bU)(x:Str)(t:Tok):(h1 prog w).is (.inr x) (.str x t)=true:=Zv x t
inductive V where
 |bJ|aM (b:Bool)|int (i:Int)|str (x:Str)|mI (b:Array UInt8)|wt (b:UInt64)|ref (a:Addr)|ty (n:String)
 deriving DecidableEq
abbrev aR:= List V
abbrev ju:= Option V
noncomputable def RelV:V->Value->Prop
 |.bJ,u=>u=eT
 |.aM b,u=>u=Bo b
 |.int i,u=>∃t,u=oB i t
 |.str x,u=>∃t,u=tG x t
 |.mI b,u=>∃t,u=Value.bytes b t
 |.wt b,u=>∃t,u=TG b t
 |.ref a,u=>u=cg a
 |.ty n,u=>u=tH n
noncomputable abbrev cX:List V->List Value->Prop:=fH RelV
theorem cX.length{xs:aR}{us:dk}(r:cX xs us):xs.length=us.length:=tv r
theorem cX.get:∀{xs:aR}{us:dk}{i:Nat}{x:V},cX xs us->xs[i]?=some x->∃u,us[i]?=some u/\RelV x u
 |_,_,_,_,.nil,e=>by simp at e
 |_,_,0,_,.cons r _,e=>by simp at e;subst e;exact⟨_,rfl,r⟩
 |_,_,i+1,x,.cons _ t,e=>by obtain⟨u,ai,aj⟩:=cX.get (i:=i) (x:=x) t (by simpa using e);exact⟨u,by simpa using ai,aj⟩
theorem cX.append:∀{xs ys:aR}{us ws:dk},cX xs us->cX ys ws->cX (xs++ys) (us++ws)
 |_,_,_,_,.nil,s=>s
 |_,_,_,_,.cons r t,s=>.cons r (cX.append t s)
theorem cX.take:∀{xs:aR}{us:dk}(n:Nat),cX xs us->cX (xs.take n) (us.take n)
 |_,_,0,_=>.nil
 |_,_,_+1,.nil=>.nil
 |_,_,n+1,.cons r t=>.cons r (cX.take n t)
theorem cX.drop:∀{xs:aR}{us:dk}(n:Nat),cX xs us->cX (xs.drop n) (us.drop n)
 |_,_,0,r=>r
 |_,_,_+1,.nil=>.nil
 |_,_,n+1,.cons _ t=>cX.drop n t
noncomputable def jE:Option V->Option Value->Prop
 |some v,some u=>RelV v u
 |none,none=>True
 |_,_=>False
noncomputable def gV{κ:Type}:List (κ×V)->List (κ×Value)->Prop:=fH λ(p:κ×V)(q:κ×Value)=>p.1=q.1/\RelV p.2 q.2
noncomputable def c0:bb->V
 |.inl i=>.int i
 |.inr x=>.str x
inductive hN where
  |lst (xs:aR)
  |tup (xs:aR)
  |cF (kvs:List (bb×V))|bV (kvs:List (List bb×V))
  |set (S:Int->Bool) (n:Nat)
  |ins (C ak:Addr) (fs:List (Str×V))
  |own (x:Addr)
  |HN (fs:List (Str×V))
  |met (f x:Addr)
  |G1 (lo hi:Int)
  |ed (o:Obj) (u:hN)
  |qb (ps:ks)
  |ext (rD:Heap->Prop)
noncomputable abbrev af:=Addr->Option hN
noncomputable def upd(H:af)(a:Addr)(o:hN):af:=λb=>if b=a then some o else H b
theorem aE:upd H a o a=some o:=by unfold upd;rw[bO rfl]
theorem aV{H:af}(h:b≠a):upd H a o b=H b:=by unfold upd;rw[bz h]
theorem C7:upd (upd H a o) a u=upd H a u:=by funext b;unfold upd;split<;>rfl
theorem f9{H:af}(h:H a=some o)(h':H b=some u)(d:o≠u):a≠b:=by intro e;subst e;rw[h]at h';exact d (fG h')
theorem cI{H:af}(h:H a=some o)(h':H b=none):a≠b:=by intro e;subst e;rw[h]at h';cases h'
section
variable(P:cA)(w:bU)
noncomputable def er(H:af)(h:Heap)(a:Addr):hN->Prop
 |.lst xs=>xs.length<=sizeLine/\∃(its:dk)(n:Nat),cX xs its/\h.get? a=some {cls:=.type "list",data:=.seq its.toArray n}
 |.tup xs=>xs.length<=sizeLine/\∃its:List Value,cX xs its/\tn h a its.toArray
 |.cF kvs=>kvs.length<=sizeLine/\(a==kg)=false/\∃vs,gV kvs vs/\h.DictOf (h1 P w) a vs
 |.bV kvs=>kvs.length<=sizeLine/\(a==kg)=false/\∃xs:List (List bb×Addr×Value),
   fH (λ(p:List bb×V)(q:List bb×Addr×Value)=>p.1=q.1/\H q.2.1=some (.tup (p.1.map c0))/\RelV p.2 q.2.2) kvs xs/\
   ∃o es ep,h.get? a=some o/\o.ExactDict/\o.data=.dict es ep/\es.toList=xs.map (BC (sT (h1 P w)))/\(xs.map (·.1)).Nodup
 |.set S n=>h.SetOf (intKind P w) a S n
 |.ins C ak fs=>H ak=some (.own a)/\fs.length<=1000/\ak≠a/\h.get? a=some (vS C ak)/\
   ∃mA,h.Ns1 ak mA/\(∀f,jE (fs.lookup f) (mA f))/\yr mA (fs.map (·.1))
 |.own _=>∃o,h.get? a=some o
 |.HN fs=>∃mA,h.Ns1 a mA/\∀f,jE (fs.lookup f) (mA f)
 |.G1 lo hi=>∃t u v,h.get? a=some {cls:=.type "range",data:=.fields #[.int lo t,.int hi u,.int 1 v]}
 |.ed o u=>h.get? a=some o/\er H h a u
 |.qb ps=>h.get? a=some {cls:=.none,data:=.fields ps}
 |.met f x=>h.get? a=some (SI (.ref f) (.ref x))
 |.ext rD=>rD h/\(∃o,h.get? a=some o)/\∀ai aj:Heap,rD ai->(∀o,ai.get? a=some o->aj.get? a=some o)->rD aj
noncomputable def fj(H:af)(h:Heap):Prop:=∀a o,H a=some o->er P w H h a o
end
section
variable{P:cA}{w:bU}{H H':af}{h h':Heap}{a:Addr}{o:hN}
theorem er.lt(x:er P w H h a o):a<h.objs.size:=by
 cases o with
 |lst xs=>obtain⟨_,_,_,_,e⟩:=x;exact c' e
 |tup xs=>obtain⟨_,_,_,p⟩:=x;exact p.lt
 |cF kvs=>obtain⟨_,_,_,_,o,_,_,e,_⟩:=x;exact c' e
 |bV kvs=>obtain⟨_,_,_,_,o,_,_,e,_⟩:=x;exact c' e
 |set S n=>obtain⟨o,_,_,_,e,_⟩:=x;exact c' e
 |ins C ak fs=>obtain⟨_,_,_,e,_⟩:=x;exact c' e
 |own y=>obtain⟨_,e⟩:=x;exact c' e
 |HN fs=>obtain⟨_,⟨_,_,_,e,_⟩,_⟩:=x;exact c' e
 |G1 lo hi=>obtain⟨_,_,_,e⟩:=x;exact c' e
 |ed ob u=>obtain⟨e,_⟩:=x;exact c' e
 |qb ps=>exact c' (show h.get? a=some _ from x)
 |met f y=>exact c' (show h.get? a=some _ from x)
 |ext rD=>obtain⟨_,⟨_,e⟩,_⟩:=x;exact c' e
theorem fH.oW{α β:Type}{F G:α->β->Prop}:∀{VR:List α}{VS:List β},fH F VR VS->(∀a b,F a b->G a b)->fH G VR VS
 |_,_,.nil,_=>.nil
 |_,_,.cons r t,f=>.cons (f _ _ r) (fH.oW t f)
theorem er.md(x:er P w H h a o)(k:∀b u,(b=a\/H b=some (.own a))->h.get? b=some u->h'.get? b=some u)(aI:∀b,H b=some (.own a)->H' b=some (.own a))(cO:∀b xs,H b=some (.tup xs)->H' b=some (.tup xs)):er P w H' h' a o:=by
 induction o with
 |lst xs=>obtain⟨z,its,n,r,e⟩:=x;exact⟨z,its,n,r,k _ _ (.inl rfl) e⟩
 |tup xs=>obtain⟨z,its,r,ob,e,c⟩:=x;exact⟨z,its,r,ob,k _ _ (.inl rfl) e,c⟩
 |cF kvs=>obtain⟨z,y,vs,r,ob,es,ep,e,c⟩:=x;exact⟨z,y,vs,r,ob,es,ep,k _ _ (.inl rfl) e,c⟩
 |bV kvs=>
  obtain⟨z,y,xs,r,ob,es,ep,e,c⟩:=x;exact⟨z,y,xs,fH.oW r λp q z=>⟨z.1,cO _ _ z.2.1,z.2.2⟩,ob,es,ep,k _ _ (.inl rfl) e,c⟩
 |set S n=>obtain⟨ob,es,ep,t,e,c⟩:=x;exact⟨ob,es,ep,t,k _ _ (.inl rfl) e,c⟩
 |ins C ak fs=>
  obtain⟨d,z,ne,e,mA,⟨d2,es,ep,aG,c⟩,r⟩:=x;exact⟨aI _ d,z,ne,k _ _ (.inl rfl) e,mA,⟨d2,es,ep,k _ _ (.inr d) aG,c⟩,r⟩
 |own y=>obtain⟨ob,e⟩:=x;exact⟨ob,k _ _ (.inl rfl) e⟩
 |HN fs=>obtain⟨mA,⟨d2,es,ep,e,c⟩,r⟩:=x;exact⟨mA,⟨d2,es,ep,k _ _ (.inl rfl) e,c⟩,r⟩
 |G1 lo hi=>obtain⟨t,u,v,e⟩:=x;exact⟨t,u,v,k _ _ (.inl rfl) e⟩
 |ed ob u a5=>obtain⟨e,q⟩:=x;exact⟨k _ _ (.inl rfl) e,a5 q⟩
 |qb ps=>
  have e:h.get? a=some {cls:=.none,data:=.fields ps}:=x;show h'.get? a=some {cls:=.none,data:=.fields ps};exact k a _ (.inl rfl) e
 |met f y=>
  have e:h.get? a=some (SI (.ref f) (.ref y)):=x;show h'.get? a=some (SI (.ref f) (.ref y));exact k a _ (.inl rfl) e
 |ext rD=>obtain⟨p,⟨o,e⟩,st⟩:=x;exact⟨st _ _ p λo q=>k _ _ (.inl rfl) q,⟨o,k _ _ (.inl rfl) e⟩,st⟩
theorem fj.lt(x:fj P w H h)(e:H a=some o):a<h.objs.size:=(x a o e).lt
theorem fj.fresh(x:fj P w H h)(e:h.objs.size<=a):H a=none:=by
 cases q:H a with
 |none=>rfl
 |some u=>exact bk (i1 (x.lt q) e) (rQ _)
theorem fj.kept(x:fj P w H h)(k:∀b u,h.get? b=some u->h'.get? b=some u):fj P w H h':=λa o e=>
 (x a o e).md (λb u _ q=>k b u q) (λ_ q=>q) λ_ _ q=>q
theorem fj.laid(x:fj P w H h)(k:∀b u,h.get? b=some u->h'.get? b=some u)(ay:h.objs.size<=a)(new:er P w (upd H a o) h' a o):fj P w (upd H a o) h':=λb u e=>by
 have aX:=x.fresh ay;by_cases ae:b=a
 .subst ae;rw[aE]at e;cases e;exact new
 .rw[aV ae]at e;exact(x b u e).md (λc v _ q=>k c v q) (λc q=>by rw[aV (cI q aX)];exact q) λc xs q=>by rw[aV (cI q aX)];exact q
end
noncomputable def fm(H:af)(a:Addr)(u:hN):Prop:=H a=some u\/∃o,H a=some (.ed o u)
theorem fm.ok(r:fm H a u)(x:fj P w H h):er P w H h a u:=by
 rcases r with r|⟨o,r⟩
 .exact x a u r
 .obtain⟨_,q⟩:=x a _ r;exact q
noncomputable def AZ:Option hN->Prop
 |some (.lst _)=>True
 |some (.cF _)=>True
 |some (.bV _)=>True
 |some (.set _ _)=>True
 |some (.ins _ _ _)=>True
 |some (.ext _)=>True
 |_=>False
section
variable{P:cA}{w:bU}{H:af}{h h':Heap}{x e:Addr}{cD:hN}
theorem fj.write(ok:fj P w H h)(iY:AZ (H x))(he:e=x\/H e=some (.own x))(k:∀b u,b≠e->h.get? b=some u->h'.get? b=some u)(y2:∃u,h'.get? e=some u)(new:er P w (upd H x cD) h' x cD):fj P w (upd H x cD) h':=λb u q=>by
 have Wd:∀c y,H c=some (.own y)->c≠x:=λc y r z=>by subst z;rw[r]at iY;exact iY
 have aie:∀c xs,H c=some (.tup xs)->c≠x:=λc xs r z=>by subst z;rw[r]at iY;exact iY
 by_cases ae:b=x
 .subst ae;rw[aE]at q;cases q;exact new
 .rw[aV ae]at q;by_cases lj:b=e
  .have kP:H b=some (.own x):=by
    rcases he with z|z
    .exact bk (lj.trans z) ae
    .rw[lj];exact z
   rw[q]at kP;cases kP;obtain⟨v,a7⟩:=y2;exact⟨v,by rw[lj];exact a7⟩
  .refine(ok b u q).md (λc v ar r=>k c v ?_ r) (λc r=>by rw[aV (Wd c b r)];exact r) λc xs r=>by rw[aV (aie c xs r)];exact r
   rcases ar with rfl|ar
   .exact lj
   .rintro rfl;rcases he with z|z
    .exact Wd c b ar z
    .rw[ar]at z;cases z;exact ae rfl
end
structure hQ(fs ex:c7)(H H':af)(h h':Heap):Prop where
 keep:∀b o,h.get? b=some o->H b=none->b∉fs->b∉ex->h'.get? b=some o
 slot:∀b o,h.get? b=some o->H b=none->b∈fs->b∉ex->∃bZ,h'.get? b=some {o with slots:=bZ}
 free:∀b o,h.get? b=some o->H b=none->b∉ex->H' b=none
 there:∀b o,h.get? b=some o->b∉ex->∃cD,h'.get? b=some cD
 fi:∀b xs,H b=some (.tup xs)->H' b=some (.tup xs)
 iT:∀b o u,H b=some (.ed o u)->H' b=some (.ed o u)
 ji:∀b ps,H b=some (.qb ps)->∃more,H' b=some (.qb (ps++more))
section
variable{fs afZ ex am2:c7}{H H1 ah:af}{h ai aj h':Heap}{a x e:Addr}{o:hN}
theorem hQ.any(u:hQ fs ex H H1 h ai){b:Addr}(q:h.get? b=some ob)(n:H b=none)(ax:b∉ex):∃bZ,ai.get? b=some {ob with slots:=bZ}:=by
 by_cases ae:b∈fs
 .exact u.slot b ob q n ae ax
 .exact⟨ob.slots,u.keep b ob q n ae ax⟩
theorem hQ.kept(k:∀b u,h.get? b=some u->h'.get? b=some u):hQ fs ex H H h h':=
 ⟨λb ob q _ _ _=>k b ob q,λb ob q _ _ _=>⟨ob.slots,k b ob q⟩,λ_ _ _ n _=>n,λb ob q _=>⟨ob,k b ob q⟩,λ_ _ q=>q,λ_ _ _ q=>q,λ_ ps q=>⟨#[],by rw[q];simp⟩⟩
theorem hQ.refl:hQ fs ex H H h h:=hQ.kept λ_ _ q=>q
theorem hQ.laid(k:∀b u,h.get? b=some u->h'.get? b=some u)(ay:h.objs.size<=a)(aX:H a=none):hQ fs ex H (upd H a o) h h' where
 keep:=λb u q _ _ _=>k b u q
 slot:=λb u q _ _ _=>⟨u.slots,k b u q⟩
 free:=λb u q n _=>by rw[aV (eA (i1 (c' q) ay))];exact n
 there:=λb u q _=>⟨u,k b u q⟩
 fi:=λb xs q=>by rw[aV (cI q aX)];exact q
 iT:=λb u xs q=>by rw[aV (cI q aX)];exact q
 ji:=λb ps q=>⟨#[],by rw[aV (cI q aX),q];simp⟩
theorem hQ.write(iY:AZ (H x))(he:e=x\/H e=some (.own x))(k:∀b u,b≠e->h.get? b=some u->h'.get? b=some u)(y2:∃u,h'.get? e=some u):hQ fs ex H (upd H x o) h h':=by
 have ax:∀b,H b=none->b≠x:=λb n z=>by subst z;rw[n]at iY;exact iY
 have ae:∀b,H b=none->b≠e:=λb n z=>by
  subst z;rcases he with r|r
  .exact ax b n r
  .rw[n]at r;cases r
 have hm:∀b u,H b=some u->¬AZ (some u)->b≠x:=λb u q nm z=>by subst z;rw[q]at iY;exact nm iY
 refine⟨λb u q n _ _=>k b u (ae b n) q,λb u q n _ _=>⟨u.slots,k b u (ae b n) q⟩,λb u q n _=>by rw[aV (ax b n)];exact n,λb u q _=>?_,
  λb xs q=>by rw[aV (hm b _ q λz=>z)];exact q,λb u xs q=>by rw[aV (hm b _ q λz=>z)];exact q,λb ps q=>⟨#[],by rw[aV (hm b _ q λz=>z),q];simp⟩⟩
 by_cases lj:b=e
 .subst lj;exact y2
 .exact⟨u,k b u lj q⟩
end
noncomputable def Hu(h:Heap)(H:af):List Addr:=(gN h.objs.size).filter λa=>(H a).isSome
noncomputable def sX(h:Heap)(H:af):Heap:=vR h (Hu h H)
theorem ZL(h:Heap)(H:af):(sX h H).objs.size=h.objs.size:=PySem.W.hideAll_size _ _
theorem χ{h:Heap}{H:af}(e:h.get? b=some o)(n:H b=none):(sX h H).get? b=some o:=
 SE _ e λhm=>by have q:(H b).isSome=true:=(ph.mp hm).2;rw[n]at q;simp at q
theorem Ĩ{h:Heap}{H:af}(e:(sX h H).get? b=some o):h.get? b=some o/\H b=none:=by
 have bB:h.get? b=some o:=SJ (Hu h H) e;refine⟨bB,?_⟩;cases q:H b with
 |none=>rfl
 |some x=>
  have hm:b∈Hu h H:=ph.mpr ⟨rN.mpr (c' bB),by simp[q]⟩;have z:(sX h H).get? b=none:=ũ (Hu h H) hm;rw[z]at e;cases e
structure Mod(K:aQ)(mg:b9)(base:Heap):Prop where
 su:K.In base
 glob:base.Ns p2 mg
 blt:∃oX,base.Ns Ue oX/\∀x:Str,x≠"__name__"->oX x=h0 x
 nolimit:base.NoLimit
structure bx where
 prog:cA
 w:bU
 K:aQ
 mg:Str->Option Value
 base:Heap
 A:dn
 N:List Str
 ia:aO
 mw:af
 env:Env
 outer:List Env
 stack:List Env
 ex:List Addr
 fn:Str->Bool
 calm:Bool
 ez:List (Addr×Obj)
 dT:Value->aO->Prop
noncomputable def ff(l:List Env):List Addr:=l.filterMap (·.frame)
noncomputable abbrev bx.fs(X:bx):List Addr:=ff X.outer
noncomputable def JR(sc:Scope)(x:Str):Prop:=sc.names.lookup x=some .local\/sc.names.lookup x=some .cell\/sc.names.lookup x=some .free
noncomputable def Loc(sc:Scope)(x:Str):Prop:=sc.names.lookup x=some .local\/sc.names.lookup x=some .cell
noncomputable def Look(env:Env)(h:Heap)(m:b9)(x:Str)(u:Value):Prop:=
 (env.kindOf x=some .local/\m x=some u)\/((env.kindOf x=some .cell\/env.kindOf x=some .free)/\∃c,env.cells.lookup x=some c/\h.IsCell c (some u))
structure bx.Ok(X:bx):Prop where
 mod:Mod X.K X.mg X.base
 kind:X.env.scope.kind=.function
 glob:X.env.globals=p2
 blt:X.env.builtins=Ue
 above:X.ia.heap.objs.size<=X.env.locals
 inj:∀x y c,X.env.cells.lookup x=some c->X.env.cells.lookup y=some c->x=y
 has:∀x,(X.env.kindOf x=some .cell\/X.env.kindOf x=some .free)->∃c,X.env.cells.lookup x=some c
 wa:∀x c,X.fn x=true->X.env.cells.lookup x=some c->X.ia.heap.objs.size<=c
 hd:X.calm=true->X.A.handled=none
 frames:X.A.frames=some X.stack
 rr:X.stack=X.outer\/(X.stack=X.env::X.outer/\X.env.frame=some X.env.locals)
 Fp:∀b∈X.ex,b≠X.env.locals/\∀x c,X.env.cells.lookup x=some c->c≠b
 bs:∀b o,X.base.get? b=some o->X.ia.heap.get? b=some o/\X.mw b=none
 qK:X.base.objs.size<=X.ia.heap.objs.size
 w':∀b o,X.base.get? b=some o->b∉X.ex
 yS:∀b∈X.ex,b∉X.fs
 j5:X.ia.heap.FunFrames X.base X.outer
 r9:∀b∈X.fs,X.mw b=none
structure Inv(X:bx)(pins:dD)(σ:List (Option V))(H:af)(s:aO):Prop where
 ok:X.Ok
 os:s.os=X.ia.os
 bare:rE s.gens
 base:hQ X.fs X.ex X.mw H X.ia.heap s.heap
 loc:∃m,s.heap.Ns X.env.locals m/\∀(i:Nat)(x:Str)(v:V),X.N[i]?=some x->σ[i]?=some (some v)->JR X.env.scope x->∃u,RelV v u/\Look X.env s.heap m x u
 cell:∀x c,X.env.cells.lookup x=some c->∃v,s.heap.IsCell c v
 free:H X.env.locals=none
 mT:∀x c,X.env.cells.lookup x=some c->H c=none
 pin:∀p∈X.ez++pins,s.heap.get? p.1=some p.2/\H p.1=none/\p.1≠X.env.locals/\p.1∉X.fs/\∀v,p.2.data≠.cell v
 bj:fj X.prog X.w H s.heap
 len:σ.length=X.N.length
section
variable{X:bx}{pins:dD}{σ:List (Option V)}{H H':af}{s:aO}{h':Heap}
theorem bx.Ok.ah2(ok:X.Ok){b:Addr}(e:X.base.get? b=some o):b∉X.fs:=λae=>by have:=(ok.j5.mem ae).1;rw[e]at this;cases this
theorem Inv.bs(I:Inv X pins σ H s):∀b o,X.base.get? b=some o->s.heap.get? b=some o/\H b=none:=λb o e=>
 ⟨I.base.keep b o (I.ok.bs b o e).1 (I.ok.bs b o e).2 (I.ok.ah2 e) (I.ok.w' b o e),I.base.free b o (I.ok.bs b o e).1 (I.ok.bs b o e).2 (I.ok.w' b o e)⟩
theorem Inv.ho(I:Inv X pins σ H s):∀b o,X.base.get? b=some o->s.heap.get? b=some o:=λb o e=>(I.bs b o e).1
theorem Inv.mod(I:Inv X pins σ H s):Mod X.K X.mg X.base:=I.ok.mod
theorem Inv.ef(I:Inv X pins σ H s):X.K.In s.heap:=I.ok.mod.su.keeps I.ho
theorem Inv.lt(I:Inv X pins σ H s):X.env.locals<s.heap.objs.size:=let⟨_,aX,_⟩:=I.loc;aX.lt
theorem Inv.hY(I:Inv X pins σ H s):X.ia.heap.objs.size<=s.heap.objs.size:=e1 I.ok.above (qB I.lt)
theorem Inv.ah4(I:Inv X pins σ H s){a:Addr}(h:s.heap.objs.size<=a):a∉X.fs:=λae=>by obtain⟨_,o,aI,_⟩:=I.ok.j5.mem ae;exact bk (i1 (c' aI) (e1 I.hY h)) (rQ _)
theorem Inv.pJ(I:Inv X pins σ H s):∀x c,X.env.cells.lookup x=some c->c≠X.env.locals:=λx c e z=>by obtain⟨v,o,aI,hd⟩:=I.cell x c e;obtain⟨m,⟨cD,es,ep,i_,uh,_⟩,_⟩:=I.loc;rw[z,i_]at aI;cases aI;rw[uh]at hd;cases hd
theorem Inv.j5(I:Inv X pins σ H s):s.heap.FunFrames X.base X.outer:=by
 have all:∀(l:List Env),(∀b∈ff l,b∈X.fs)->X.ia.heap.FunFrames X.base l->s.heap.FunFrames X.base l:=by
  intro l
  induction l with
  |nil=>intro _ _;trivial
  |cons env r a5=>
   intro hs au;obtain⟨aD,⟨L,o,bE,aX,aI,hd⟩,al⟩:=au;have hr:L∈X.fs:=hs L (by unfold ff;rw[Ek,bE];exact ts);obtain⟨bZ,e⟩:=I.base.slot L o aI (I.ok.r9 L hr) hr λz=>I.ok.yS L z hr;exact⟨aD,⟨L,_,bE,aX,e,hd⟩,a5 (λb ae=>hs b (by unfold ff;rw[Ek,bE];exact mz _ ae)) al⟩
 exact all X.outer (λ_ ae=>ae) I.ok.j5
theorem Inv.stack(I:Inv X pins σ H s):s.heap.FunFrames X.base X.stack:=by
 rcases I.ok.rr with e|⟨e,bE⟩
 .rw[e];exact I.j5
 .rw[e];obtain⟨m,aX,_⟩:=I.loc;refine .cons (by rw[I.ok.kind];decide) bE aX ?_ I.j5;exact Q3 (e1 I.ok.qK I.ok.above)
theorem Inv.Dn(I:Inv X pins σ H s):∀b∈ff X.stack,b∈X.env.locals::X.fs:=λb ae=>by
 rcases I.ok.rr with e|⟨e,bE⟩
 .rw[e]at ae;exact mz _ ae
 .rw[e]at ae;unfold ff at ae;rw[Ek,bE]at ae;exact ae
theorem Inv.Hl(I:Inv X pins σ H s):∀b∈ff X.stack,H b=none:=λb ae=>by
 rcases dX.mp (I.Dn b ae)with e|ae
 .rw[e];exact I.free
 .obtain⟨_,o,aI,_⟩:=I.ok.j5.mem ae;exact I.base.free b o aI (I.ok.r9 b ae) λz=>I.ok.yS b z ae
theorem Inv.step{g':Array GenState}{t':Nat}{d':Drawn}{ch:c7}(I:Inv X pins σ H s)(iA:∀b∈ch,(b∈X.ex\/X.ia.heap.objs.size<=b)/\b≠X.env.locals/\(∀x c,X.env.cells.lookup x=some c->c≠b)/\∀p∈X.ez++pins,p.1≠b)(keep:∀b o,b≠X.env.locals->b∉X.fs->b∉ch->s.heap.get? b=some o->H b=none->h'.get? b=some o)(slot:∀b o,b≠X.env.locals->b∈X.fs->b∉ch->s.heap.get? b=some o->H b=none->∃bZ,h'.get? b=some {o with slots:=bZ})(free:∀b o,b∉ch->s.heap.get? b=some o->H b=none->H' b=none)(there:∀b o,b∉ch->s.heap.get? b=some o->∃cD,h'.get? b=some cD)(fi:∀b xs,H b=some (.tup xs)->H' b=some (.tup xs))(iT:∀b o u,H b=some (.ed o u)->H' b=some (.ed o u))(ji:∀b ps,H b=some (.qb ps)->∃more,H' b=some (.qb (ps++more)))(ns:∀m,s.heap.Ns X.env.locals m->h'.Ns X.env.locals m)(bj:fj X.prog X.w H' h')(bp:rE g'):
  Inv X pins σ H' {s with heap:=h',gens:=g',drawn:=d',toks:=t'}:=by
 have V7:∀b o,X.ia.heap.get? b=some o->b≠X.env.locals:=λb o e=>eA (i1 (c' e) I.ok.above);have Gi:∀b o,X.ia.heap.get? b=some o->b∉X.ex->b∉ch:=λb o e ax ae=>by
  rcases(iA b ae).1 with z|z
  .exact ax z
  .exact bk (i1 (c' e) z) (rQ _)
 have cellK:∀x c,X.env.cells.lookup x=some c->∀v,s.heap.IsCell c v->h'.IsCell c v:=λx c e v⟨o,aI,hd⟩=>by
  have m5:c∉ch:=λz=>(iA c z).2.2.1 x c e rfl;by_cases ar:c∈X.fs
  .obtain⟨bZ,q⟩:=slot c o (I.pJ x c e) ar m5 aI (I.mT x c e);exact⟨_,q,hd⟩
  .exact⟨o,keep c o (I.pJ x c e) ar m5 aI (I.mT x c e),hd⟩
 refine⟨I.ok,I.os,bp,⟨λb o e n ae ax=>?_,λb o e n ae ax=>?_,λb o e n ax=>?_,λb o e ax=>?_,λb xs e=>fi b xs (I.base.fi b xs e),λb o xs e=>iT b o xs (I.base.iT b o xs e),λb ps e=>?_⟩,?_,λx c e=>?_,?_,λx c e=>?_,λp ay=>?_,bj,I.len⟩
 .exact keep b o (V7 b o e) ae (Gi b o e ax) (I.base.keep b o e n ae ax) (I.base.free b o e n ax)
 .obtain⟨bZ,aF⟩:=I.base.slot b o e n ae ax;obtain⟨n8,aG⟩:=slot b _ (V7 b o e) ae (Gi b o e ax) aF (I.base.free b o e n ax);exact⟨n8,aG⟩
 .obtain⟨cD,aF⟩:=I.base.there b o e ax;exact free b cD (Gi b o e ax) aF (I.base.free b o e n ax)
 .obtain⟨cD,aF⟩:=I.base.there b o e ax;exact there b cD (Gi b o e ax) aF
 .obtain⟨gh,aF⟩:=I.base.ji b ps e;obtain⟨gv,aG⟩:=ji b _ aF;exact⟨gh++gv,by rw[aG,PI]⟩
 .obtain⟨m,aX,au⟩:=I.loc;refine⟨m,ns m aX,λi x v aF aG cR=>?_⟩;obtain⟨u,r,l⟩:=au i x v aF aG cR;refine⟨u,r,?_⟩;rcases l with l|⟨k,c,e,z⟩
  .exact .inl l
  .exact .inr ⟨k,c,e,cellK x c e _ z⟩
 .obtain⟨v,z⟩:=I.cell x c e;exact⟨v,cellK x c e v z⟩
 .obtain⟨m,⟨o,_,_,aI,_⟩,_⟩:=I.loc;exact free _ o (λz=>(iA _ z).2.1 rfl) aI I.free
 .obtain⟨v,o,aI,hd⟩:=I.cell x c e;exact free c o (λz=>(iA c z).2.2.1 x c e rfl) aI (I.mT x c e)
 .obtain⟨e,n,ne,gw,d⟩:=I.pin p ay;have m5:p.1∉ch:=λz=>(iA p.1 z).2.2.2 p ay rfl;exact⟨keep p.1 p.2 ne gw m5 e n,free p.1 p.2 m5 e n,ne,gw,d⟩
theorem Inv.un{t':Nat}(I:Inv X pins σ H s)(u:hQ X.fs [] H H' s.heap h')(bj:fj X.prog X.w H' h'):Inv X pins σ H' {s with heap:=h',toks:=t'}:=by
 obtain⟨m,⟨o,es,ep,aI,r⟩,_⟩:=id I.loc;obtain⟨bZ,hr⟩:=u.any aI I.free (by simp);exact I.step (g':=s.gens) (d':=s.drawn) (ch:=[]) (λ_ z=>nomatch z) (λb o _ ae _ e n=>u.keep b o e n ae (by simp)) (λb o _ ae _ e n=>u.slot b o e n ae (by simp)) (λb o _ e n=>u.free b o e n (by simp)) (λb o _ e=>u.there b o e (by simp)) u.fi u.iT u.ji (λc4 hm=>by
  obtain⟨cD,qP,mS,i_,cT⟩:=hm;rw[aI]at i_;cases i_;exact⟨_,qP,mS,hr,cT⟩) bj I.bare
theorem Inv.call{g':Array GenState}{t':Nat}{d':Drawn}{ch:c7}(I:Inv X pins σ H s)(u:hQ (ff X.stack) ch H H' s.heap h')(bj:fj X.prog X.w H' h')(bp:rE g')(iA:∀b∈ch,(b∈X.ex\/X.ia.heap.objs.size<=b)/\b≠X.env.locals/\(∀x c,X.env.cells.lookup x=some c->c≠b)/\∀p∈X.ez++pins,p.1≠b):
  Inv X pins σ H' {s with heap:=h',gens:=g',drawn:=d',toks:=t'}:=by
 obtain⟨m,⟨o,es,ep,aI,r⟩,_⟩:=id I.loc;obtain⟨bZ,hr⟩:=u.any aI I.free λz=>(iA _ z).2.1 rfl;exact I.step (ch:=ch) iA (λb o hr ae ar e n=>u.keep b o e n (λz=>(dX.mp (I.Dn b z)).elim hr ae) ar) (λb o _ _ ar e n=>u.any e n ar) (λb o ar e n=>u.free b o e n ar) (λb o ar e=>u.there b o e ar) u.fi u.iT u.ji (λc4 hm=>by
  obtain⟨cD,qP,mS,i_,cT⟩:=hm;rw[aI]at i_;cases i_;exact⟨_,qP,mS,hr,cT⟩) bj bp
theorem Inv.turned{t':Nat}{it:Addr}(I:Inv X pins σ H s)(k:∀b o,b≠it->s.heap.get? b=some o->h'.get? b=some o)(aX:H it=none)(hr:it≠X.env.locals)(ai:it∈X.ex\/X.ia.heap.objs.size<=it)(aj:∀x c,X.env.cells.lookup x=some c->c≠it)(bC:∀p∈X.ez++pins,p.1≠it):Inv X pins σ H {s with heap:=h',toks:=t'}:=by
 have V9:∀b u,H b=some u->b≠it:=λb u e z=>by rw[z,aX]at e;cases e
 refine I.step (g':=s.gens) (d':=s.drawn) (ch:=[it]) (λb ae=>?_) (λb o _ _ ar e _=>k b o (λz=>ar (by simp[z])) e) (λb o _ _ ar e _=>⟨o.slots,k b o (λz=>ar (by simp[z])) e⟩) (λ_ _ _ _ n=>n)
  (λb o ar e=>⟨o,k b o (λz=>ar (by simp[z])) e⟩) (λ_ _ e=>e) (λ_ _ _ e=>e) (λb ps e=>⟨#[],by rw[e];simp⟩) (λm hm=>?_) (λb u e=>?_) I.bare
 .have e:b=it:=by simpa using ae
  subst e;exact⟨ai,hr,aj,bC⟩
 .obtain⟨o,es,ep,aI,r⟩:=hm;exact⟨o,es,ep,k _ o (d3 hr) aI,r⟩
 .refine(I.bj b u e).md (λc v ar q=>k c v ?_ q) (λ_ q=>q) λ_ _ q=>q;rcases ar with z|z
  .rw[z];exact V9 b u e
  .exact V9 c _ z
theorem Inv.tok(I:Inv X pins σ H s)(t:Nat):Inv X pins σ H {s with toks:=t}:=I.un (h':=s.heap) (t':=t) hQ.refl I.bj
theorem Inv.kept{t':Nat}(I:Inv X pins σ H s)(k:∀b u,s.heap.get? b=some u->h'.get? b=some u):Inv X pins σ H {s with heap:=h',toks:=t'}:=I.un (hQ.kept k) (I.bj.kept k)
theorem Inv.laid{a:Addr}{t':Nat}(I:Inv X pins σ H s)(k:∀b u,s.heap.get? b=some u->h'.get? b=some u)(ay:s.heap.objs.size<=a)(new:er X.prog X.w (upd H a o) h' a o):
  Inv X pins σ (upd H a o) {s with heap:=h',toks:=t'}:=I.un (hQ.laid k ay (I.bj.fresh ay)) (I.bj.laid k ay new)
theorem Inv.write{x:Addr}{t':Nat}(I:Inv X pins σ H s)(iY:AZ (H x))(he:e=x\/H e=some (.own x))(k:∀b u,b≠e->s.heap.get? b=some u->h'.get? b=some u)(y2:∃u,h'.get? e=some u)(new:er X.prog X.w (upd H x o) h' x o):Inv X pins σ (upd H x o) {s with heap:=h',toks:=t'}:=I.un (hQ.write iY he k y2) (I.bj.write iY he k y2 new)
theorem Inv.Wr{Wq:dD}(I:Inv X pins σ H s)(h:∀p∈Wq,s.heap.get? p.1=some p.2/\H p.1=none/\p.1≠X.env.locals/\p.1∉X.fs/\∀v,p.2.data≠.cell v):Inv X Wq σ H s:=
 ⟨I.ok,I.os,I.bare,I.base,I.loc,I.cell,I.free,I.mT,λp ay=>(ip.mp ay).elim (λz=>I.pin p (yb _ z)) (h p),I.bj,I.len⟩
theorem Oo{N:ck}(eH:N.Nodup){i j:Nat}(a:N[i]?=some x)(b:N[j]?=some x):i=j:=by obtain⟨ai,aF⟩:=gn.mp a;obtain⟨aj,aG⟩:=gn.mp b;exact(List.getElem_inj eH).mp (aF.trans aG.symm)
theorem XX{M:mC}{E:b6}{i:Nat}{Q:Unit->aO->Prop}(I:Inv X pins σ H s)(eH:X.N.Nodup)(hi:X.N[i]?=some x)(ax:Loc X.env.scope x)(r:RelV v u)(h:∀s',Inv X pins (σ.set i (some v)) H s'->(∃a,iK a s.heap s'.heap/\(a=X.env.locals\/X.env.cells.lookup x=some a))->Q () s')(bE:X.fn x=true\/X.env.scope.names.lookup x=some .local:=by first|exact .inl rfl|exact .inr rfl|assumption):aN M A (storeName X.env x u) Q E s:=by
 obtain⟨m,aX,au⟩:=id I.loc;have Ls:(X.env.scope.kind==.class||(X.env.scope.kind==.module&&X.env.locals !=X.env.globals))=false:=by rw[I.ok.kind];rfl
 have FO:i<σ.length:=by rw[I.len];exact(gn.mp hi).1
 have pJ:=I.pJ;have tracked:∀{a:Addr}{h':Heap},(∃o,s.heap.get? a=some o/\H a=none)->iK a s.heap h'->fj X.prog X.w H h':=λ{a h'}av hs b ob e=>by
  obtain⟨_,_,FL⟩:=av;refine(I.bj b ob e).md (λc d8 ar q=>(hs.2 c ?_).trans q) (λ_ q=>q) λ_ _ q=>q;rintro rfl;rcases ar with rfl|ar
  .rw[FL]at e;cases e
  .rw[FL]at ar;cases ar
 rcases ax with aD|aD
 .refine wpAny_storeName_local aD aX (λh' jC hs=>?_) Ls;obtain⟨aij,_,_,agV,_⟩:=id aX;refine h _ ⟨I.ok,I.os,I.bare,⟨λb o e n ae ax=>?_,λb o e n ae ax=>?_,I.base.free,λb o e ax=>?_,I.base.fi,I.base.iT,I.base.ji⟩,⟨_,jC,λj y me aF aG cR=>?_⟩,λy c e=>?_,I.free,I.mT,λp ay=>?_,tracked ⟨aij,agV,I.free⟩ hs,by simpa using I.len⟩ ⟨_,hs,.inl rfl⟩
  .exact(hs.2 b (eA (i1 (c' e) I.ok.above))).trans (I.base.keep b o e n ae ax)
  .obtain⟨bZ,aF⟩:=I.base.slot b o e n ae ax;exact⟨bZ,(hs.2 b (eA (i1 (c' e) I.ok.above))).trans aF⟩
  .obtain⟨cD,aF⟩:=I.base.there b o e ax;exact⟨cD,(hs.2 b (eA (i1 (c' e) I.ok.above))).trans aF⟩
  .by_cases bu:j=i
   .subst bu;rw[hi]at aF;cases aF;rw[RH FO]at aG;cases aG;exact⟨u,r,.inl ⟨aD,by simp⟩⟩
   .rw[RG (d3 bu)]at aG;obtain⟨u',cT,q⟩:=au j y me aF aG cR;refine⟨u',cT,?_⟩;rcases q with⟨k,e⟩|⟨k,c,e,z⟩
    .refine .inl ⟨k,?_⟩;have:y≠x:=λe=>bu (Oo eH aF (e▸hi));simp[this,e]
    .exact .inr ⟨k,c,e,z.sameBut hs (pJ y c e)⟩
  .obtain⟨d8,z⟩:=I.cell y c e;exact⟨d8,z.sameBut hs (pJ y c e)⟩
  .obtain⟨e,n,ne,gw,d⟩:=I.pin p ay;exact⟨(hs.2 p.1 ne).trans e,n,ne,gw,d⟩
 .have Lz:X.fn x=true:=by
   rcases bE with z|z
   .exact z
   .rw[z]at aD;cases aD
  obtain⟨c,ar⟩:=I.ok.has x (.inl aD);obtain⟨d8,z⟩:=I.cell x c ar;refine wpAny_storeName_cell I.ok.kind aD ar z (λh' j_ hs=>?_);obtain⟨jX,Vq,agY⟩:=id z;refine h {s with heap:=h'} ⟨I.ok,I.os,I.bare,⟨λb o e n ae ax=>?_,λb o e n ae ax=>?_,I.base.free,λb o e ax=>?_,I.base.fi,I.base.iT,I.base.ji⟩,⟨m,aX.sameBut hs (d3 (pJ x c ar)),λj y me aF aG cR=>?_⟩,λy nD e=>?_,I.free,I.mT,λp ay=>?_,tracked ⟨jX,Vq,I.mT x c ar⟩ hs,by simpa using I.len⟩ ⟨c,hs,.inr ar⟩
  .exact(hs.2 b (eA (i1 (c' e) (I.ok.wa x c Lz ar)))).trans (I.base.keep b o e n ae ax)
  .obtain⟨bZ,aF⟩:=I.base.slot b o e n ae ax;exact⟨bZ,(hs.2 b (eA (i1 (c' e) (I.ok.wa x c Lz ar)))).trans aF⟩
  .obtain⟨cD,aF⟩:=I.base.there b o e ax;exact⟨cD,(hs.2 b (eA (i1 (c' e) (I.ok.wa x c Lz ar)))).trans aF⟩
  .by_cases bu:j=i
   .subst bu;rw[hi]at aF;cases aF;rw[RH FO]at aG;cases aG;exact⟨u,r,.inr ⟨.inl aD,c,ar,j_⟩⟩
   .rw[RG (d3 bu)]at aG;obtain⟨u',cT,q⟩:=au j y me aF aG cR;refine⟨u',cT,?_⟩;rcases q with q|⟨k,nD,e,cZ⟩
    .exact .inl q
    .refine .inr ⟨k,nD,e,cZ.sameBut hs ?_⟩;rintro rfl;exact bu (Oo eH aF (I.ok.inj _ _ _ e ar▸hi))
  .by_cases U_:nD=c
   .subst U_;exact⟨_,j_⟩
   .obtain⟨m9,aP⟩:=I.cell y nD e;exact⟨m9,aP.sameBut hs U_⟩
  .obtain⟨e,n,ne,gw,d⟩:=I.pin p ay;refine⟨(hs.2 p.1 ?_).trans e,n,ne,gw,d⟩;intro q;rw[q,Vq]at e;have kP:jX=p.2:=fG e;exact d d8 (by rw[<-kP];exact agY)
theorem GF{M:mC}{E:b6}{i:Nat}{Q:Unit->aO->Prop}(I:Inv X pins σ H s)(eH:X.N.Nodup)(hi:X.N[i]?=some x)(ax:Loc X.env.scope x)(r:RelV v u)(h:∀s',Inv X pins (σ.set i (some v)) H s'->Q () s')(bE:X.fn x=true\/X.env.scope.names.lookup x=some .local:=by first|exact .inl rfl|exact .inr rfl|assumption):aN M A (storeName X.env x u) Q E s:=
 XX I eH hi ax r (λs' tm _=>h s' tm) bE
theorem Inv.Kh{s':aO}{ch:c7}(I:Inv X pins σ H s)(aI:s'.os=s.os)(u:hQ (ff X.stack) ch H H' s.heap s'.heap)(bj:fj X.prog X.w H' s'.heap)(bp:rE s'.gens)(iA:∀b∈ch,(b∈X.ex\/X.ia.heap.objs.size<=b)/\b≠X.env.locals/\(∀x c,X.env.cells.lookup x=some c->c≠b)/\∀p∈X.ez++pins,p.1≠b):Inv X pins σ H' s':=by obtain⟨h',g',d',t',cD⟩:=s';have e:cD=s.os:=aI;subst e;exact I.call (g':=g') (t':=t') (d':=d') u bj bp iA
end
noncomputable abbrev bP:=Value->Option Addr->af->Prop
noncomputable abbrev St:=List (Option V)
noncomputable abbrev a4:=V->af->Prop
noncomputable abbrev TE:=St->af->a4->Prop
noncomputable abbrev ir:=St->af->(Bool->af->Prop)->Prop
noncomputable abbrev fo:=St->af->(List V->af->Prop)->Prop
structure Ends where
 cp:St->af->Prop
 h9:a4
 ho:St->af->Prop:=λ_ _=>False
 ec:St->af->Prop:=λ_ _=>False
noncomputable abbrev e_:=Ends->St->af->Prop
noncomputable def ih(X:bx)(pins:dD)(σ:St)(Q:a4)(u:Value)(s':aO):Prop:=∃v H',Inv X pins σ H' s'/\RelV v u/\Q v H'
noncomputable def Fb(X:bx)(pins:dD)(σ:St)(Q:Bool->af->Prop)(b:Bool)(s':aO):Prop:=∃H',Inv X pins σ H' s'/\Q b H'
noncomputable def Pu(X:bx)(pins:dD)(σ:St)(Q:List V->af->Prop)(us:dk)(s':aO):Prop:=∃vs H',Inv X pins σ H' s'/\cX vs us/\Q vs H'
noncomputable def tE(X:bx)(pins:dD)(D:Ends)(f:Flow)(s':aO):Prop:=
 match f with
 |.next=>∃a' H',Inv X pins a' H' s'/\D.cp a' H'
 |.brk=>∃a' H',Inv X pins a' H' s'/\D.ho a' H'
 |.cont=>∃a' H',Inv X pins a' H' s'/\D.ec a' H'
 |.ret u=>∃v a' H',Inv X pins a' H' s'/\RelV v u/\D.h9 v H'
noncomputable def bl(X:bx)(e:Expr)(t:TE):Prop:=
 ∀(pins:dD)(s:aO)(σ:St)(H:af)(Q:a4),Inv X pins σ H s->t σ H Q->aN (a_ X.prog X.w) X.A (eval e X.env) (ih X pins σ Q) X.dT s
noncomputable def kX(X:bx)(e:Expr)(t:ir):Prop:=
 ∀(pins:dD)(s:aO)(σ:St)(H:af)(Q:Bool->af->Prop),Inv X pins σ H s->t σ H Q->aN (a_ X.prog X.w) X.A (Cd e X.env (eval e X.env)) (Fb X pins σ Q) X.dT s
noncomputable def hl(X:bx)(e:Expr)(t:ir):Prop:=
 ∀(whole:Sem Value)(pins:dD)(s:aO)(σ:St)(H:af)(Q:Bool->af->Prop),Inv X pins σ H s->t σ H Q->aN (a_ X.prog X.w) X.A (Cd e X.env whole) (Fb X pins σ Q) X.dT s
theorem hl.pt{t:ir}(h:hl X e t):kX X e t:=h _
noncomputable def fl(X:bx)(es:hB)(t:fo):Prop:=
 ∀(pos:Pos)(pins:dD)(s:aO)(σ:St)(H:af)(Q:List V->af->Prop),Inv X pins σ H s->t σ H Q->aN (a_ X.prog X.w) X.A (spliced (gX pos (dt es X.env))) (Pu X pins σ Q) X.dT s
noncomputable def fM(X:bx)(st:Stmt)(t:e_):Prop:=
 ∀(pins:dD)(s:aO)(σ:St)(H:af)(D:Ends),Inv X pins σ H s->t D σ H->aN (a_ X.prog X.w) X.A (exec st X.env) (tE X pins D) X.dT s
noncomputable def gc(X:bx)(st:List Stmt)(t:e_):Prop:=
 ∀(pins:dD)(s:aO)(σ:St)(H:af)(D:Ends),Inv X pins σ H s->t D σ H->aN (a_ X.prog X.w) X.A (execs st X.env) (tE X pins D) X.dT s
theorem bA{α:Type}{t:Sem α}{Q tD:α->aO->Prop}{M:mC}{E:b6}(h:aN M A t Q E s)(et:∀a s,Q a s->tD a s):aN M A t tD E s:=hf h et λ_ _ x=>x
section
variable{X:bx}
inductive TK(i:Nat)(σ:ao.St)(H:af)(Q:a4):Prop where
 |mk (v:_) (aT:σ[i]?=some (some v)) (aP:Q v H)
noncomputable def sQ(v:V):TE:=λ_ H Q=>Q v H
theorem abo{i:Nat}(eH:X.N[i]?=some x)(a7:JR X.env.scope x)(hd:(x==("__debug__":Str))=false:=by decide)(lY:(x==("__classdict__":Str))=false:=by decide):bl X (.Name x pos) (TK i):=by
 intro pins s σ H Q I h;obtain⟨v,e,h⟩:=h;obtain⟨m,aX,au⟩:=I.loc;obtain⟨u,r,l⟩:=au i x v eH e a7;have fin:ih X pins σ Q u s:=⟨v,H,I,r,h⟩
 rcases l with⟨aD,hm⟩|⟨aD,c,ar,ug⟩
 .exact Xw (wpAny_loadName_local I.ok.kind aD aX hm fin) hd
 .rcases aD with aD|aD
  .exact Xw (wpAny_loadName_cell I.ok.kind aD ar ug fin) hd
  .exact Xw (wpAny_loadName_free I.ok.kind aD ar ug fin lY) hd
theorem bc{i j pos}:bl X (.Constant (.int i) j pos) (sQ (.int i)):=λ_ _ _ H _ I h=>wpAny_Constant_int ⟨.int i,H,I.tok _,⟨_,rfl⟩,h⟩
theorem iz{b j pos}:bl X (.Constant (.bool b) j pos) (sQ (.aM b)):=λ_ _ _ H _ I h=>Constant_bool ⟨.aM b,H,I,rfl,h⟩
theorem oT{j pos}:bl X (.Constant .none j pos) (sQ .bJ):=λ_ _ _ H _ I h=>Constant_none ⟨.bJ,H,I,rfl,h⟩
theorem cv{x j pos}:bl X (.Constant (.str x) j pos) (sQ (.str x)):=λ_ _ _ H _ I h=>Calls.Constant_str ⟨.str x,H,I.tok _,⟨_,rfl⟩,h⟩
noncomputable def ij(X:bx)(x:Str):Prop:=X.env.kindOf x=some .globalImplicit
theorem uz{E:b6}{Q:b6}(I:Inv X pins σ H s)(bp:ij X x)(hm:X.mg x=some u)(h:Q u s)(hd:(x==("__debug__":Str))=false:=by decide):aN (a_ X.prog X.w) X.A (eval (.Name x pos) X.env) Q E s:=
 YV I.ok.kind bp (Calls.loadGlobal_global (by rw[I.ok.glob];exact I.mod.glob.keeps I.ho) hm h) hd
theorem rb{E:b6}{Q:b6}(I:Inv X pins σ H s)(bp:ij X x)(hm:X.mg x=none)(a7:h0 x=some u)(h:Q u s)(aX:x≠"__name__":=by decide)(hd:(x==("__debug__":Str))=false:=by decide):aN (a_ X.prog X.w) X.A (eval (.Name x pos) X.env) Q E s:=by obtain⟨oX,ai,aj⟩:=I.mod.blt;exact YV I.ok.kind bp (Calls.loadGlobal_builtin (by rw[I.ok.glob];exact I.mod.glob.keeps I.ho) hm (by rw[I.ok.blt];exact ai.keeps I.ho) ((aj x aX).trans a7) h) hd
theorem Qo(bp:ij X x)(hm:X.mg x=some u)(r:RelV v u)(hd:(x==("__debug__":Str))=false:=by decide):bl X (.Name x pos) (sQ v):=
 λ_ _ _ H _ I h=>uz I bp hm ⟨v,H,I,r,h⟩ hd
theorem ĩ(bp:ij X x)(hm:X.mg x=none)(a7:h0 x=some u)(r:RelV v u)(aX:x≠"__name__":=by decide)(hd:(x==("__debug__":Str))=false:=by decide):bl X (.Name x pos) (sQ v):=
 λ_ _ _ H _ I h=>rb I bp hm a7 ⟨v,H,I,r,h⟩ aX hd
variable{a b:Expr}{bW aA:TE}{pos:Pos}
noncomputable def ym(X:bx)(op:th)(a b:Expr)(t:TE):Prop:=
 ∀(pins:dD)(s:aO)(σ:St)(H:af)(Q:a4),Inv X pins σ H s->t σ H Q->
  aN (a_ X.prog X.w) X.A (eval a X.env) (λv dI=>aN (a_ X.prog X.w) X.A (eval b X.env) (λu uV=>aN (a_ X.prog X.w) X.A (i5 op v u) (ih X pins σ Q) X.dT uV) X.dT dI) X.dT s
theorem Yf(b:Expr){op:th}(h:op≠.In)(aj:op≠.NotIn):v9 op b=false:=by
 have aF:(op==CmpOp.In)=false:=by cases op<;>first|rfl|exact bk rfl h
 have aG:(op==CmpOp.NotIn)=false:=by cases op<;>first|rfl|exact bk rfl aj
 cases b<;>simp[v9,aF,aG]
inductive Rc(x:V)(H1:af)(Q:Bool->af->Prop):Prop where
 |mk (c:_) (aT:x=.aM c) (aP:Q c H1)
noncomputable def W2(t:TE):ir:=λσ H Q=>t σ H λx H1=>Rc x H1 Q
theorem abp{op:th}{t:TE}(h:ym X op a b t)(ai:v9 op b=false:=by first|exact Yf _ (by decide) (by decide)|rfl):bl X (.Compare a [op] [b] pos) t:=λpins s σ H Q I hw=>ajN (h pins s σ H Q I hw) ai
theorem uF{op:th}{t:TE}(h:ym X op a b t)(ai:v9 op b=false:=by first|exact Yf _ (by decide) (by decide)|rfl):kX X (.Compare a [op] [b] pos) (W2 t):=by intro pins s σ H Q I hw;refine ajR (bA (h pins s σ H _ I hw) λv s1 ai=>bA ai λu s2 aj=>bA aj λc aW hz=>?_) ai;obtain⟨x,H1,aL,cq,bw⟩:=hz;obtain⟨d,rfl,q⟩:=bw;cases cq;exact nc ⟨H1,aL,q⟩
theorem i7{e:Expr}{t:TE}(h:bl X e t)(he:∀whole,Cd e X.env whole=(do let v <-whole;uU e.pos;oO [v] (truthy v)):=by intro _;rfl):kX X e (W2 t):=by intro pins s σ H Q I hw;refine isTrue_plain (bA (h pins s σ H _ I hw) λv s1 hz=>?_) (he _);obtain⟨x,H1,aL,cq,bw⟩:=hz;obtain⟨d,rfl,q⟩:=bw;cases cq;exact nc ⟨H1,aL,q⟩
variable{o4 Hp:ir}{rest:hB}
noncomputable def aek(t u:ir):ir:=λσ H Q=>t σ H λc H1=>if c=true then u σ H1 Q else Q false H1
noncomputable def aja(t u:ir):ir:=λσ H Q=>t σ H λc H1=>if c=true then Q true H1 else u σ H1 Q
noncomputable def ael(t:ir):ir:=λσ H Q=>t σ H λc H1=>Q (!c) H1
theorem Qp(av:kX X a o4):hl X (.BoolOp .And [a] pos) o4:=by
 intro u6 pins s σ H Q I h;refine isTrue_and (bA (av pins s σ H Q I h) λc s1 e=>?_);cases c with
 |true=>exact isTrue_and_nil e
 |false=>exact e
theorem kz(av:kX X a o4):hl X (.BoolOp .Or [a] pos) o4:=by
 intro u6 pins s σ H Q I h;refine isTrue_or (bA (av pins s σ H Q I h) λc s1 e=>?_);cases c with
 |false=>exact isTrue_or_nil e
 |true=>exact e
theorem HO(av:kX X a o4)(ae:hl X (.BoolOp .And (b::rest) pos) Hp):hl X (.BoolOp .And (a::b::rest) pos) (aek o4 Hp):=by
 intro u6 pins s σ H Q I h;refine isTrue_and (bA (av pins s σ H _ I h) λc s1 hz=>?_);obtain⟨H1,aL,bw⟩:=hz;cases c with
 |true=>exact ae u6 pins s1 σ H1 Q aL bw
 |false=>exact⟨H1,aL,bw⟩
theorem jb(av:kX X a o4)(ae:hl X (.BoolOp .Or (b::rest) pos) Hp):hl X (.BoolOp .Or (a::b::rest) pos) (aja o4 Hp):=by
 intro u6 pins s σ H Q I h;refine isTrue_or (bA (av pins s σ H _ I h) λc s1 hz=>?_);obtain⟨H1,aL,bw⟩:=hz;cases c with
 |true=>exact⟨H1,aL,bw⟩
 |false=>exact ae u6 pins s1 σ H1 Q aL bw
theorem jx(av:kX X a o4):kX X (.UnaryOp .Not a pos) (ael o4):=by intro pins s σ H Q I h;exact isTrue_not (av pins s σ H (λc H1=>Q (!c) H1) I h)
noncomputable def xx(bW aA:TE):TE:=λσ H Q=>bW σ H λx H1=>∃c,x=.aM c/\if c=true then aA σ H1 Q else Q (.aM false) H1
noncomputable def aem(bW aA:TE):TE:=λσ H Q=>bW σ H λx H1=>∃c,x=.aM c/\if c=true then Q (.aM true) H1 else aA σ H1 Q
noncomputable def acJ(bW:TE):TE:=λσ H Q=>bW σ H λx H1=>∃c,x=.aM c/\Q (.aM (!c)) H1
theorem kA{op}{t:TE}(h:bl X a t):bl X (.BoolOp op [a] pos) t:=λpins s σ H Q I hw=>BoolOp_one (h pins s σ H Q I hw)
theorem hF(av:bl X a bW)(ae:bl X (.BoolOp .And (b::rest) pos) aA):bl X (.BoolOp .And (a::b::rest) pos) (xx bW aA):=by
 intro pins s σ H Q I h;refine BoolOp_and (bA (av pins s σ H _ I h) λv s1 hz=>?_);obtain⟨x,H1,aL,cq,bw⟩:=hz;obtain⟨c,rfl,bw⟩:=bw;cases cq;refine nc ?_;cases c with
 |true=>exact ae pins s1 σ H1 Q aL bw
 |false=>exact⟨.aM false,H1,aL,rfl,bw⟩
theorem acK(av:bl X a bW)(ae:bl X (.BoolOp .Or (b::rest) pos) aA):bl X (.BoolOp .Or (a::b::rest) pos) (aem bW aA):=by
 intro pins s σ H Q I h;refine BoolOp_or (bA (av pins s σ H _ I h) λv s1 hz=>?_);obtain⟨x,H1,aL,cq,bw⟩:=hz;obtain⟨c,rfl,bw⟩:=bw;cases cq;refine nc ?_;cases c with
 |false=>exact ae pins s1 σ H1 Q aL bw
 |true=>exact⟨.aM true,H1,aL,rfl,bw⟩
theorem Rd(av:bl X a bW):bl X (.UnaryOp .Not a pos) (acJ bW):=by intro pins s σ H Q I h;refine UnaryOp_ (bA (av pins s σ H _ I h) λv s1 hz=>?_);obtain⟨x,H1,aL,cq,bw⟩:=hz;obtain⟨c,rfl,bw⟩:=bw;cases cq;exact not_of (nc ⟨.aM (!c),H1,aL,rfl,bw⟩)
noncomputable def ai9(t:ir)(bW aA:TE):TE:=λσ H Q=>t σ H λc H1=>if c=true then bW σ H1 Q else aA σ H1 Q
theorem ψ(ar:kX X c o4)(av:bl X a bW)(ae:bl X b aA):bl X (.IfExp c a b pos) (ai9 o4 bW aA):=by
 intro pins s σ H Q I h;refine wpAny_IfExp (bA (ar pins s σ H _ I h) λd s1 hz=>?_);obtain⟨H1,aL,bw⟩:=hz;cases d with
 |true=>exact av pins s1 σ H1 Q aL bw
 |false=>exact ae pins s1 σ H1 Q aL bw
end
noncomputable def aJ(K:aQ)(H:af)(a:Addr)(xs:aR):Prop:=
 fm H a (.lst xs)\/
  ∃(o:Obj)(its:ks)(n:Nat),K.lookup a=some o/\o.cls=.type "list"/\o.dict=none/\o.data=.seq its n/\its.size<=sizeLine/\cX xs its.toList
noncomputable def cG(K:aQ)(H:af)(a:Addr)(xs:aR):Prop:=
 fm H a (.tup xs)\/
  ∃(o:Obj)(its:ks)(n:Nat),K.lookup a=some o/\o.cls=.type "tuple"/\o.data=.seq its n/\its.size<=sizeLine/\cX xs its.toList
noncomputable def aen:Value->Option V
 |.none=>some .bJ
 |.bool b=>some (.aM b)
 |.int i _=>some (.int i)
 |.str x _=>some (.str x)
 |.bytes b _=>some (.mI b)
 |.float b _=>some (.wt b)
 |.ref a=>some (.ref a)
 |.type n=>some (.ty n)
 |_=>none
theorem RelV.abs(r:RelV x u):aen u=some x:=by
 cases x with
 |bJ=>cases r;rfl
 |aM _=>cases r;rfl
 |int _=>obtain⟨t,rfl⟩:=r;rfl
 |str _=>obtain⟨t,rfl⟩:=r;rfl
 |mI _=>obtain⟨t,rfl⟩:=r;rfl
 |wt _=>obtain⟨t,rfl⟩:=r;rfl
 |ref _=>cases r;rfl
 |ty _=>cases r;rfl
theorem RelV.inj{y:V}(r:RelV x u)(q:RelV y u):x=y:=fG (r.abs.symm.trans q.abs)
theorem cX.inj:∀{xs ys:aR}{us:dk},cX xs us->cX ys us->xs=ys
 |_,_,_,.nil,.nil=>rfl
 |_,_,_,.cons r t,.cons cT t'=>by rw[r.inj cT,cX.inj t t']
section
variable{X:bx}{pins:dD}{σ:St}{H:af}{s:aO}{a:Addr}{xs ys:aR}
theorem aJ.of{K:aQ}(h:H a=some (.lst xs)):aJ K H a xs:=.inl (.inl h)
theorem cG.of{K:aQ}(h:H a=some (.tup xs)):cG K H a xs:=.inl (.inl h)
theorem Inv.list(I:Inv X pins σ H s)(h:aJ X.K H a xs):∃its:List Value,cX xs its/\PlainL s.heap a its.toArray/\xs.length<=sizeLine:=by
 rcases h with h|⟨o,its,n,aD,ar,hd,hs,hz,r⟩
 .obtain⟨z,its,n,r,e⟩:=h.ok I.bj;exact⟨its,r,⟨_,n,e,rfl,rfl,rfl⟩,z⟩
 .refine⟨its.toList,r,⟨o,n,I.ef a o aD,ar,hd,by simpa using hs⟩,?_⟩;have e:=r.length;simp only[PJ]at e;omega
theorem Inv.tuple(I:Inv X pins σ H s)(h:cG X.K H a xs):∃its:List Value,cX xs its/\tn s.heap a its.toArray/\xs.length<=sizeLine:=by
 rcases h with h|⟨o,its,n,aD,ar,hs,hz,r⟩
 .obtain⟨z,its,r,p⟩:=h.ok I.bj;exact⟨its,r,p,z⟩
 .refine⟨its.toList,r,⟨o,I.ef a o aD,ar,n,by simpa using hs⟩,?_⟩;have e:=r.length;simp only[PJ]at e;omega
theorem Inv.MH(I:Inv X pins σ H s)(h:aJ X.K H a xs)(h':aJ X.K H a ys):xs=ys:=by
 obtain⟨its,r,⟨o,n,e,_,_,d⟩,_⟩:=I.list h;obtain⟨its',cT,⟨cD,ew,bB,_,_,d'⟩,_⟩:=I.list h';rw[e]at bB;cases bB;rw[d]at d';injection d' with fJ _;have:its=its':=by simpa using ek Ys fJ
 subst this;exact r.inj cT
theorem Inv.W9(I:Inv X pins σ H s)(h:cG X.K H a xs)(h':cG X.K H a ys):xs=ys:=by
 obtain⟨its,r,⟨o,e,_,n,d⟩,_⟩:=I.tuple h;obtain⟨its',cT,⟨cD,bB,_,ew,d'⟩,_⟩:=I.tuple h';rw[e]at bB;cases bB;rw[d]at d';injection d' with fJ _;have:its=its':=by simpa using ek Ys fJ
 subst this;exact r.inj cT
end
noncomputable abbrev bx.m'(X:bx)(E:b6):bx:={X with dT:=E}
noncomputable abbrev bx.w_(X:bx):bx:=X.m' λ_ _=>False
theorem bx.Ok.m'{X:bx}(ok:X.Ok)(E:b6):(X.m' E).Ok:=
 ⟨ok.mod,ok.kind,ok.glob,ok.blt,ok.above,ok.inj,ok.has,ok.wa,ok.hd,ok.frames,ok.rr,ok.Fp,ok.bs,ok.qK,ok.w',ok.yS,ok.j5,ok.r9⟩
theorem bx.Ok.qf{X:bx}{E:b6}(ok:(X.m' E).Ok):X.Ok:=
 ⟨ok.mod,ok.kind,ok.glob,ok.blt,ok.above,ok.inj,ok.has,ok.wa,ok.hd,ok.frames,ok.rr,ok.Fp,ok.bs,ok.qK,ok.w',ok.yS,ok.j5,ok.r9⟩
section
variable{X:bx}{pins:dD}{σ:St}{H:af}{s:aO}{E:b6}
theorem Inv.m'(I:Inv X pins σ H s)(E:b6):Inv (X.m' E) pins σ H s:=⟨I.ok.m' E,I.os,I.bare,I.base,I.loc,I.cell,I.free,I.mT,I.pin,I.bj,I.len⟩
theorem Inv.qf(I:Inv (X.m' E) pins σ H s):Inv X pins σ H s:=⟨I.ok.qf,I.os,I.bare,I.base,I.loc,I.cell,I.free,I.mT,I.pin,I.bj,I.len⟩
theorem tE.qf{D:Ends}{f:Flow}(h:tE (X.m' E) pins D f s'):tE X pins D f s':=by
 cases f with
 |next=>obtain⟨a',H',I,q⟩:=h;exact⟨a',H',I.qf,q⟩
 |brk=>obtain⟨a',H',I,q⟩:=h;exact⟨a',H',I.qf,q⟩
 |cont=>obtain⟨a',H',I,q⟩:=h;exact⟨a',H',I.qf,q⟩
 |ret u=>obtain⟨v,a',H',I,r,q⟩:=h;exact⟨v,a',H',I.qf,r,q⟩
theorem gc.w_{st:List Stmt}{t:e_}(h:gc X.w_ st t):gc X st t:=λpins s σ H D I hw=>
 hf (h pins s σ H D (I.m' _) hw) (λ_ _ q=>q.qf) λ_ _ z=>iJ z
end
section
variable{X:bx}{st:Stmt}{rest:List Stmt}{t u:e_}{e:Expr}{te:TE}{pos:Pos}
noncomputable def sO:e_:=λD σ H=>D.cp σ H
noncomputable def ht(t u:e_):e_:=λD σ H=>t {D with cp:=u D} σ H
theorem dJ:gc X [] sO:=λ_ _ σ H _ I h=>DK ⟨σ,H,I,h⟩
theorem a9(ai:fM X st t)(aj:gc X rest u):gc X (st::rest) (ht t u):=by
 intro pins s σ H D I h;refine Xx (bA (ai pins s σ H {D with cp:=u D} I h) λf s1 q=>?_);cases f with
 |next=>
  obtain⟨a',H',tm,q⟩:=q;exact aj pins s1 a' H' D tm q
 |ret v=>exact q
 |brk=>exact q
 |cont=>exact q
theorem bg(ai:fM X st t):gc X [st] t:=by
 intro pins s σ H D I h;refine Xx (bA (ai pins s σ H D I h) λf s1 q=>?_);cases f with
 |next=>exact DK q
 |ret v=>exact q
 |brk=>exact q
 |cont=>exact q
theorem Inv.quiet(I:Inv X pins σ H s):interactive X.env=false:=by simp[interactive,I.ok.kind]
noncomputable def acL(te:TE):e_:=λD σ H=>te σ H λ_ H1=>D.cp σ H1
theorem gZ(he:bl X e te)(hs:zZ e none pos.line X.env=pure false:=by rfl):fM X (.Expr e pos) (acL te):=by intro pins s σ H D I h;exact wpAny_Expr_any (bA (he pins s σ H _ I h) λv s1⟨x,H1,aL,cq,bw⟩=>⟨σ,H1,aL,bw⟩) I.quiet hs
noncomputable def rz(te:TE):e_:=λD σ H=>te σ H D.h9
theorem cm(he:bl X e te):fM X (.Return (some e) pos) (rz te):=by intro pins s σ H D I h;exact wpAny_Return_some (bA (he pins s σ H _ I h) λv s1⟨x,H1,aL,cq,bw⟩=>⟨x,σ,H1,aL,cq,bw⟩)
noncomputable def JH(c:ir)(t u:e_):e_:=λD σ H=>c σ H λb H1=>if b=true then t D σ H1 else u D σ H1
theorem dH{a b:List Stmt}(ar:kX X c qc)(av:gc X a t)(ae:gc X b u):fM X (.If c a b pos) (JH qc t u):=by
 intro pins s σ H D I h;refine wpAny_If (bA (ar pins s σ H _ I h) λd s1 hz=>?_);obtain⟨H1,aL,bw⟩:=hz;cases d with
 |true=>exact av pins s1 σ H1 D aL bw
 |false=>exact ae pins s1 σ H1 D aL bw
noncomputable def Rf:e_:=λ_ _ _=>False
theorem zv:fM X st Rf:=λ_ _ _ _ _ _ h=>h.elim
theorem XZ{NY:List Stmt}:gc X NY Rf:=λ_ _ _ _ _ _ h=>h.elim
noncomputable abbrev kr:=V->St->af->(St->af->Prop)->Prop
noncomputable abbrev vW:=List V->St->af->(St->af->Prop)->Prop
end
noncomputable def rR(X:bx)(target:Expr)(t:kr):Prop:=
 ∀(pins:dD)(s:aO)(σ:St)(H:af)(v:V)(u:Value)(Q:St->af->Prop),Inv X pins σ H s->RelV v u->t v σ H Q->
  aN (a_ X.prog X.w) X.A (Bq target X.env u) (λ_ s'=>∃a' H',Inv X pins a' H' s'/\Q a' H') X.dT s
noncomputable def A9(X:bx)(cd:hB)(t:vW):Prop:=
 ∀(pins:dD)(s:aO)(σ:St)(H:af)(vs:aR)(us:dk)(Q:St->af->Prop),Inv X pins σ H s->cX vs us->t vs σ H Q->
  aN (a_ X.prog X.w) X.A (assignInOrder ((v7 cd X.env).map (·.2)) us) (λ_ s'=>∃a' H',Inv X pins a' H' s'/\Q a' H') X.dT s
section
variable{X:bx}{pos:Pos}
noncomputable def jD(i:Nat):kr:=λv σ H Q=>Q (σ.set i (some v)) H
theorem eo{i:Nat}(eH:X.N.Nodup)(hi:X.N[i]?=some x)(ax:Loc X.env.scope x)(bE:X.fn x=true\/X.env.scope.names.lookup x=some .local:=by first|exact .inl rfl|exact .inr rfl|assumption):rR X (.Name x pos) (jD i):=by intro pins s σ H v u Q I r h;exact ajP (GF I eH hi ax r (λs' tm=>⟨_,H,tm,h⟩) bE)
noncomputable def xT:vW:=λvs σ H Q=>vs=[]/\Q σ H
inductive p4(t:kr)(u:vW)(vs:aR)(σ:ao.St)(H:af)(Q:(ao.St->af->Prop)):Prop where
 |mk (v:_) (r:_) (aT:vs=v::r) (aP:t v σ H λa' H'=>u r a' H' Q)
theorem zJ:A9 X [] xT:=by intro pins s σ H vs us Q I r h;obtain⟨e,h⟩:=h;subst e;cases r;exact assignInOrder_nil ⟨σ,H,I,h⟩
theorem oK{e:Expr}{es:hB}{t:kr}{u:vW}(ai:rR X e t)(aj:A9 X es u)(hs:(v7 (e::es) X.env).map (·.2)=Bq e X.env::(v7 es X.env).map (·.2):=by rfl):A9 X (e::es) (p4 t u):=by
 intro pins s σ H vs us Q I r h;obtain⟨v,HI,aF,h⟩:=h;subst aF;cases r with
 |cons r lB=>
  rw[hs];refine assignInOrder_cons (bA (ai pins s σ H _ _ _ I r h) λ_ s1 hz=>?_);obtain⟨s7,H1,aL,bw⟩:=hz;exact aj pins s1 s7 H1 _ _ Q aL lB bw
inductive vm(K:aQ)(n:Nat)(t:vW)(v:ao.V)(σ:ao.St)(H:af)(Q:(ao.St->af->Prop)):Prop where
 |mk (a:_) (xs:_) (aT:v=.ref a) (aP:cG K H a xs) (bh:xs.length=n) (cf:t xs σ H Q)
theorem Ih{k:Nat}{t:vW}{n:Nat}(ar:X.calm=true)(h:A9 X es t)(aX:(v7 es X.env).length=n:=by rfl)(sj:(v7 es X.env).findIdx? (·.1)=none:=by rfl):rR X (.Tuple es k pos) (vm X.K n t):=by intro pins s σ H v u Q I r hw;obtain⟨a,xs,aF,bo,au,hw⟩:=hw;subst aF;cases r;obtain⟨its,cc,cO,hz⟩:=I.tuple bo;refine assign_Tuple_tuple (I.ok.hd ar) cO (by simp[aX,<-au,cc.length]) sj λh' ax=>?_;have aL:Inv X pins σ H {s with heap:=h'}:=I.kept (t':=s.toks) λb o e=>ax b o (eA (c' e)) e;exact h pins _ σ H xs _ Q aL (by simpa using cc) hw
noncomputable def xU(te:TE)(g:kr):e_:=λD σ H=>te σ H λx H1=>g x σ H1 D.cp
theorem abq{g:kr}(he:bl X e te)(bp:rR X dZ g)(hs:swapsWithSole [dZ] e pos.line X.env=pure false:=by rfl)(hw:swappedStores [dZ] e X.env=pure none:=by rfl)(ai:(v7 [dZ] X.env).map (·.2)=[Bq dZ X.env]:=by rfl):fM X (.Assign [dZ] e pos) (xU te g):=by intro pins s σ H D I h;refine wpAny_Assign_stores (bA (he pins s σ H _ I h) λv s1 hz=>?_) hs hw;obtain⟨x,H1,aL,cq,bw⟩:=hz;rw[ai];exact bA (bp pins s1 σ H1 x v _ aL cq bw) λ_ s2 q=>q
theorem c8{i:Nat}(eH:X.N.Nodup)(hi:X.N[i]?=some x)(ax:Loc X.env.scope x)(he:bl X e te)(hs:zZ e (some (.Name x pos')) pos.line X.env=pure false:=by rfl)(bE:X.fn x=true\/X.env.scope.names.lookup x=some .local:=by first|exact .inl rfl|exact .inr rfl|assumption):
  fM X (.Assign [.Name x pos'] e pos) (xU te (jD i)):=by intro pins s σ H D I h;refine ajL (bA (he pins s σ H _ I h) λv s1 hz=>?_) hs;obtain⟨y,H1,aL,cq,bw⟩:=hz;exact GF aL eH hi ax cq (λs2 br=>⟨_,H1,br,bw⟩) bE
noncomputable def abr(c:ir)(aA:e_):e_:=λD σ H=>∃W:Nat->St->af->Prop,(∃m,W m σ H)/\∀m σ H,W m σ H->
 c σ H λb H1=>if b=true then∃N:St->af->Prop,(∀a' H',N a' H'->∃c4,c4<m/\W c4 a' H')/\aA {D with cp:=N,ec:=N,ho:=D.cp} σ H1 else D.cp σ H1
theorem G0{body:List Stmt}(ay:PassesOwn (a_ X.prog X.w) X.A X.env X.dT)(ar:kX X c qc)(ae:gc X body aA):fM X (.While c body [] pos) (abr qc aA):=by
 intro pins s σ H D I h;obtain⟨W,⟨m0,u5⟩,turn⟩:=h;refine wpAny_While (codeAny_whileLoop (λn s'=>∃a' H',Inv X pins a' H' s'/\W n a' H') ?_ m0 ⟨σ,H,I,u5⟩);rintro n s1 ⟨s7,H1,aL,jj⟩;refine z9 ay (bA (ar pins s1 s7 H1 _ aL (turn n s7 H1 jj)) λb s2 hz=>?_);obtain⟨ah,br,cH⟩:=hz;cases b with
 |true=>
  obtain⟨N,eH,cH⟩:=cH;rw[bO rfl];refine z9 ay (bA (ae pins s2 s7 ah _ br cH) λf aW hJ=>?_);cases f with
  |next=>
   obtain⟨gL,aU,dg,fB⟩:=hJ;obtain⟨c4,hm,oe⟩:=eH gL aU fB;exact⟨c4,hm,gL,aU,dg,oe⟩
  |cont=>
   obtain⟨gL,aU,dg,fB⟩:=hJ;obtain⟨c4,hm,oe⟩:=eH gL aU fB;exact⟨c4,hm,gL,aU,dg,oe⟩
  |brk=>exact hJ
  |ret v=>exact hJ
 |false=>
  rw[bz ei];exact DK ⟨s7,ah,br,cH⟩
structure gm where
 go:Nat->af->Prop
 oi:Nat->af->V->af->Prop
 stop:Nat->af->Prop
end
noncomputable def va(X:bx)(pins:dD)(H:af)(b:Addr):Prop:=
 H b=none/\b≠X.env.locals/\b∉X.fs/\(b∈X.ex\/X.ia.heap.objs.size<=b)/\(∀x c,X.env.cells.lookup x=some c->c≠b)/\∀p∈X.ez++pins,p.1≠b
theorem Inv.pN{H':af}{s:aO}{b:Addr}(I:Inv X pins σ H s)(ae:s.heap.objs.size<=b)(aX:H' b=none):va X pins H' b:=by
 refine⟨aX,tu (i1 I.lt ae),I.ah4 ae,.inr (e1 I.hY ae),λx c e z=>?_,λp ay z=>?_⟩
 .obtain⟨v,q⟩:=I.cell x c e;exact bk (i1 q.lt (by rw[z];exact ae)) (rQ _)
 .exact bk (i1 (c' (I.pin p ay).1) (by rw[z];exact ae)) (rQ _)
structure Turn(P:cA)(w:bU)(K:aQ)(dZ:Expr)(J:gm)(b0:c7)(it:Addr)(ib:Nat->Heap->Prop):Prop where
 mem:it∈b0
 obj:∀i h,ib i h->∀b∈b0,∃o,h.get? b=some o/\∀v,o.data≠.cell v
 keep:∀i h h',ib i h->(∀b∈b0,∀o,h.get? b=some o->h'.get? b=some o)->ib i h'
 item:∀(X:bx),X.prog=P->X.w=w->X.K=K->X.calm=true->∀(i:Nat)(pins:dD)(s:aO)(σ:St)(H:af)(E:b6),Inv X pins σ H s->(∀b∈b0,va X pins H b)->ib i s.heap->J.go i H->
  aN (a_ P w) X.A (gT (.ref it)) (λr s1=>∃u,r=some u/\
   aN (a_ P w) X.A (MG dZ (.ref it) u) (λ_ s2=>∃x H',Inv X pins σ H' s2/\RelV x u/\J.oi i H x H'/\ib (i+1) s2.heap/\∀b∈b0,H' b=none) E s1) E s
 done:∀(X:bx),X.prog=P->X.w=w->X.K=K->X.calm=true->∀(i:Nat)(pins:dD)(s:aO)(σ:St)(H:af)(E:b6),Inv X pins σ H s->(∀b∈b0,va X pins H b)->ib i s.heap->J.stop i H->
  aN (a_ P w) X.A (gT (.ref it)) (λr s1=>r=none/\Inv X pins σ H s1) E s
 self:∀(A:dn)(i:Nat)(s:aO)(Q:b6)(E:b6),ib i s.heap->Q (.ref it) s->aN (a_ P w) A (C5 (.ref it)) Q E s
noncomputable abbrev el:=St->af->(gm->af->Prop)->Prop
noncomputable def Jm(X:bx)(pins:dD)(σ:St)(dZ:Expr)(R:gm->af->Prop)(Ml:Value)(s2:aO):Prop:=
 ∃(it:Addr)(b0:c7)(ib:Nat->Heap->Prop)(J:gm)(H':af),Ml=.ref it/\Inv X pins σ H' s2/\Turn X.prog X.w X.K dZ J b0 it ib/\ib 0 s2.heap/\(∀b∈b0,va X pins H' b)/\R J H'
noncomputable def mE(X:bx)(dZ iter:Expr)(wi:el):Prop:=
 ∀(pins:dD)(s:aO)(σ:St)(H:af)(R:gm->af->Prop),Inv X pins σ H s->wi σ H R->
  aN (a_ X.prog X.w) X.A (eval iter X.env) (λv s1=>aN (a_ X.prog X.w) X.A (C5 v) (Jm X pins σ dZ R) X.dT s1) X.dT s
theorem xy{M:mC}{E:b6}{s:aO}{o:Obj}{Q:Unit->aO->Prop}(aI:s.heap.get? it=some o)(ar:o.cls=.type n)(hd:o.data=.fields vs)(aX:["enumerate","zip","dict_itemiterator","dict_reverseitemiterator","odict_iterator","itertools.zip_longest","itertools.pairwise"].contains n=false)(et:Q () s):aN M A (MG dZ (.ref it) u) Q E s:=by
  unfold MG;cases dZ<;>first
    |exact ba et
    | (cases u<;>first
        |exact ba et
        | (refine aq (wpAny_load aI ?_)
           rw[ar,hd];show aN M A (if(["enumerate","zip","dict_itemiterator","dict_reverseitemiterator","odict_iterator","itertools.zip_longest","itertools.pairwise"].contains n&&vs[0]?==some (jg _))=true then _ else _) Q E s;rw[bz (by intro h;rw[aX,tc]at h;cases h)];exact ba et))
noncomputable def kW(K:aQ)(a:Addr):gm:=
 ⟨λi H=>∃xs x,aJ K H a xs/\xs[i]?=some x,λi H x H'=>H'=H/\∀xs,aJ K H a xs->xs[i]?=some x,λi H=>∃xs,aJ K H a xs/\xs.length<=i⟩
noncomputable def AA(K:aQ)(a:Addr):gm:=
 ⟨λi H=>∃xs x,cG K H a xs/\xs[i]?=some x,λi H x H'=>H'=H/\∀xs,cG K H a xs->xs[i]?=some x,λi H=>∃xs,cG K H a xs/\xs.length<=i⟩
noncomputable def xZ(lo:Int)(n:Nat):gm:=⟨λi _=>i<n,λi H x H'=>H'=H/\x=.int (lo+i),λi _=>n<=i⟩
theorem ZM{K:aQ}(a it:Addr):Turn P w K dZ (kW K a) [it] it (λi h=>h.IsListIter it a i)where
 mem:=by simp
 obj:=λi h st b ae=>by
  have e:b=it:=by simpa using ae
  subst e;obtain⟨o,e,c,d⟩:=st;exact⟨o,e,λv z=>by rw[d]at z;cases z⟩
 keep:=λi h h' st k=>st.at λo e=>k it (by simp) o e
 item:=by intro X eV hw eP ar i pins s σ H E I bE st bp;subst eV hw eP;obtain⟨xs,x,bo,ax⟩:=bp;obtain⟨its,cc,p,hz⟩:=I.list bo;obtain⟨u,bL,dF⟩:=cc.get ax;obtain⟨f0,f1,f2,cS,f4,d7⟩:=bE it (by simp);refine wpAny_pyNext_list_item st p.isList (x:=u) (by simpa using bL) λh' eJ eE=>?_;have aL:Inv X pins σ H {s with heap:=h'}:=I.turned (t':=s.toks) (λb o ae e=>(eE.2 b ae).trans e) f0 f1 cS f4 d7;obtain⟨o,e,c,d⟩:=id eJ;exact⟨u,rfl,xy (s:={s with heap:=h'}) e c d (by decide) ⟨x,H,aL,dF,⟨rfl,λys cb=>by rw[I.MH cb bo];exact ax⟩,eJ,λb ae=>(bE b ae).1⟩⟩
 done:=by intro X eV hw eP ar i pins s σ H E I bE st bp;subst eV hw eP;obtain⟨xs,bo,ax⟩:=bp;obtain⟨its,cc,p,hz⟩:=I.list bo;obtain⟨f0,f1,f2,cS,f4,d7⟩:=bE it (by simp);have au:=cc.length;exact wpAny_pyNext_list_end (I.ok.hd ar) st p.isList (by simp;omega) λh' dq=>⟨rfl,I.turned (t':=s.toks) (λb o ae e=>dq b o ae e) f0 f1 cS f4 d7⟩
 self:=λ_ _ _ _ _ st h=>wpAny_pyIter_listiter st h
theorem YO{K:aQ}(a it:Addr):Turn P w K dZ (AA K a) [it] it (λi h=>h.IsTupleIter it a i)where
 mem:=by simp
 obj:=λi h st b ae=>by
  have e:b=it:=by simpa using ae
  subst e;obtain⟨o,e,c,d⟩:=st;exact⟨o,e,λv z=>by rw[d]at z;cases z⟩
 keep:=λi h h' st k=>st.at λo e=>k it (by simp) o e
 item:=by intro X eV hw eP ar i pins s σ H E I bE st bp;subst eV hw eP;obtain⟨xs,x,bo,ax⟩:=bp;obtain⟨its,cc,p,hz⟩:=I.tuple bo;obtain⟨u,bL,dF⟩:=cc.get ax;obtain⟨f0,f1,f2,cS,f4,d7⟩:=bE it (by simp);refine wpAny_pyNext_tuple_item st (show s.heap.IsTuple a its.toArray from p) (x:=u) (by simpa using bL) λh' eJ eE=>?_;have aL:Inv X pins σ H {s with heap:=h'}:=I.turned (t':=s.toks) (λb o ae e=>(eE.2 b ae).trans e) f0 f1 cS f4 d7;obtain⟨o,e,c,d⟩:=id eJ;exact⟨u,rfl,xy (s:={s with heap:=h'}) e c d (by decide) ⟨x,H,aL,dF,⟨rfl,λys cb=>by rw[I.W9 cb bo];exact ax⟩,eJ,λb ae=>(bE b ae).1⟩⟩
 done:=by intro X eV hw eP ar i pins s σ H E I bE st bp;subst eV hw eP;obtain⟨xs,bo,ax⟩:=bp;obtain⟨its,cc,p,hz⟩:=I.tuple bo;obtain⟨f0,f1,f2,cS,f4,d7⟩:=bE it (by simp);have au:=cc.length;exact wpAny_pyNext_tuple_end (I.ok.hd ar) st (show s.heap.IsTuple a its.toArray from p) (by simp;omega) λh' dq=>⟨rfl,I.turned (t':=s.toks) (λb o ae e=>dq b o ae e) f0 f1 cS f4 d7⟩
 self:=λ_ _ _ _ _ st h=>wpAny_pyIter_tupleiter st h
theorem YP{K:aQ}(it:Addr)(lo:Int)(n:Nat):Turn P w K dZ (xZ lo n) [it] it (λi h=>Eg h it (lo+(i:Nat)*1) ((n:Int)-(i:Nat)) 1)where
 mem:=by simp
 obj:=λi h st b ae=>by
  have e:b=it:=by simpa using ae
  subst e;exact⟨_,st,λv z=>by
   have cZ:D3 _=xR v:=z;cases cZ⟩
 keep:=λi h h' st k=>k it (by simp) _ st
 item:=by intro X eV hw eP ar i pins s σ H E I bE st bp;subst eV hw eP;obtain⟨f0,f1,f2,cS,f4,d7⟩:=bE it (by simp);have W:=Walks.range (prog:=X.prog) (w:=X.w) (I.ok.hd ar) it lo 1 n;refine W.item i s _ _ bp st λv h' aH a7 eJ bG=>?_;obtain⟨t,rfl⟩:=a7;have aL:Inv X pins σ H {s with heap:=h',toks:=aH}:=I.turned (λb o ae e=>bG b o (by simpa using ae) e) f0 f1 cS f4 d7;refine⟨_,rfl,xy (s:={s with heap:=h',toks:=aH}) (n:="range_iterator") eJ rfl rfl (by decide) ⟨.int (lo+i),H,aL,⟨t,?_⟩,⟨rfl,rfl⟩,eJ,λb ae=>(bE b ae).1⟩⟩;rw[Int.mul_one]
 done:=by intro X eV hw eP ar i pins s σ H E I bE st bp;subst eV hw eP;obtain⟨f0,f1,f2,cS,f4,d7⟩:=bE it (by simp);exact aj0 (I.ok.hd ar) st (by have:n<=i:=bp;omega) λh' dq=>⟨rfl,I.turned (t':=s.toks) (λb o ae e=>dq b o ae e) f0 f1 cS f4 d7⟩
 self:=λ_ _ _ _ _ st h=>XD st h
section
variable{X:bx}{dZ:Expr}
inductive aeo(K:aQ)(x:V)(H1:af)(R:gm->af->Prop):Prop where
 |mk (a:_) (aT:x=.ref a) (aP:(∃xs,aJ K H1 a xs)) (bh:R (kW K a) H1)
noncomputable def acM(K:aQ)(du:TE):el:=λσ H R=>du σ H λx H1=>aeo K x H1 R
noncomputable def TL(K:aQ)(du:TE):el:=λσ H R=>du σ H λx H1=>∃a,x=.ref a/\(∃xs,cG K H1 a xs)/\R (AA K a) H1
theorem hU(au:bl X l du):mE X dZ l (acM X.K du):=by
 intro pins s σ H R I h;refine bA (au pins s σ H _ I h) λv s1 hz=>?_;obtain⟨x,H1,aL,cq,bw⟩:=hz;obtain⟨a,e,⟨xs,bo⟩,q⟩:=bw;subst e;cases cq;obtain⟨its,cc,p,hz⟩:=aL.list bo;refine u9 p.isList ?_;refine⟨s1.heap.objs.size,[s1.heap.objs.size],_,_,H1,rfl,aL.kept (t':=s1.toks) λb o e=>c9 _ e,ZM a _,⟨_,eY _ rfl,rfl,rfl⟩,λb ae=>?_,q⟩;have e:b=s1.heap.objs.size:=by simpa using ae
 subst e;exact aL.pN (cL _) (aL.bj.fresh (cL _))
theorem abt(au:bl X l du):mE X dZ l (TL X.K du):=by
 intro pins s σ H R I h;refine bA (au pins s σ H _ I h) λv s1 hz=>?_;obtain⟨x,H1,aL,cq,bw⟩:=hz;obtain⟨a,e,⟨xs,bo⟩,q⟩:=bw;subst e;cases cq;obtain⟨its,cc,p,hz⟩:=aL.tuple bo;refine wpAny_pyIter_tuple (show s1.heap.IsTuple a its.toArray from p) ?_;refine⟨s1.heap.objs.size,[s1.heap.objs.size],_,_,H1,rfl,aL.kept (t':=s1.toks) λb o e=>c9 _ e,YO a _,⟨_,eY _ rfl,rfl,rfl⟩,λb ae=>?_,q⟩;have e:b=s1.heap.objs.size:=by simpa using ae
 subst e;exact aL.pN (cL _) (aL.bj.fresh (cL _))
theorem Β{s:aO}{R:gm->af->Prop}{E:b6}{lo hi:Int}{t:Tok}{aH:Nat}(I:Inv X pins σ H s)(ai:-(2 ^ 62)<=lo)(aj:lo<2 ^ 62)(bC:-(2 ^ 62)<=hi)(c5:hi<2 ^ 62)(q:R (xZ lo (hi-lo).toNat) H):aN (a_ X.prog X.w) X.A (C5 (.ref s.heap.objs.size)) (Jm X pins σ dZ R) E {s with heap:=s.heap.push {cls:=.type "range",data:=.fields #[.int lo t,.int hi u,.int 1 v]},toks:=aH}:=by
 refine wpAny_pyIter_range (IsRange.new ..) (small_one ai aj bC c5) ?_;have aL:Inv X pins σ H {s with heap:=s.heap.push {cls:=.type "range",data:=.fields #[.int lo t,.int hi u,.int 1 v]},toks:=aH}:=I.kept λb o e=>c9 _ e;refine⟨(s.heap.push {cls:=.type "range",data:=.fields #[.int lo t,.int hi u,.int 1 v]}).objs.size,[(s.heap.push {cls:=.type "range",data:=.fields #[.int lo t,.int hi u,.int 1 v]}).objs.size],_,_,H,rfl,
  aL.kept (t':=aH) λb o e=>c9 _ e,YP _ lo (hi-lo).toNat,?_,λb ae=>?_,q⟩
 .have aF:lo+((0:Nat):Int)*1=lo:=by simp
  have aG:(((hi-lo).toNat:Nat):Int)-((0:Nat):Int)=Ao lo hi 1:=by rw[rangeSize_one];split<;>omega
  show Eg _ _ (lo+((0:Nat):Int)*1) ((((hi-lo).toNat:Nat):Int)-((0:Nat):Int)) 1;rw[aF,aG];exact eY _ rfl
 .have e:b=(s.heap.push {cls:=.type "range",data:=.fields #[.int lo t,.int hi u,.int 1 v]}).objs.size:=by simpa using ae
  subst e;exact aL.pN (cL _) (aL.bj.fresh (cL _))
noncomputable def acN(bW:fo):el:=λσ H R=>bW σ H λvs H1=>∃j:Int,vs=[.int j]/\-(2 ^ 62)<=j/\j<2 ^ 62/\R (xZ 0 j.toNat) H1
theorem X1{bW:fo}{p:Pos}(bp:ij X "range")(hm:X.mg "range"=none)(av:fl X [a] bW)(hs:dt [a] X.env=[(false,eval a X.env)]:=by rfl):mE X dZ (.Call (.Name "range" p) [a] [] pos) (acN bW):=by
 intro pins s σ H R I h;refine Call_ (rb I bp hm boot_range (A_ (bA (av pos pins s σ H _ I h) λus s1 hz=>?_) hs rfl));obtain⟨vs,H1,aL,cq,bw⟩:=hz;obtain⟨j,e,bw,cH,q⟩:=bw;subst e;cases cq with
 |cons r lB=>
  cases lB;obtain⟨t,rfl⟩:=r;exact call_range_1 (Β aL (by omega) (by omega) bw cH (by simpa using q))
noncomputable def aep(wi:el)(g:kr)(aA:e_):e_:=λD σ H=>wi σ H λJ H1=>∃W:Nat->Nat->St->af->Prop,(∃m,W 0 m σ H1)/\∀i m σ H,W i m σ H->
 (J.stop i H/\D.cp σ H)\/(J.go i H/\∃N:St->af->Prop,(∀a' H',N a' H'->∃c4,c4<m/\W (i+1) c4 a' H')/\∀x H',J.oi i H x H'->g x σ H' λgA ah=>aA {D with cp:=N,ec:=N,ho:=D.cp} gA ah)
noncomputable def Dt(b0:c7)(h:Heap):List (Addr×Obj):=b0.filterMap λb=>(h.get? b).map λo=>(b,o)
theorem Gv{b0:c7}{h:Heap}{b:Addr}(ae:b∈b0)(e:h.get? b=some o):(b,o)∈Dt b0 h:=I2.mpr ⟨b,ae,by rw[e];rfl⟩
theorem ZN{b0:c7}{h:Heap}{p:Addr×Obj}(ay:p∈Dt b0 h):p.1∈b0/\h.get? p.1=some p.2:=by
 obtain⟨b,ae,e⟩:=I2.mp ay;cases q:h.get? b with
 |none=>rw[q]at e;cases e
 |some o=>
  rw[q]at e;have bB:(b,o)=p:=fG e;subst bB;exact⟨ae,q⟩
theorem Inv.pinned{pins:dD}{s:aO}{b0:c7}(I:Inv X pins σ H s)(bE:∀b∈b0,va X pins H b)(aI:∀b∈b0,∃o,s.heap.get? b=some o/\∀v,o.data≠.cell v):Inv X (pins++Dt b0 s.heap) σ H s:=
 I.Wr λp ay=>(ip.mp ay).elim (λz=>I.pin p (my _ z)) λz=>by obtain⟨ae,e⟩:=ZN z;obtain⟨f0,f1,f2,_⟩:=bE p.1 ae;obtain⟨o,bB,d⟩:=aI p.1 ae;rw[e]at bB;cases bB;exact⟨e,f0,f1,f2,d⟩
theorem Inv.HE{pins pl:dD}(I:Inv X (pins++pl) σ H s):Inv X pins σ H s:=I.Wr λp ay=>I.pin p (my _ (yb _ ay))
theorem j6{body:List Stmt}{g:kr}(ay:PassesOwn (a_ X.prog X.w) X.A X.env X.dT)(ar:X.calm=true)(hi:mE X dZ iter wi)(bp:rR X dZ g)(ae:gc X body aA)(hs:∀x,KY iter X.env x=pure x:=by intro _;rfl):fM X (.For dZ iter body [] pos) (aep wi g aA):=by
 intro pins s σ H D I h;refine wpAny_For (bA (hi pins s σ H _ I h) λv s1 ai=>bA ai λMl s2 aj=>?_) hs;obtain⟨it,b0,ib,J,ah,e,br,T,zY,f2,W,⟨m0,u5⟩,turn⟩:=aj;subst e;have xt:∀{H':af},(∀b∈b0,H' b=none)->∀b∈b0,va X pins H' b:=λaX b ae=>⟨aX b ae,(f2 b ae).2⟩
 refine codeAny_forLoop_any (λn s'=>∃i a' H',Inv X pins a' H' s'/\ib i s'.heap/\(∀b∈b0,H' b=none)/\W i n a' H') ?_ m0 ⟨0,σ,ah,br,zY,λb ae=>(f2 b ae).1,u5⟩;rintro n aW ⟨i,gL,aU,dg,WV,UN,oe⟩;rcases turn i n gL aU oe with⟨stop,o2⟩|⟨go,N,eH,step⟩
 .refine z9 ay (bA (T.done X rfl rfl rfl ar i pins aW gL aU X.dT dg (xt UN) WV stop) λr cK hz=>?_);obtain⟨al,ko⟩:=hz;subst al;exact DK ⟨gL,aU,ko,o2⟩
 .refine z9 ay (bA (T.item X rfl rfl rfl ar i pins aW gL aU X.dT dg (xt UN) WV go) λr cK hz=>?_);obtain⟨u,al,c5⟩:=hz;subst al;refine z9 ay (bA c5 λ_ dY hz=>?_);obtain⟨x,b1,lD,C9,Pd,xr,KZ⟩:=hz;have IF:=lD.pinned (xt KZ) (T.obj _ _ xr);refine z9 ay (bA (bp _ dY gL b1 x u _ IF C9 (step x b1 Pd)) λ_ jZ hz=>?_);obtain⟨DW,kn,vC,Nz⟩:=hz;refine z9 ay (bA (ae _ jZ DW kn _ vC Nz) λf ke n2=>?_);have again:∀{qp:St}{jJ:af},Inv X (pins++Dt b0 dY.heap) qp jJ ke->N qp jJ->∃m,m<n/\∃i a' H',Inv X pins a' H' ke/\ib i ke.heap/\(∀b∈b0,H' b=none)/\W i m a' H':=λ{qp jJ}kV sF=>by obtain⟨c4,hm,OO⟩:=eH qp jJ sF;refine⟨c4,hm,i+1,qp,jJ,kV.HE,T.keep _ _ _ xr λb ae o e=>(kV.pin (b,o) (my _ (my _ (Gv ae e)))).1,λb ae=>?_,OO⟩;obtain⟨o,e,d⟩:=T.obj _ _ xr b ae;exact(kV.pin (b,o) (my _ (my _ (Gv ae e)))).2.1
  cases f with
  |next=>obtain⟨qp,jJ,kV,sF⟩:=n2;exact again kV sF
  |cont=>obtain⟨qp,jJ,kV,sF⟩:=n2;exact again kV sF
  |brk=>obtain⟨qp,jJ,kV,n2⟩:=n2;exact⟨qp,jJ,kV.HE,n2⟩
  |ret v=>obtain⟨aj4,qp,jJ,kV,Wy,n2⟩:=n2;exact⟨aj4,qp,jJ,kV.HE,Wy,n2⟩
theorem oL{K:aQ}{xs:aR}{g:kr}{aA:e_}{D:Ends}(Pv:Nat->St->af->Prop)(a8:Pv 0 σ H)(au:∀i σ H,i<=xs.length->Pv i σ H->aJ K H a xs)(hs:∀i x σ H,xs[i]?=some x->Pv i σ H->g x σ H λgA ah=>aA {D with cp:=Pv (i+1),ec:=Pv (i+1),ho:=D.cp} gA ah)(hd:∀σ H,Pv xs.length σ H->D.cp σ H):
  ∃W:Nat->Nat->St->af->Prop,(∃m,W 0 m σ H)/\∀i m σ H,W i m σ H->
   ((kW K a).stop i H/\D.cp σ H)\/((kW K a).go i H/\∃N:St->af->Prop,(∀a' H',N a' H'->∃c4,c4<m/\W (i+1) c4 a' H')/\∀x H',(kW K a).oi i H x H'->g x σ H' λgA ah=>aA {D with cp:=N,ec:=N,ho:=D.cp} gA ah):=by
 refine⟨λi m σ H=>m=xs.length-i/\i<=xs.length/\Pv i σ H,⟨xs.length,by simp,ej _,a8⟩,?_⟩;rintro i m σ H ⟨rfl,hi,p⟩;have q:=au i σ H hi p;by_cases dw:i<xs.length
 .refine .inr ⟨⟨xs,xs[i],q,by simp[dw]⟩,Pv (i+1),λa' H' gJ=>⟨xs.length-(i+1),by omega,rfl,dw,gJ⟩,λx H' y=>?_⟩;obtain⟨e,y⟩:=y;subst e;exact hs i x σ _ (y xs q) p
 .have e:i=xs.length:=by omega
  subst e;exact .inl ⟨⟨xs,q,cL _⟩,hd σ H p⟩
theorem X2{lo:Int}{n:Nat}{g:kr}{aA:e_}{D:Ends}(Pv:Nat->St->af->Prop)(a8:Pv 0 σ H)(hs:∀i σ H,i<n->Pv i σ H->g (.int (lo+i)) σ H λgA ah=>aA {D with cp:=Pv (i+1),ec:=Pv (i+1),ho:=D.cp} gA ah)(hd:∀σ H,Pv n σ H->D.cp σ H):
  ∃W:Nat->Nat->St->af->Prop,(∃m,W 0 m σ H)/\∀i m σ H,W i m σ H->
   ((xZ lo n).stop i H/\D.cp σ H)\/((xZ lo n).go i H/\∃N:St->af->Prop,(∀a' H',N a' H'->∃c4,c4<m/\W (i+1) c4 a' H')/\∀x H',(xZ lo n).oi i H x H'->g x σ H' λgA ah=>aA {D with cp:=N,ec:=N,ho:=D.cp} gA ah):=by
 refine⟨λi m σ H=>m=n-i/\i<=n/\Pv i σ H,⟨n,by simp,ej _,a8⟩,?_⟩;rintro i m σ H ⟨rfl,hi,p⟩;by_cases dw:i<n
 .refine .inr ⟨dw,Pv (i+1),λa' H' gJ=>⟨n-(i+1),by omega,rfl,dw,gJ⟩,λx H' y=>?_⟩;obtain⟨e,y⟩:=y;subst e y;exact hs i σ _ dw p
 .have e:i=n:=by omega
  subst e;exact .inl ⟨cL _,hd σ H p⟩
noncomputable abbrev js:=V->V->af->a4->Prop
end
noncomputable def gC(X:bx)(f:Value->Value->Sem Value)(r:js):Prop:=
 ∀(pins:dD)(s:aO)(σ:St)(H:af)(x y:V)(v u:Value)(Q:a4),Inv X pins σ H s->RelV x v->RelV y u->r x y H Q->
  aN (a_ X.prog X.w) X.A (f v u) (ih X pins σ Q) X.dT s
noncomputable def JG(X:bx)(f:Value->Sem Value)(r:V->af->a4->Prop):Prop:=
 ∀(pins:dD)(s:aO)(σ:St)(H:af)(x:V)(v:Value)(Q:a4),Inv X pins σ H s->RelV x v->r x H Q->
  aN (a_ X.prog X.w) X.A (f v) (ih X pins σ Q) X.dT s
noncomputable def jc(X:bx)(f:Value)(r:List V->af->a4->Prop):Prop:=
 ∀(pins:dD)(s:aO)(σ:St)(H:af)(xs:aR)(us:dk)(Q:a4),Inv X pins σ H s->cX xs us->r xs H Q->
  aN (a_ X.prog X.w) X.A (call f us) (ih X pins σ Q) X.dT s
noncomputable def aeq(X:bx)(r:V->af->(Bool->af->Prop)->Prop):Prop:=
 ∀(pins:dD)(s:aO)(σ:St)(H:af)(x:V)(v:Value)(Q:Bool->af->Prop),Inv X pins σ H s->RelV x v->r x H Q->
  aN (a_ X.prog X.w) X.A (truthy v) (Fb X pins σ Q) X.dT s
noncomputable def sR(r:js)(bW aA:TE):TE:=λσ H Q=>bW σ H λx H1=>aA σ H1 λy ah=>r x y ah Q
noncomputable def ajc(r:V->af->a4->Prop)(bW:TE):TE:=λσ H Q=>bW σ H λx H1=>r x H1 Q
inductive Dc(C:Int->Int->Prop)(g:Int->Int->V)(x:ao.V)(y:ao.V)(H:af)(Q:a4):Prop where
 |mk (i:_) (j:_) (aT:x=.int i) (aP:y=.int j) (bh:C i j) (cf:Q (g i j) H)
inductive xn(g:Int->Int->V)(x:ao.V)(y:ao.V)(H:af)(Q:a4):Prop where
 |mk (i:_) (j:_) (aT:x=.int i) (aP:y=.int j) (bh:Q (g i j) H)
inductive WA(g:Int->V)(x:V)(H:af)(Q:a4):Prop where
 |mk (i:_) (aT:x=.int i) (aP:Q (g i) H)
section
variable{X:bx}{a b c:Expr}{bW aA qc:TE}{pos:Pos}
theorem JI(av:bl X a bW)(ae:bl X b aA){R:V->V->af->Prop}(I:Inv X pins σ H s)(h:bW σ H λx H1=>aA σ H1 λy ah=>R x y ah){Q:b6}{f:Value->Value->Sem Value}(bE:∀v u s2 x y ah,Inv X pins σ ah s2->RelV x v->RelV y u->R x y ah->aN (a_ X.prog X.w) X.A (f v u) Q X.dT s2):
  aN (a_ X.prog X.w) X.A (eval a X.env) (λv dI=>aN (a_ X.prog X.w) X.A (eval b X.env) (λu uV=>aN (a_ X.prog X.w) X.A (f v u) Q X.dT uV) X.dT dI) X.dT s:=by refine bA (av pins s σ H _ I h) λv s1 hz=>?_;obtain⟨x,H1,aL,cq,bw⟩:=hz;refine bA (ae pins s1 σ H1 _ aL bw) λu s2 hz=>?_;obtain⟨y,ah,br,dV,cH⟩:=hz;exact bE v u s2 x y ah br cq dV cH
theorem b7{op:Operator}{r:js}(aI:gC X (tL op) r)(av:bl X a bW)(ae:bl X b aA):bl X (.BinOp a op b pos) (sR r bW aA):=by intro pins s σ H Q I h;exact wpAny_BinOp (JI av ae I h λv u s2 x y ah br bf bD q=>aI pins s2 σ ah x y v u Q br bf bD q)
theorem IL{op:UnaryOp}{r:V->af->a4->Prop}(aI:JG X (unaryOp op) r)(av:bl X a bW):bl X (.UnaryOp op a pos) (ajc r bW):=by intro pins s σ H Q I h;exact UnaryOp_ (bA (av pins s σ H _ I h) λv s1⟨x,H1,aL,cq,bw⟩=>aI pins s1 σ H1 x v Q aL cq bw)
theorem GA{f:Value->Value->Sem Value}{C:Int->Int->Prop}{g:Int->Int->Int}(rule:∀(i j:Int)(t u:Tok)(s:aO)(Q:b6)(E:b6),C i j->Q (.int (g i j) s.toks) {s with toks:=s.toks+1}->aN (a_ X.prog X.w) X.A (f (.int i t) (.int j u)) Q E s):
  gC X f (Dc C λi j=>.int (g i j)):=by intro pins s σ H x y v u Q I bf bD h;obtain⟨i,j,rfl,rfl,ar,q⟩:=h;obtain⟨t,rfl⟩:=bf;obtain⟨t',rfl⟩:=bD;exact rule i j t t' s _ _ ar ⟨.int (g i j),H,I.tok _,⟨_,rfl⟩,q⟩
theorem TM{f:Value->Value->Sem Value}{g:Int->Int->Int}(rule:∀(i j:Int)(t u:Tok)(s:aO)(Q:b6)(E:b6),Q (.int (g i j) s.toks) {s with toks:=s.toks+1}->aN (a_ X.prog X.w) X.A (f (.int i t) (.int j u)) Q E s):
  gC X f (xn λi j=>.int (g i j)):=by intro pins s σ H x y v u Q I bf bD h;obtain⟨i,j,rfl,rfl,q⟩:=h;obtain⟨t,rfl⟩:=bf;obtain⟨t',rfl⟩:=bD;exact rule i j t t' s _ _ ⟨.int (g i j),H,I.tok _,⟨_,rfl⟩,q⟩
theorem JJ{f:Value->Value->Sem Value}{g:Int->Int->Bool}(rule:∀(i j:Int)(t u:Tok)(s:aO)(Q:b6)(E:b6),Q (.bool (g i j)) s->aN (a_ X.prog X.w) X.A (f (.int i t) (.int j u)) Q E s):
  gC X f (xn λi j=>.aM (g i j)):=by intro pins s σ H x y v u Q I bf bD h;obtain⟨i,j,rfl,rfl,q⟩:=h;obtain⟨t,rfl⟩:=bf;obtain⟨t',rfl⟩:=bD;exact rule i j t t' s _ _ ⟨.aM (g i j),H,I,rfl,q⟩
noncomputable def aer(i j:Int):Prop:=0<j/\j<1073741824
noncomputable def aes(i j:Int):Prop:=0<=j/\j<=1000000/\i.natAbs<2 ^ 64
noncomputable def JF(i j:Int):Prop:=(-(2 ^ 64)<i/\i<2 ^ 64)\/(-(2 ^ 64)<j/\j<2 ^ 64)
theorem JF.ok{i j:Int}(h:JF i j):IntMulOk i j:=by
 rcases h with⟨ai,aj⟩|⟨ai,aj⟩
 .exact .of_left (intBits_le_64 ai aj)
 .exact .of_right (intBits_le_64 ai aj)
theorem oU:gC X (tL .Add) (xn λi j=>.int (i+j)):=TM λ_ _ _ _ _ _ _ q=>add_int q
theorem zU:gC X (tL .Sub) (xn λi j=>.int (i-j)):=TM λ_ _ _ _ _ _ _ q=>sub_int q
theorem Dz:gC X (tL .Mult) (Dc JF λi j=>.int (i*j)):=GA λ_ _ _ _ _ _ _ ar q=>mul_int q ar.ok
theorem mU:gC X (tL .FloorDiv) (Dc aer λi j=>.int (i/j)):=GA λi j _ _ _ _ _ ar q=>by have ai:(0:Int)<j:=ar.1;have aj:j<1073741824:=ar.2;exact floordiv_int (by omega) (by rw[Int.fdiv_eq_ediv_of_nonneg i (by omega)];exact q) (.inl (PyProof.noPylong_small (by omega)))
theorem jR:gC X (tL .Mod) (Dc (λ_ j=>0<j) λi j=>.int (i%j)):=GA λi j _ _ _ _ _ ar q=>by have ai:(0:Int)<j:=ar;exact mod_int' (by omega) (by rw[Int.fmod_eq_emod_of_nonneg i (by omega)];exact q)
theorem HP:gC X (tL .Pow) (Dc aes λi j=>.int (i ^ j.toNat)):=GA λ_ _ _ _ _ _ _ ar q=>pow_int_small ar.1 ar.2.1 ar.2.2 q
theorem ajs{f:Value->Sem Value}{g:Int->Int}(rule:∀(i:Int)(t:Tok)(s:aO)(Q:b6)(E:b6),Q (.int (g i) s.toks) {s with toks:=s.toks+1}->aN (a_ X.prog X.w) X.A (f (.int i t)) Q E s):
  JG X f (WA λi=>.int (g i)):=by intro pins s σ H x v Q I bf h;obtain⟨i,rfl,q⟩:=h;obtain⟨t,rfl⟩:=bf;exact rule i t s _ _ ⟨.int (g i),H,I.tok _,⟨_,rfl⟩,q⟩
theorem Ic:JG X (unaryOp .USub) (WA λi=>.int (-i)):=ajs λ_ _ _ _ _ q=>neg_int q
noncomputable def TN:V->V->Bool
 |.bJ,.bJ=>true|.bJ,.int _=>true|.int _,.bJ=>true|.bJ,.aM _=>true|.aM _,.bJ=>true|.bJ,.str _=>true|.str _,.bJ=>true
 |.int _,.int _=>true|.aM _,.aM _=>true|.str _,.str _=>true|.mI _,.mI _=>true
 |.int _,.str _=>true|.str _,.int _=>true|.aM _,.str _=>true|.str _,.aM _=>true
 |_,_=>false
noncomputable def aiF:js:=λx y H Q=>TN x y=true/\Q (.aM (decide (x=y))) H
noncomputable def aiG:js:=λx y H Q=>TN x y=true/\Q (.aM (!decide (x=y))) H
theorem C'{i j:Int}:decide (V.int i=V.int j)=(i==j):=by rw[DZ];simp
theorem Rh{j:Bool}:decide (V.aM i=V.aM j)=(i==j):=by rw[DZ];simp
theorem Qq{j:Str}:decide (V.str i=V.str j)=(i==j):=by rw[DZ];simp
theorem Qr{i j:Array UInt8}:decide (V.mI i=V.mI j)=(i.toList==j.toList):=by rw[DZ];cases i;cases j;simp
theorem gd{Q:a4}{k iX:Bool}(I:Inv X pins σ H s)(q:Q (.aM k) H)(e:k=iX):ih X pins σ Q (.bool iX) s:=by subst e;exact⟨.aM k,H,I,rfl,q⟩
theorem jd:gC X (i5 .Eq) aiF:=by
 intro pins s σ H x y v u Q I bf bD h;obtain⟨hs,q⟩:=h;cases x with
 |bJ=>
  cases bf;cases y with
  |bJ=>cases bD;exact ak1 (gd I q (by simp))
  |aM j=>cases bD;exact akZ (gd I q (by simp))
  |int j=>obtain⟨t',rfl⟩:=bD;exact ak0 (gd I q (by simp))
  |str j=>obtain⟨t',rfl⟩:=bD;exact ak2 (gd I q (by simp))
  |_=>exact bk (show false=true from hs) ei
 |aM i=>
  cases bf;cases y with
  |bJ=>cases bD;exact akX (gd I q (by simp))
  |aM j=>cases bD;exact eq_bool (gd I q Rh)
  |str j=>obtain⟨t',rfl⟩:=bD;exact akP (gd I q (by simp))
  |_=>exact bk (show false=true from hs) ei
 |int i=>
  obtain⟨t,rfl⟩:=bf;cases y with
  |bJ=>cases bD;exact akY (gd I q (by simp))
  |int j=>obtain⟨t',rfl⟩:=bD;exact eq_int (gd I q C')
  |str j=>obtain⟨t',rfl⟩:=bD;exact akQ (gd I q (by simp))
  |_=>exact bk (show false=true from hs) ei
 |str i=>
  obtain⟨t,rfl⟩:=bf;cases y with
  |bJ=>cases bD;exact ak3 (gd I q (by simp))
  |aM j=>cases bD;exact akR (gd I q (by simp))
  |int j=>obtain⟨t',rfl⟩:=bD;exact akS (gd I q (by simp))
  |str j=>obtain⟨t',rfl⟩:=bD;exact eq_str (gd I q Qq)
  |_=>exact bk (show false=true from hs) ei
 |mI i=>
  obtain⟨t,rfl⟩:=bf;cases y with
  |mI j=>obtain⟨t',rfl⟩:=bD;exact PySem.W.eq_bytes (gd I q Qr)
  |_=>exact bk (show false=true from hs) ei
 |_=>cases y<;>exact bk (show false=true from hs) ei
theorem rm:gC X (i5 .NotEq) aiG:=by
 intro pins s σ H x y v u Q I bf bD h;obtain⟨hs,q⟩:=h;cases x with
 |bJ=>
  cases bf;cases y with
  |bJ=>cases bD;exact ak8 (gd I q (by simp))
  |aM j=>cases bD;exact ak6 (gd I q (by simp))
  |int j=>obtain⟨t',rfl⟩:=bD;exact ak7 (gd I q (by simp))
  |str j=>obtain⟨t',rfl⟩:=bD;exact ak9 (gd I q (by simp))
  |_=>exact bk (show false=true from hs) ei
 |aM i=>
  cases bf;cases y with
  |bJ=>cases bD;exact ak4 (gd I q (by simp))
  |aM j=>cases bD;exact ne_bool (gd I q (ek not Rh))
  |str j=>obtain⟨t',rfl⟩:=bD;exact akT (gd I q (by simp))
  |_=>exact bk (show false=true from hs) ei
 |int i=>
  obtain⟨t,rfl⟩:=bf;cases y with
  |bJ=>cases bD;exact ak5 (gd I q (by simp))
  |int j=>obtain⟨t',rfl⟩:=bD;exact ne_int (gd I q (ek not C'))
  |str j=>obtain⟨t',rfl⟩:=bD;exact akU (gd I q (by simp))
  |_=>exact bk (show false=true from hs) ei
 |str i=>
  obtain⟨t,rfl⟩:=bf;cases y with
  |bJ=>cases bD;exact ala (gd I q (by simp))
  |aM j=>cases bD;exact akV (gd I q (by simp))
  |int j=>obtain⟨t',rfl⟩:=bD;exact akW (gd I q (by simp))
  |str j=>obtain⟨t',rfl⟩:=bD;exact ne_str (gd I q (ek not Qq))
  |_=>exact bk (show false=true from hs) ei
 |mI i=>
  obtain⟨t,rfl⟩:=bf;cases y with
  |mI j=>obtain⟨t',rfl⟩:=bD;exact PySem.W.ne_bytes (gd I q (ek not Qr))
  |_=>exact bk (show false=true from hs) ei
 |_=>cases y<;>exact bk (show false=true from hs) ei
theorem uZ:gC X (i5 .Lt) (xn λi j=>.aM (decide (i<j))):=JJ λ_ _ _ _ _ _ _ q=>lt_int q
theorem l3:gC X (i5 .LtE) (xn λi j=>.aM (decide (i<=j))):=JJ λ_ _ _ _ _ _ _ q=>le_int q
theorem sL:gC X (i5 .Gt) (xn λi j=>.aM (decide (j<i))):=JJ λ_ _ _ _ _ _ _ q=>gt_int q
theorem DA:gC X (i5 .Is) (λx y H Q=>y=.bJ/\Q (.aM (decide (x=.bJ))) H):=by
 intro pins s σ H x y v u Q I bf bD h;obtain⟨rfl,q⟩:=h;cases bD;refine is_none_gen (gd I q ?_);cases x<;>first
  | (cases bf;rfl)
  | (obtain⟨t,rfl⟩:=bf;rfl)
theorem Ń:gC X (i5 .IsNot) (λx y H Q=>y=.bJ/\Q (.aM (!decide (x=.bJ))) H):=by
 intro pins s σ H x y v u Q I bf bD h;obtain⟨rfl,q⟩:=h;cases bD;refine isnot_none_gen (gd I q ?_);cases x<;>first
  | (cases bf;rfl)
  | (obtain⟨t,rfl⟩:=bf;rfl)
theorem dE(b:Expr){op:th}(h:op≠.In:=by decide)(aj:op≠.NotIn:=by decide):v9 op b=false:=by
 have aF:(op==CmpOp.In)=false:=by cases op<;>first|rfl|exact bk rfl h
 have aG:(op==CmpOp.NotIn)=false:=by cases op<;>first|rfl|exact bk rfl aj
 cases b<;>simp[v9,aF,aG]
theorem jP{op:th}{r:js}(aI:gC X (i5 op) r)(av:bl X a bW)(ae:bl X b aA)(hm:v9 op b=false):bl X (.Compare a [op] [b] pos) (sR r bW aA):=by intro pins s σ H Q I h;exact ajN (JI av ae I h λv u s2 x y ah br bf bD q=>aI pins s2 σ ah x y v u Q br bf bD q) hm
noncomputable def D7(t:TE):ir:=λσ H Q=>t σ H λx H'=>Rc x H' Q
theorem dG{op:th}{r:js}(aI:gC X (i5 op) r)(av:bl X a bW)(ae:bl X b aA)(hm:v9 op b=false):kX X (.Compare a [op] [b] pos) (D7 (sR r bW aA)):=by
 intro pins s σ H Q I h;refine ajR (bA (av pins s σ H _ I h) λv s1⟨x,H1,aL,cq,bw⟩=>bA (ae pins s1 σ H1 _ aL bw) λu s2⟨y,ah,br,dV,cH⟩=>
  bA (aI pins s2 σ ah x y v u _ br cq dV cH) λc aW⟨z,aU,dg,p',k,e,hJ⟩=>?_) hm
 subst e;cases p';exact nc ⟨aU,dg,hJ⟩
noncomputable def Rj(r cT:js)(bW aA qc:TE):TE:=λσ H Q=>bW σ H λx H1=>aA σ H1 λy ah=>r x y ah λz aU=>∃k,z=.aM k/\
 (if k=true then qc σ aU λd8 dx=>cT y d8 dx Q else Q (.aM false) aU)
theorem w4{op xf:th}{r cT:js}(aI:gC X (i5 op) r)(i_:gC X (i5 xf) cT)(av:bl X a bW)(ae:bl X b aA)(ar:bl X c qc)(hm:lastMarks [op,xf] [b,c]=false:=by with_unfolding_all rfl):bl X (.Compare a [op,xf] [b,c] pos) (Rj r cT bW aA qc):=by
 intro pins s σ H Q I h;refine Compare_chain (bA (av pins s σ H _ I h) λv s1⟨x,H1,aL,cq,bw⟩=>chain_link (bA (ae pins s1 σ H1 _ aL bw) λu s2⟨y,ah,br,dV,cH⟩=>
  bA (aI pins s2 σ ah x y v u _ br cq dV cH) λd aW⟨z,aU,dg,p',k,e,hJ⟩=>?_)) hm
 subst e;cases p';refine nc ?_;cases k with
 |false=>exact ite_ff ⟨.aM false,aU,dg,rfl,hJ⟩
 |true=>exact ite_tt (chain_last (bA (ar pins aW σ aU _ dg hJ) λd8 cK⟨cZ,dx,ko,C8,Ny⟩=>i_ pins cK σ dx y cZ u d8 Q ko dV C8 Ny))
theorem GL{op xf:th}{r cT:js}(aI:gC X (i5 op) r)(i_:gC X (i5 xf) cT)(av:bl X a bW)(ae:bl X b aA)(ar:bl X c qc)(hm:lastMarks [op,xf] [b,c]=false:=by with_unfolding_all rfl):kX X (.Compare a [op,xf] [b,c] pos) (D7 (Rj r cT bW aA qc)):=by
 intro pins s σ H Q I h;refine isTrue_chain (bA (av pins s σ H _ I h) λv s1⟨x,H1,aL,cq,bw⟩=>test_link (bA (ae pins s1 σ H1 _ aL bw) λu s2⟨y,ah,br,dV,cH⟩=>
  bA (aI pins s2 σ ah x y v u _ br cq dV cH) λd aW⟨z,aU,dg,p',k,e,hJ⟩=>?_)) hm
 subst e;cases p';refine nc ?_;cases k with
 |false=>
  obtain⟨iX,bB,kP⟩:=hJ;cases bB;exact ite_ff ⟨aU,dg,kP⟩
 |true=>
  refine ite_tt (test_last (bA (ar pins aW σ aU _ dg hJ) λd8 cK⟨cZ,dx,ko,C8,Ny⟩=>bA (i_ pins cK σ dx y cZ u d8 _ ko dV C8 Ny) λd' dY hz=>?_));obtain⟨aP,b1,lD,C9,k2,aG,aiu⟩:=hz;subst aG;cases C9;exact nc ⟨b1,lD,aiu⟩
noncomputable def TO(K:aQ)(x:V)(H:af)(k:Bool):Prop:=
 match x with
 |.bJ=>k=false
 |.aM b=>k=b
 |.int i=>k=(i !=0)
 |.str y=>y.length<=sizeLine/\k=((y.length:Int) !=0)
 |.mI y=>y.size<=sizeLine/\k=((y.size:Int) !=0)
 |.ref p=>(∃xs,aJ K H p xs/\k=!xs.isEmpty)\/(∃xs,cG K H p xs/\k=!xs.isEmpty)\/∃kvs,H p=some (.cF kvs)/\k=!kvs.isEmpty
 |_=>False
theorem YQ{κ:Type}{kvs:List (κ×V)}{vs:List (κ×Value)}(r:gV kvs vs):(!vs.isEmpty)=!kvs.isEmpty:=by cases r<;>rfl
theorem Xq{xs:aR}{its:dk}(r:cX xs its):(!its.toArray.isEmpty)=!xs.isEmpty:=by cases r<;>simp
theorem zV:(sizeLine:Nat)<2 ^ 63:=by rw[uR];decide
theorem abg:aeq X (λx H Q=>∃k,TO X.K x H k/\Q k H):=by
 intro pins s σ H x v Q I bf h;obtain⟨k,e,q⟩:=h;have au:=zV;have hs:sizeLine=16777216:=uR;cases x with
 |bJ=>
  cases bf;have bB:k=false:=e;subst bB;exact truthy_none ⟨H,I,q⟩
 |aM b=>
  cases bf;have bB:k=b:=e;subst bB;exact nc ⟨H,I,q⟩
 |int i=>
  obtain⟨t,rfl⟩:=bf;have bB:k=(i !=0):=e;subst bB;exact PySem.P.truthy_int ⟨H,I,q⟩
 |str y=>
  obtain⟨t,rfl⟩:=bf;obtain⟨cb,bB⟩:y.length<=sizeLine/\k=((y.length:Int) !=0):=e;subst bB;exact PySem.P.truthy_str (by omega) ⟨H,I.tok _,q⟩
 |mI y=>
  obtain⟨t,rfl⟩:=bf;obtain⟨cb,bB⟩:y.size<=sizeLine/\k=((y.size:Int) !=0):=e;subst bB;exact PySem.W.truthy_bytes (by omega) ⟨H,I.tok _,q⟩
 |ref p=>
  cases bf;have bB:(∃xs,aJ X.K H p xs/\k=!xs.isEmpty)\/(∃xs,cG X.K H p xs/\k=!xs.isEmpty)\/∃kvs,H p=some (.cF kvs)/\k=!kvs.isEmpty:=e;rcases bB with⟨xs,ax,bB⟩|⟨xs,ax,bB⟩|⟨kvs,ax,bB⟩
  .subst bB;obtain⟨its,r,pl,hz⟩:=I.list ax;have hlen:=r.length;exact wpAny_truthy_list pl.isList (by simp only[gp];omega) ⟨H,I.tok _,by rw[Xq r];exact q⟩
  .subst bB;obtain⟨its,r,pl,hz⟩:=I.tuple ax;have hlen:=r.length;exact truthy_tuple pl (by simp only[gp];omega) ⟨H,I.tok _,by rw[Xq r];exact q⟩
  .subst bB;obtain⟨hz,ee,vs,r,m⟩:kvs.length<=sizeLine/\(p==kg)=false/\∃vs,gV kvs vs/\s.heap.DictOf (h1 X.prog X.w) p vs:=I.bj p _ ax;have hlen:kvs.length=vs.length:=tv r;exact wpAny_truthy_dict ee m (by omega) ⟨H,I.tok _,by rw[YQ r];exact q⟩
 |_=>exact(show False from e).elim
theorem Ε(av:bl X a bW)(he:∀whole,Cd a X.env whole=(do let v <-whole;uU a.pos;oO [v] (truthy v))):
  kX X a (λσ H Q=>bW σ H λx H'=>∃k,TO X.K x H' k/\Q k H'):=by intro pins s σ H Q I h;exact isTrue_plain (bA (av pins s σ H _ I h) λv s1⟨x,H1,aL,cq,bw⟩=>abg pins s1 σ H1 x v Q aL cq bw) (he _)
theorem g6:gC X (tL .Add) (λx y H Q=>∃i j,x=.str i/\y=.str j/\i.length+j.length<=sizeLine/\Q (.str (i++j)) H):=by intro pins s σ H x y v u Q I bf bD h;obtain⟨i,j,rfl,rfl,hz,q⟩:=h;obtain⟨t,rfl⟩:=bf;obtain⟨t',rfl⟩:=bD;exact add_str (λt' aH=>⟨.str (i++j),H,I.tok _,⟨_,rfl⟩,q⟩) hz
theorem vals1(r:cX [x] us):∃u,us=[u]/\RelV x u:=by
 cases r with
 |cons cq dV=>cases dV;exact⟨_,rfl,cq⟩
theorem vals2(r:cX [x,y] us):∃u d8,us=[u,d8]/\RelV x u/\RelV y d8:=by
 cases r with
 |cons cq dV=>
  cases dV with
  |cons p' C8=>cases C8;exact⟨_,_,rfl,cq,p'⟩
theorem ZP(ar:X.calm=true):jc X (.builtin "max") (λxs H Q=>∃i j,xs=[.int i,.int j]/\Q (.int (if j>i then j else i)) H):=by
 intro pins s σ H xs us Q I r h;obtain⟨i,j,rfl,q⟩:=h;obtain⟨u,d8,rfl,⟨t,rfl⟩,⟨t',rfl⟩⟩:=vals2 r;refine max_two_ints (I.ok.hd ar) λh' aH k=>⟨_,H,I.kept k,?_,q⟩
 by_cases bu:j>i
 .rw[bO bu,bO bu];exact⟨_,rfl⟩
 .rw[bz bu,bz bu];exact⟨_,rfl⟩
theorem X3:jc X (.type "int") (λxs H Q=>(∃i,xs=[.int i]/\Q (.int i) H)\/∃k,xs=[.aM k]/\Q (.int (if k then 1 else 0)) H):=by
 intro pins s σ H xs us Q I r h;rcases h with⟨i,rfl,q⟩|⟨k,rfl,q⟩
 .obtain⟨u,rfl,t,rfl⟩:=vals1 r;exact call_int_int ⟨.int i,H,I,⟨_,rfl⟩,q⟩
 .obtain⟨u,rfl,cq⟩:=vals1 r;cases cq;exact call_int_bool ⟨.int (if k then 1 else 0),H,I.tok _,⟨_,rfl⟩,q⟩
theorem qO:jc X (.type "str") (λxs H Q=>∃i,xs=[.int i]/\i.natAbs.log2<1920/\Q (.str (toString i)) H):=by intro pins s σ H xs us Q I r h;obtain⟨i,rfl,hz,q⟩:=h;obtain⟨u,rfl,t,rfl⟩:=vals1 r;exact ş hz ⟨.str _,H,I.tok _,⟨_,rfl⟩,q⟩
structure vk(h:Heap)(x ak C:Addr)(mA:b9):Prop where
 obj:h.get? x=some (vS C ak)
 ns:h.Ns1 ak mA
 ne:ak≠x
end
theorem ZQ{h:Heap}{mA:b9}(n:h.Ns1 ak mA):∃d2,h.get? ak=some d2/\∀name,Js name d2=some (mA name):=by
 obtain⟨o,es,ep,aI,hd,aD,_,hm⟩:=n;refine⟨o,aI,λname=>?_⟩;have e:=hm name;unfold nsFind findBy at e;rw[<-Array.find?_toList]at e;unfold Js;rw[hd];dsimp only;split
 .rename_i y q;rw[q]at e;exact ek some e
 .rename_i q;rw[q]at e;have a:es.toList.any (·.refKey)=false:=by rw[ß];intro y cb;obtain⟨z,t,y5⟩:=aD y (Array.mem_toList_iff.mp cb);simp[DictEntry.refKey,y5]
  have bR:¬es.toList.any (·.refKey)=true:=by rw[a];exact ei
  rw[bz bR];exact ek some e
theorem vk.look{mA:b9}(I:vk h x ak C mA):∃d2,PySem.W.InstAt h x (vS C ak) C (some d2)/\∀name,Js name d2=some (mA name):=
 let⟨d2,aI,au⟩:=ZQ I.ns
 ⟨d2,⟨I.obj,rfl,rfl,aI⟩,au⟩
section
variable{prog:cA}{w:bU}{A:dn}{E:b6}{s:aO}{K:aQ}{x ak C f:Addr}{mA:b9}{name:Str}{v:Value}
theorem Ņ{Q:b6}(X:K.In s.heap)(I:vk s.heap x ak C mA)(bp:Jt K C name=true)(dh:Bg K C=true)(av:c_ K (.ref C) name=some none)(a7:mA name=some v)(ahj:Ũ v=true)(h:Q v {s with toks:=s.toks+1}):
  aN (a_ prog w) A (getAttr (.ref x) name expr) Q E s:=by obtain⟨d2,J,au⟩:=I.look;exact PySem.W.get_value X J (SK bp).1 (PySem.W.findObj_own dh av rfl (by rw[au,a7])) ahj h
theorem ι{pl:Sem Bool}{Q:Value×List Value->aO->Prop}(X:K.In s.heap)(I:vk s.heap x ak C mA)(bp:Jt K C name=true)(bE:c_ K (.ref C) name=some (some (.ref f)))(cO:qF K (.ref f)=true)(a7:mA name=none)(h:Q (.ref f,[.ref x]) s):
  aN (a_ prog w) A (yW (.ref x) name pl) Q E s:=by obtain⟨d2,J,au⟩:=I.look;exact PySem.W.method_fn X J (SK bp).1 (SK bp).2 bE (pE.mp cO) (by show(Js name d2).map (·.isSome)=some false;rw[au,a7];rfl) h
theorem ņ{ns:ck}{Q:Unit->aO->Prop}(X:K.In s.heap)(I:vk s.heap x ak C mA)(hs:c_ K (.ref C) "__setattr__"=some (some (.builtin "object.__setattr__")))(ay:ű K C=true)(cO:SN K C name=some none)(dh:Bg K C=true)(hw:yr mA ns)(hsz:ns.length<=sizeLine)(h:∀h',vk h' x ak C (λy=>if y=name then some v else mA y)->iK ak s.heap h'->Q () {s with heap:=h',toks:=s.toks+2}):
  aN (a_ prog w) A (Dl (.ref x) name v) Q E s:=by obtain⟨d2,J,au⟩:=I.look;refine PySem.W.set_plain X J hs (PySem.W.osa_open (s:={s with toks:=s.toks+1}) (r:=none) X J ay cO λb=>?_);obtain⟨d1,ar,uh⟩:=PySem.W.any_some dh;have ax:s.heap.get? x=some ⟨.ref C,some ak,.plain,#[]⟩:=I.obj;refine aq (ba (aq (aq (ajT ax (aq (PySem.W.Looks.here (s:={s with toks:=s.toks+1}) (PySem.W.looks_clsIn X ar) ?_))))));rw[uh];refine ba (a:=some ak) (aq (ba (aq ?_)));refine wpAny_nsSet1 (s:={s with toks:=s.toks+1}) I.ns λh' FR h4=>?_;obtain⟨aii,afG,afE,LS,Lu,Lr⟩:=FR.count (SO name v hw);refine aq (ajU LS (by rw[Lu];exact aip (e1 Lr (by rw[fV];omega))) ?_);exact ba (h _ ⟨(h4.2 _ (d3 I.ne)).trans I.obj,FR,I.ne⟩ h4)
theorem μ{R:nz->aO->Prop}{vs:dk}{kw:List (Str×Value)}(X:K.In s.heap)(hm:SG K C=true)(hi:c_ K (.ref C) "__init__"=some (some (.ref f)))(bE:yq K (.ref f)=some (.type "function"))(h:jv (a_ prog w) (A.under (.builtin "type.__call__" ⟨.ref C::vs,kw⟩)) (.call (.ref f) ⟨.ref (s.heap.objs.size+1)::vs,kw⟩) (PySem.W.InitBack (s.heap.objs.size+1) R)
   {s with heap:=(s.heap.push tB).push (vS C s.heap.objs.size)}):
  jv (a_ prog w) A (.call (.ref C) ⟨vs,kw⟩) R s:=by obtain⟨dh,g,d,t,os⟩:=s;exact PySem.W.make_core (PySem.W.makes_of X hm) (tC X hi) (λself=>ţ X self bE) (.inl rfl) h
end
noncomputable def jV(f:Str)(v:V):List (Str×V)->List (Str×V)
 |[]=>[(f,v)]
 | (g,x)::r=>if g=f then(g,v)::r else(g,x)::jV f v r
theorem Nm(f g:Str)(v:V):∀fs:List (Str×V),(jV f v fs).lookup g=if g=f then some v else fs.lookup g
 |[]=>by
  show tr g [(f,v)]=_;by_cases h:g=f
  .have ae:(g==f)=true:=pE.mpr h;simp only[tr,ae,bO h]
  .have ae:(g==f)=false:=yE.mpr h;simp only[tr,ae,bz h]
 | (k,x)::r=>by
  have a5:=Nm f g v r;rw[show jV f v ((k,x)::r)=(if k=f then(k,v)::r else(k,x)::jV f v r)from rfl];by_cases aD:k=f
  .rw[bO aD];by_cases h:g=k
   .have ae:(g==k)=true:=pE.mpr h;simp only[tr,ae,bO (h.trans aD)]
   .have ae:(g==k)=false:=yE.mpr h;simp only[tr,ae,bz (λe:g=f=>h (e.trans aD.symm))]
  .rw[bz aD];by_cases h:g=k
   .have ae:(g==k)=true:=pE.mpr h;simp only[tr,ae,bz (λe:g=f=>aD (h.symm.trans e))]
   .have ae:(g==k)=false:=yE.mpr h;simp only[tr,ae];exact a5
theorem CD(f:Str)(v:V):∀fs:List (Str×V),f∈(jV f v fs).map (·.1)/\∀g,g∈fs.map (·.1)->g∈(jV f v fs).map (·.1)
 |[]=>⟨by simp[jV],λg h=>by simp at h⟩
 | (k,x)::r=>by
  obtain⟨ja,ll⟩:=CD f v r;rw[show jV f v ((k,x)::r)=(if k=f then(k,v)::r else(k,x)::jV f v r)from rfl];by_cases aD:k=f
  .rw[bO aD];subst aD;exact⟨by simp,λg h=>by simpa using h⟩
  .rw[bz aD];refine⟨?_,λg h=>?_⟩
   .rw[il];exact mz _ ja
   .rw[il]at h⊢;rcases dX.mp h with e|e
    .exact dX.mpr (.inl e)
    .exact mz _ (ll g e)
theorem Nx(f:Str)(v:V):∀fs:List (Str×V),(jV f v fs).length<=fs.length+1
 |[]=>by simp[jV]
 | (k,x)::r=>by
  have a5:=Nx f v r;rw[show jV f v ((k,x)::r)=(if k=f then(k,v)::r else(k,x)::jV f v r)from rfl];by_cases aD:k=f
  .rw[bO aD,fV,fV];omega
  .rw[bz aD,fV,fV];omega
theorem jE.NX{o:yA}(r:jE (some v) o):∃u,o=some u/\RelV v u:=by
 cases o with
 |none=>exact(show False from r).elim
 |some u=>exact⟨u,rfl,r⟩
theorem jE.none_of{o:yA}(r:jE none o):o=none:=by
 cases o with
 |none=>rfl
 |some u=>exact(show False from r).elim
theorem ZR(r:RelV v u):Ũ u=true:=by
 cases v with
 |bJ=>cases(show u=eT from r);rfl
 |aM b=>cases(show u=Bo b from r);rfl
 |int i=>obtain⟨t,e⟩:=(show∃t,u=oB i t from r);cases e;rfl
 |str x=>obtain⟨t,e⟩:=(show∃t,u=tG x t from r);cases e;rfl
 |mI b=>obtain⟨t,e⟩:=(show∃t,u=Value.bytes b t from r);cases e;rfl
 |wt b=>obtain⟨t,e⟩:=(show∃t,u=TG b t from r);cases e;rfl
 |ref a=>cases(show u=cg a from r);rfl
 |ty n=>cases(show u=tH n from r);rfl
section
variable{P:cA}{w:bU}{H H':af}{h h':Heap}{a C ak:Addr}{fs afZ:List (Str×V)}
theorem Hw(bj:fj P w H h)(e:H a=some (.ins C ak fs)):∃mA,vk h a ak C mA/\(∀f,jE (fs.lookup f) (mA f))/\yr mA (fs.map (·.1))/\fs.length<=1000/\H ak=some (.own a):=by
 obtain⟨d,z,ne,ob,mA,n,r,q⟩:=(show er P w H h a (.ins C ak fs)from bj a _ e)
 exact⟨mA,⟨ob,n,ne⟩,r,q,z,d⟩
end
structure fw(K:aQ)(C:Addr):Prop where
 aiq:Jt K C iN=true
 hd:Bg K C=true
 po:ű K C=true
 mc:c_ K (.ref C) "__setattr__"=some (some (.builtin "object.__setattr__"))
theorem fw.get{K:aQ}(c:fw K C)(f:Str):Jt K C f=true:=c.aiq
noncomputable def uM(K:aQ)(C:Addr)(f:Str):Prop:=c_ K (.ref C) f=some none
theorem uM.ajf{K:aQ}{f:Str}(n:uM K C f):SN K C f=some none:=by unfold SN;rw[show c_ K (.ref C) f=some none from n];rfl
structure Meth(K:aQ)(C:Addr)(m:Str)(f:Addr):Prop where
 at_:c_ K (.ref C) m=some (some (.ref f))
 fn:qF K (.ref f)=true
 b3:mF K (.ref f)=true
section
variable{X:bx}{pins:dD}{σ:St}{H:af}{s:aO}{a C ak:Addr}{fs:List (Str×V)}{f:Str}{v:V}{A:dn}{E:b6}
theorem YS{Q:b6}(I:Inv X pins σ H s)(e:H a=some (.ins C ak fs))(c:fw X.K C)(n:uM X.K C f)(l:fs.lookup f=some v)(h:∀u s',Inv X pins σ H s'->RelV v u->Q u s'):aN (a_ X.prog X.w) A (getAttr (.ref a) f b) Q E s:=by obtain⟨mA,O,r,_,_,_⟩:=Hw I.bj e;obtain⟨u,bL,dF⟩:=jE.NX (v:=v) (o:=mA f) (by rw[<-l];exact r f);exact Ņ I.ef O (c.get f) c.hd n bL (ZR dF) (h u _ (I.tok _) dF)
theorem Gw{pl:Sem Bool}{Q:Value×List Value->aO->Prop}(I:Inv X pins σ H s)(e:H a=some (.ins C ak fs))(c:fw X.K C)(k:Meth X.K C m g)(l:fs.lookup m=none)(h:Q (.ref g,[.ref a]) s):aN (a_ X.prog X.w) A (yW (.ref a) m pl) Q E s:=by obtain⟨mA,O,r,_,_,_⟩:=Hw I.bj e;have aX:mA m=none:=jE.none_of (by rw[<-l];exact r m);exact ι I.ef O (c.get m) k.at_ k.fn aX h
theorem YT{Q:Unit->aO->Prop}(I:Inv X pins σ H s)(e:H a=some (.ins C ak fs))(c:fw X.K C)(n:uM X.K C f)(au:fs.length<1000)(bD:RelV y u)(h:∀s',Inv X pins σ (upd H a (.ins C ak (jV f y fs))) s'->Q () s'):aN (a_ X.prog X.w) A (Dl (.ref a) f u) Q E s:=by
 obtain⟨mA,O,r,wi,_,aI⟩:=Hw I.bj e;have hz:(fs.map (·.1)).length<=sizeLine:=by rw[cj,uR];omega
 refine ņ I.ef O c.mc c.po n.ajf c.hd wi hz λh' Jc eE=>h _ ?_;have hd:∃o,h'.get? ak=some o:=let⟨o,_,_,bB,_⟩:=Jc.ns;⟨o,bB⟩
 refine I.write (x:=a) (e:=ak) (by rw[e];exact lJ) (.inr aI) (λb q ae z=>(eE.2 b ae).trans z) hd ?_;refine⟨by rw[aV O.ne];exact aI,?_,O.ne,Jc.obj,_,Jc.ns,λg=>?_,λg bp=>?_⟩
 .have:=Nx f y fs;omega
 .show jE ((jV f y fs).lookup g) (if g=f then some u else mA g);rw[Nm];by_cases q:g=f
  .rw[bO q,bO q];exact bD
  .rw[bz q,bz q];exact r g
 .by_cases q:g=f
  .rw[q];exact(CD f y fs).1
  .refine(CD f y fs).2 g (wi g λz=>bp ?_);show(if g=f then some u else mA g)=none;rw[bz q];exact z
theorem Inv.made(I:Inv X pins σ H s):Inv X pins σ (upd (upd H s.heap.objs.size (.own (s.heap.objs.size+1))) (s.heap.objs.size+1) (.ins C s.heap.objs.size []))
  {s with heap:=(s.heap.push tB).push (vS C s.heap.objs.size)}:=by
 have aF:(s.heap.push tB).get? s.heap.objs.size=some tB:=eY s.heap rfl;have aG:((s.heap.push tB).push (vS C s.heap.objs.size)).get? (s.heap.objs.size+1)=some (vS C s.heap.objs.size):=by
  have:=eY (s.heap.push tB) (o:=vS C s.heap.objs.size) rfl
  rwa [pf]at this
 have cR:(s.heap.push tB).Ns s.heap.objs.size (λ_=>none):=⟨tB,#[],_,aF,rfl,(λe he=>bk he (by simp)),λ_=>rfl⟩
 have aL:=I.laid (a:=s.heap.objs.size) (o:=.own (s.heap.objs.size+1)) (h':=s.heap.push tB) (t':=s.toks) (λb u q=>c9 _ q) (cL _) ⟨_,aF⟩;refine aL.laid (a:=s.heap.objs.size+1) (o:=.ins C s.heap.objs.size []) (t':=s.toks) (λb u q=>c9 _ q) (A1 (pf _ _)) ?_;have ne:s.heap.objs.size≠s.heap.objs.size+1:=eA (vO _);refine⟨by rw[aV ne,aE],ej _,ne,aG,λ_=>none,(ZH cR).at λo q=>c9 _ q,λ_=>lJ,λy cb=>bk rfl cb⟩
theorem Ň{env:Env}{f:Str}{Q:b6}(ae:yD e f env (eval e env)=eval e env)(h:aN (a_ prog w) A (eval e env) (λo dI=>aN (a_ prog w) A (getAttr o f true) Q E dI) E s):aN (a_ prog w) A (eval (.Attribute e f pos) env) Q E s:=
 Attribute_any_ h (by rw[arm_eval_Attribute,ae])
end
inductive aet(K:aQ)(f:Str)(x:V)(H1:af)(Q:a4):Prop where
 |mk (a:_) (C:_) (ak:_) (fs:_) (v:_) (aT:x=.ref a) (aP:H1 a=some (.ins C ak fs)) (bh:fw K C) (cf:uM K C f) (cP:fs.lookup f=some v) (dM:Q v H1)
noncomputable def aeu(K:aQ)(bW:TE)(f:Str):TE:=λσ H Q=>bW σ H λx H1=>aet K f x H1 Q
noncomputable def aev(K:aQ)(bW kh:TE)(f:Str):e_:=λD σ H=>kh σ H λy H1=>bW σ H1 λx ah=>∃a C ak fs,x=.ref a/\ah a=some (.ins C ak fs)/\fw K C/\uM K C f/\fs.length<1000/\
 D.cp σ (upd ah a (.ins C ak (jV f y fs)))
section
variable{X:bx}{o e value:Expr}{f:Str}{pos pos' xu:Pos}{bW kh:TE}
theorem gf(he:bl X e bW)(ae:yD e f X.env (eval e X.env)=eval e X.env):bl X (.Attribute e f pos) (aeu X.K bW f):=by intro pins s σ H Q I h;refine Ň ae (bA (he pins s σ H _ I h) λu s1 hz=>?_);obtain⟨x,H1,aL,bf,a,C,ak,fs,v,ex,aS,c,n,l,q⟩:=hz;subst ex;obtain rfl:u=cg a:=bf;exact YS aL aS c n l λu' s2 br dF=>⟨v,H1,br,dF,q⟩
theorem l1(av:bl X o bW)(a7:bl X value kh)(hs:zZ value (some (.Attribute o f pos')) pos.line X.env=pure false):fM X (.Assign [.Attribute o f pos'] value pos) (aev X.K bW kh f):=by intro pins s σ H D I h;refine air (bA (a7 pins s σ H _ I h) λu s1⟨y,H1,aL,bD,q⟩=>bA (av pins s1 σ H1 _ aL q) λfT s2 hz=>?_) hs;obtain⟨x,ah,br,bf,a,C,ak,fs,ex,aS,c,n,l,cH⟩:=hz;subst ex;obtain rfl:fT=cg a:=bf;exact YT br aS c n l bD λaW dg=>⟨σ,_,dg,cH⟩
theorem aln{pl:Sem Bool}{fb:Pos}{args:hB}{Q:b6}{te:TE}(he:bl X e te)(I:Inv X pins σ H s)(h:te σ H λx H1=>∃a C ak fs g,x=.ref a/\H1 a=some (.ins C ak fs)/\fw X.K C/\Meth X.K C m g/\fs.lookup m=none/\
   ∀s1,Inv X pins σ H1 s1->aN (a_ X.prog X.w) X.A (yG pos (.ref g) [.ref a] (gX pos (dt args X.env)) (kv pos (kI [] X.env))) Q X.dT s1)(cO:eval (.Call (.Attribute e m fb) args [] pos) X.env=(do
   let fT <-eval e X.env
   uU fb.atName
   let(f,first) <-oO [fT] (yW fT m pl)
   yG pos f first (gX pos (dt args X.env)) (kv pos (kI [] X.env)))):
  aN (a_ X.prog X.w) X.A (eval (.Call (.Attribute e m fb) args [] pos) X.env) Q X.dT s:=by refine EF (pl:=pl) (bA (he pins s σ H _ I h) λu s1 hz=>?_) cO;obtain⟨x,H1,aL,bf,a,C,ak,fs,g,ex,aS,c,k,l,q⟩:=hz;subst ex;obtain rfl:u=cg a:=bf;exact Gw aL aS c k l (q s1 aL)
end
section
variable{X:bx}{pins:dD}{σ:St}{H:af}{s:aO}{A:dn}{E:b6}{Q:b6}{c:Value}{b:Bool}
inductive m6(K:aQ)(H:af):V->Value->Prop where
 |bJ:m6 K H .bJ (.type "NoneType")
 |aM (x:Bool):m6 K H (.aM x) (.type "bool")
 |int (i:Int):m6 K H (.int i) (.type "int")
 |str (x:Str):m6 K H (.str x) (.type "str")
 |wt (x:UInt64):m6 K H (.wt x) (.type "float")
 |lst {a:Addr} {xs:aR} (e:H a=some (.lst xs)):m6 K H (.ref a) (.type "list")
 |ed {a:Addr} {o:Obj} {xs:aR} (e:H a=some (.ed o (.lst xs))):m6 K H (.ref a) (.type "list")
 |tup {a:Addr} {xs:aR} (e:H a=some (.tup xs)):m6 K H (.ref a) (.type "tuple")
 |cF {a:Addr} {kvs:List (bb×V)} (e:H a=some (.cF kvs)):m6 K H (.ref a) (.type "dict")
 |bV {a:Addr} {kvs:List (List bb×V)} (e:H a=some (.bV kvs)):m6 K H (.ref a) (.type "dict")
 |ins {a C ak:Addr} {fs:List (Str×V)} (e:H a=some (.ins C ak fs)) (cl:fw K C) (av:c_ K (.ref C) "__class__"=some (some (.builtin "object.__class__")))
   (aX:qG K (.builtin "object.__class__") "__get__"=some (some (.builtin "getset_descriptor.__get__"))) (F3:vT K (.builtin "object.__class__")=some true)
   (hm:kY K C (.type "object")=some true):m6 K H (.ref a) (.ref C)
theorem ZS{t:Value}(I:Inv X pins σ H s)(bf:RelV x u)(ty:m6 X.K H x t)(e:jr X.K t c=some b)(h:∀aH,Q (.bool b) {s with toks:=aH}):
  aN (a_ X.prog X.w) A (call (.builtin "isinstance") [u,c]) Q E s:=by
 cases ty with
 |bJ=>cases(show u=eT from bf);exact oy PySem.W.kitx_none I.ef lJ e (λz=>nomatch z) h
 |aM y=>cases(show u=Bo y from bf);exact oy PySem.W.kitx_bool I.ef lJ e (λz=>nomatch z) h
 |int i=>obtain⟨t,q⟩:=(show∃t,u=oB i t from bf);cases q;exact oy PySem.W.kitx_int I.ef lJ e (λz=>nomatch z) h
 |str y=>obtain⟨t,q⟩:=(show∃t,u=tG y t from bf);cases q;exact oy PySem.W.kitx_str I.ef lJ e (λz=>nomatch z) h
 |wt y=>obtain⟨t,q⟩:=(show∃t,u=TG y t from bf);cases q;exact oy PySem.W.kitx_float I.ef lJ e (λz=>nomatch z) h
 |@lst a xs aS=>
  cases(show u=cg a from bf);obtain⟨_,_,n,_,ai⟩:=(show er X.prog X.w H s.heap a (.lst xs)from I.bj a _ aS)
  exact oy Ŭ I.ef ⟨_,ai,rfl⟩ e (λz=>nomatch z) h
 |@ed a ob xs aS=>
  cases(show u=cg a from bf);obtain⟨_,_,_,n,_,ai⟩:=(show er X.prog X.w H s.heap a (.ed ob (.lst xs))from I.bj a _ aS)
  exact oy Ŭ I.ef ⟨_,ai,rfl⟩ e (λz=>nomatch z) h
 |@tup a xs aS=>
  cases(show u=cg a from bf);obtain⟨_,_,_,p⟩:=(show er X.prog X.w H s.heap a (.tup xs)from I.bj a _ aS)
  obtain⟨o,ai,aj,_⟩:=p;exact oy PySem.W.kitx_tuple I.ef ⟨o,ai,aj⟩ e (λz=>nomatch z) h
 |@cF a kvs aS=>
  cases(show u=cg a from bf);obtain⟨_,_,vs,_,p⟩:=(show er X.prog X.w H s.heap a (.cF kvs)from I.bj a _ aS)
  obtain⟨o,es,ep,ai,aj,_⟩:=p;exact oy ū I.ef ⟨o,ai,aj.1⟩ e (λz=>nomatch z) h
 |@bV a kvs aS=>
  cases(show u=cg a from bf);obtain⟨_,_,xs,_,o,es,ep,ai,aj,_⟩:=(show er X.prog X.w H s.heap a (.bV kvs)from I.bj a _ aS)
  exact oy ū I.ef ⟨o,ai,aj.1⟩ e (λz=>nomatch z) h
 |@ins a C ak fs aS cl av aX F3 hm=>
  cases(show u=cg a from bf);obtain⟨mA,O,_⟩:=Hw I.bj aS;obtain⟨d2,J,_⟩:=O.look;exact oy (PySem.W.kitx_own (cl.get _) cl.hd av aX F3 hm) I.ef J e (λz=>nomatch z) h
end
structure f3(k:Nat)(A:dn):Prop where
 hd:A.handled=none
 Fi:A.depth+3*k+5<recursionLimit
 un:A.units+16*k+200<cLine
theorem f3.mono{j k:Nat}(r:f3 k A)(h:j<=k:=by decide):f3 j A:=⟨r.hd,by have:=r.Fi;omega,by have:=r.un;omega⟩
theorem f3.deeper{k:Nat}{A:dn}(r:f3 (k+1) A)(env:Env):f3 k (A.deeper env):=
 ⟨r.hd,by have:=r.Fi;show A.depth+1+3*k+5<_;omega,by have:=r.un;show A.units+3+16*k+200<_;omega⟩
theorem Y9{A:dn}{C:Addr}{us:dk}{kw:List (Str×Value)}:(A.under (.builtin "type.__call__" ⟨.ref C::us,kw⟩)).depth=A.depth+1:=by
 first|rfl|simp[PG,Code.weight,Code.isCreation,Code.isGuard,Code.isCaller,Code.frames,Qe,guardIds]
theorem Y'{A:dn}{C:Addr}{us:dk}{kw:List (Str×Value)}:(A.under (.builtin "type.__call__" ⟨.ref C::us,kw⟩)).units=A.units+1:=by
 first|rfl|simp[PG,Code.cUnits,Code.frames,Qe]
theorem f3.make{k:Nat}{A:dn}(r:f3 (k+1) A)(C:Addr)(us:dk)(kw:List (Str×Value)):f3 k (A.under (.builtin "type.__call__" ⟨.ref C::us,kw⟩)):=
 ⟨r.hd,by have:=r.Fi;rw[Y9];omega,by have:=r.un;rw[Y'];omega⟩
theorem f3.depth{k:Nat}{A:dn}(r:f3 k A):A.depth<recursionLimit:=by have:=r.Fi;omega
theorem f3.units{k:Nat}{A:dn}(r:f3 k A):A.units+64<cLine:=by have:=r.un;omega
noncomputable def AD:fo:=λ_ H Q=>Q [] H
noncomputable def l4(bW:TE)(xv:fo):fo:=λσ H Q=>bW σ H λx H1=>xv σ H1 λxs ah=>Q (x::xs) ah
section
variable{X:bx}{e:Expr}{es:hB}{te:TE}{t:fo}{pos:Pos}
theorem aw:fl X [] AD:=λ_ _ _ _ H Q I h=>D2 ⟨[],H,I,.nil,h⟩
theorem ag(av:bl X e te)(al:fl X es t)(hs:dt (e::es) X.env=(false,eval e X.env)::dt es X.env:=by rfl):fl X (e::es) (l4 te t):=by intro pos pins s σ H Q I h;rw[hs];show aN _ _ (spliced ((false,eval e X.env)::gX pos (dt es X.env))) _ _ s;refine xP (bA (av pins s σ H _ I h) λu s1 hz=>?_);obtain⟨x,H1,aL,cq,bw⟩:=hz;exact bA (al pos pins s1 σ H1 _ aL bw) λus s2⟨xs,ah,br,dV,cH⟩=>⟨x::xs,ah,br,.cons cq dV,cH⟩
noncomputable def aew(t:fo):TE:=λσ H Q=>t σ H λxs H1=>xs.length<=sizeLine/\∀p,H1 p=none->Q (.ref p) (upd H1 p (.tup xs))
noncomputable def aex(t:fo):TE:=λσ H Q=>t σ H λxs H1=>xs.length<=sizeLine/\∀p,H1 p=none->Q (.ref p) (upd H1 p (.lst xs))
theorem hE{eg}(h:fl X es t):bl X (.Tuple es eg pos) (aew t):=by intro pins s σ H Q I bo;refine wpAny_Tuple_spliced (bA (h pos pins s σ H _ I bo) λus s1⟨xs,H1,aL,r,z,q⟩=>⟨by rw[<-r.length];exact z,?_⟩);have bE:H1 s1.heap.objs.size=none:=aL.bj.fresh (cL _);refine⟨.ref s1.heap.objs.size,upd H1 s1.heap.objs.size (.tup xs),aL.laid (t':=s1.toks) (λb u e=>c9 _ e) (cL _) ?_,rfl,q _ bE⟩;exact⟨z,us,r,⟨_,eY _ rfl,rfl,_,rfl⟩⟩
theorem d5(h:fl X es t):bl X (.List es pos) (aex t):=by intro pins s σ H Q I bo;refine wpAny_List_spliced (bA (h pos pins s σ H _ I bo) λus s1⟨xs,H1,aL,r,z,q⟩=>⟨by rw[<-r.length];exact z,?_⟩);have bE:H1 s1.heap.objs.size=none:=aL.bj.fresh (cL _);refine⟨.ref s1.heap.objs.size,upd H1 s1.heap.objs.size (.lst xs),aL.laid (t':=s1.toks) (λb u e=>c9 _ e) (cL _) ?_,rfl,q _ bE⟩;exact⟨z,us,0,r,eY _ rfl⟩
noncomputable abbrev gD:=List V->af->a4->bP->Prop
noncomputable abbrev mn:=List Env->af->aO->bP->Value->aO->Prop
structure vo(P:cA)(w:bU)(K:aQ)(mg:b9)(base:Heap)(A:dn)(outer:List Env)(s:aO)(H:af):Prop where
 frames:A.frames=some outer
 mod:Mod K mg base
 bs:∀b o,base.get? b=some o->s.heap.get? b=some o/\H b=none
 qK:base.objs.size<=s.heap.objs.size
 j5:s.heap.FunFrames base outer
 r9:∀b∈ff outer,H b=none
 bj:fj P w H s.heap
 bare:rE s.gens
noncomputable def Ib(outer:List Env)(P:cA)(w:bU)(H:af)(s:aO)(Q:a4)(u:Value)(s':aO):Prop:=
 ∃v H',s'.os=s.os/\rE s'.gens/\hQ (ff outer) [] H H' s.heap s'.heap/\fj P w H' s'.heap/\RelV v u/\Q v H'
end
noncomputable def YR(CX:mn)(outer:List Env)(P:cA)(w:bU)(H:af)(s:aO)(Q:a4)(E:bP)(r:nz)(s':aO):Prop:=
 match r with
 |.ok (.ret u)=>Ib outer P w H s Q u s'
 |.ok _=>False
 |.error e=>CX outer H s E e s'
structure aK(P:cA)(w:bU)(K:aQ)(mg:b9)(base:Heap)(CX:mn)(k:Nat)(f:Addr)(fd:ni)(ps:ck)(sp:gD):Prop where
 len:∀vs H Q E,sp vs H Q E->vs.length=ps.length
 run:∀(A:dn)(outer:List Env)(s:aO)(H:af)(args:Args)(us:dk)(vs:aR)(Q:a4)(E:bP),f3 k A->vo P w K mg base A outer s H->An s fd args (ps.zip us)->cX vs us->sp vs H Q E->
  jv (a_ P w) A (.call (.ref f) args) (YR CX outer P w H s Q E) s
theorem aK.mono{K:aQ}{mg:b9}{base:Heap}{j k:Nat}{f:Addr}(F:aK P w K mg base CX j f fd ps sp)(h:j<=k):
  aK P w K mg base CX k f fd ps sp:=⟨F.len,λA outer s H args us vs Q E al=>F.run A outer s H args us vs Q E (al.mono h)⟩
theorem vo.make{K:aQ}{mg:b9}{base:Heap}{A:dn}(e:vo P w K mg base A outer s H)(C:Addr)(us:dk)(kw:List (Str×Value)):
  vo P w K mg base (A.under (.builtin "type.__call__" ⟨.ref C::us,kw⟩)) outer s H:=⟨by first|exact e.frames|(simpa[PG,Code.envs,Qe,pushEnvs]using e.frames),e.mod,e.bs,e.qK,e.j5,e.r9,e.bj,e.bare⟩
section
variable{X:bx}{pins:dD}{σ:St}{H:af}{s s':aO}
theorem Inv.Fn(I:Inv X pins σ H s):vo X.prog X.w X.K X.mg X.base X.A X.stack s H:=
 ⟨I.ok.frames,I.ok.mod,I.bs,e1 I.ok.qK I.hY,I.stack,I.Hl,I.bj,I.bare⟩
theorem Inv.after(I:Inv X pins σ H s)(h:Ib X.stack X.prog X.w H s Q u s'):ih X pins σ Q u s':=by obtain⟨v,H',os,bare,un,bj,r,q⟩:=h;obtain⟨dh,g,d,t,ail⟩:=s';obtain rfl:ail=s.os:=os;exact⟨v,H',I.call (h':=dh) (g':=g) (d':=d) (t':=t) (ch:=[]) un bj bare (λb z=>bk z (by simp)),r,q⟩
end
noncomputable def acO(sp:gD)(ix:aR)(E:bP)(t:fo):TE:=λσ H Q=>t σ H λvs H1=>sp (vs++ix) H1 Q E
inductive acy(C:Addr)(m:Str)(x:V)(H1:af)(R:Prop):Prop where
 |mk (a:_) (ak:_) (fs:_) (aT:x=.ref a) (aP:H1 a=some (.ins C ak fs)) (bh:fs.lookup m=none) (cf:R)
noncomputable def II(C:Addr)(m:Str)(sp:gD)(ix:aR)(E:bP)(bW:TE)(t:fo):TE:=λσ H Q=>bW σ H λx H1=>acy C m x H1 (t σ H1 λvs ah=>sp (x::(vs++ix)) ah Q E)
noncomputable def SZ(C:Addr)(sp:gD)(ix:aR)(E:bP)(t:fo):TE:=λσ H Q=>t σ H λvs H1=>∀x ak,H1 x=none->H1 ak=none->ak≠x->
 sp (.ref x::(vs++ix)) (upd (upd H1 ak (.own x)) x (.ins C ak [])) (λv ah=>v=.bJ/\Q (.ref x) ah) E
noncomputable def Binds(K:aQ)(fd:ni)(ps:ck)(ds:dk):Prop:=
 ∀(s:aO)(us:dk),K.In s.heap->(us++ds).length=ps.length->An s fd ⟨us,[]⟩ (ps.zip (us++ds))
theorem Binds.all{K:aQ}{ps:ck}(h:∀us:List Value,us.length=ps.length->Fe fd ⟨us,[]⟩=pure (ps.zip us)):Binds K fd ps []:=λs us _ au=>by rw[vH]at au⊢;exact .of_eq (h us au)
noncomputable def nU(CX:mn)(X:bx)(E:bP):Prop:=∀(pins:dD)(σ:St)(H:af)(s:aO)(e:Value)(s':aO),Inv X pins σ H s->CX X.stack H s E e s'->X.dT e s'
section
variable{X:bx}{CX:mn}{k:Nat}{f C:Addr}{fd:ni}{ps:ck}{sp:gD}{ix:aR}{ds:dk}{E:bP}{x m:Str}{p pos fb:Pos}{e o:Expr}{es:hB}{bW:TE}{t:fo}
theorem HQ{vs:aR}(F:aK X.prog X.w X.K X.mg X.base CX k f fd ps sp)(al:f3 k X.A)(ae:Binds X.K fd ps ds)(hd:cX ix ds)(ax:nU CX X E)(I:Inv X pins σ H s)(r:cX vs us)(h:sp (vs++ix) H Q E):aN (a_ X.prog X.w) X.A (call (.ref f) us) (ih X pins σ Q) X.dT s:=by
 have dV:cX (vs++ix) (us++ds):=r.append hd;have au:(us++ds).length=ps.length:=by rw[<-dV.length];exact F.len _ _ _ _ h
 refine rB (pK (F.run X.A X.stack s H ⟨us,[]⟩ (us++ds) (vs++ix) Q E al I.Fn (ae s us I.ef au) dV h) λr s' bo=>?_);cases r with
 |error e=>exact ax pins σ H s e s' I bo
 |ok fz=>
  cases fz with
  |ret u=>exact I.after bo
  |next=>exact iJ bo
  |brk=>exact iJ bo
  |cont=>exact iJ bo
theorem dB(F:aK X.prog X.w X.K X.mg X.base CX k f fd ps sp)(al:f3 k X.A)(bp:ij X x)(hm:X.mg x=some (.ref f))(aD:mF X.K (.ref f)=true)(ae:Binds X.K fd ps ds)(hd:cX ix ds)(ax:nU CX X E)(av:fl X (e::es) t)(kC:(x==("__debug__":Str))=false:=by decide)(he:dt (e::es) X.env=(false,eval e X.env)::dt es X.env:=by rfl)(fg:(gX pos (dt es X.env)).any (·.1)=false:=by rfl):
  bl X (.Call (.Name x p) (e::es) [] pos) (acO sp ix E t):=by intro pins s σ H Q I h;refine xH (uz I bp hm ?_ kC);refine Be (h₀:=X.base) I.ok.mod.su aD (bA (av pos pins s σ H _ I h) λus s1⟨vs,H1,aL,r,q⟩=>⟨aL.ef,?_⟩) he fg;exact HQ F al ae hd ax aL r q
theorem iS{pl:Sem Bool}(he:bl X o bW)(c:fw X.K C)(hm:Meth X.K C m f)(F:aK X.prog X.w X.K X.mg X.base CX k f fd ps sp)(al:f3 k X.A)(ae:Binds X.K fd ps ds)(hd:cX ix ds)(ax:nU CX X E)(av:fl X (e::es) t)(sj:dt (e::es) X.env=(false,eval e X.env)::dt es X.env:=by rfl)(fg:(gX pos (dt es X.env)).any (·.1)=false:=by rfl)(cO:eval (.Call (.Attribute o m fb) (e::es) [] pos) X.env=(do
   let fT <-eval o X.env
   uU fb.atName
   let(f,first) <-oO [fT] (yW fT m pl)
   yG pos f first (gX pos (dt (e::es) X.env)) (kv pos (kI [] X.env))):=by rfl):
  bl X (.Call (.Attribute o m fb) (e::es) [] pos) (II C m sp ix E bW t):=by intro pins s σ H Q I h;refine EF (pl:=pl) (bA (he pins s σ H _ I h) λu s1 hz=>?_) cO;obtain⟨x,H1,aL,bf,a,ak,fs,ex,aS,l,q⟩:=hz;subst ex;obtain rfl:u=cg a:=bf;refine Gw aL aS c hm l ?_;refine Be (first:=[.ref a]) (h₀:=X.base) I.ok.mod.su hm.b3 (bA (av pos pins s1 σ H1 _ aL q) λus s2⟨vs,ah,br,r,cH⟩=>⟨br.ef,?_⟩) sj fg;exact HQ (us:=.ref a::us) (vs:=.ref a::vs) F al ae hd ax br (.cons rfl r) cH
theorem qY{pl:Sem Bool}(he:bl X o bW)(c:fw X.K C)(hm:Meth X.K C m f)(F:aK X.prog X.w X.K X.mg X.base CX k f fd ps sp)(al:f3 k X.A)(ae:Binds X.K fd ps ds)(hd:cX ix ds)(ax:nU CX X E)(cO:eval (.Call (.Attribute o m fb) [] [] pos) X.env=(do
   let fT <-eval o X.env
   uU fb.atName
   let(f,first) <-oO [fT] (yW fT m pl)
   yG pos f first (gX pos (dt [] X.env)) (kv pos (kI [] X.env))):=by rfl):
  bl X (.Call (.Attribute o m fb) [] [] pos) (II C m sp ix E bW AD):=by intro pins s σ H Q I h;refine EF (pl:=pl) (bA (he pins s σ H _ I h) λu s1 hz=>?_) cO;obtain⟨x,H1,aL,bf,a,ak,fs,ex,aS,l,q⟩:=hz;subst ex;obtain rfl:u=cg a:=bf;refine Gw aL aS c hm l ?_;exact Ť (first:=[.ref a]) aL.ef hm.b3 (HQ (us:=[.ref a]) (vs:=[.ref a]) F al ae hd ax aL (.cons rfl .nil) q)
structure ou(K:aQ)(C f:Addr):Prop where
 makes:SG K C=true
 init:c_ K (.ref C) "__init__"=some (some (.ref f))
 fn:qF K (.ref f)=true
 b3:mF K (.ref C)=true
theorem Yg{H:af}{Q:a4}{vs:aR}(M:ou X.K C f)(F:aK X.prog X.w X.K X.mg X.base CX k f fd ps sp)(al:f3 (k+1) X.A)(ae:Binds X.K fd ps ds)(hd:cX ix ds)(ax:nU CX X E)(I:Inv X pins σ H s)(r:cX vs us)(h:∀x ak,H x=none->H ak=none->ak≠x->sp (.ref x::(vs++ix)) (upd (upd H ak (.own x)) x (.ins C ak [])) (λv ah=>v=.bJ/\Q (.ref x) ah) E):
  aN (a_ X.prog X.w) X.A (call (.ref C) us) (ih X pins σ Q) X.dT s:=by
 have bo:=h (s.heap.objs.size+1) s.heap.objs.size (I.bj.fresh (A2 _)) (I.bj.fresh (cL _)) (eA (vO _));have br:=Inv.made (C:=C) I;have dV:cX (V.ref (s.heap.objs.size+1)::(vs++ix)) (cg (s.heap.objs.size+1)::(us++ds)):=.cons rfl (r.append hd);have au:(cg (s.heap.objs.size+1)::us++ds).length=ps.length:=by have e:=dV.length;rw[F.len _ _ _ _ bo]at e;exact e.symm
 refine rB (μ (f:=f) I.ef M.makes M.init (pE.mp M.fn) (pK (F.run _ X.stack _ _ ⟨cg (s.heap.objs.size+1)::us,[]⟩ (cg (s.heap.objs.size+1)::(us++ds)) _ _ E (al.make C us [])
  (br.Fn.make C us []) (ae _ (cg (s.heap.objs.size+1)::us) br.ef au) dV bo) λr s' pS=>?_))
 cases r with
 |error e=>exact ax pins σ _ _ e s' br pS
 |ok fz=>
  cases fz with
  |ret u=>
   obtain⟨v,H',dg,cc,ev,hJ⟩:=br.after pS;subst ev;exact⟨cc,⟨V.ref (s.heap.objs.size+1),H',dg,rfl,hJ⟩⟩
  |next=>exact iJ pS
  |brk=>exact iJ pS
  |cont=>exact iJ pS
theorem xb(M:ou X.K C f)(F:aK X.prog X.w X.K X.mg X.base CX k f fd ps sp)(al:f3 (k+1) X.A)(bp:ij X x)(hm:X.mg x=some (.ref C))(ae:Binds X.K fd ps ds)(hd:cX ix ds)(ax:nU CX X E)(av:fl X (e::es) t)(kC:(x==("__debug__":Str))=false:=by decide)(he:dt (e::es) X.env=(false,eval e X.env)::dt es X.env:=by rfl)(fg:(gX pos (dt es X.env)).any (·.1)=false:=by rfl):
  bl X (.Call (.Name x p) (e::es) [] pos) (SZ C sp ix E t):=by intro pins s σ H Q I h;refine xH (uz I bp hm ?_ kC);refine Be (h₀:=X.base) I.ok.mod.su M.b3 (bA (av pos pins s σ H _ I h) λus s1⟨vs,H1,aL,r,q⟩=>⟨aL.ef,?_⟩) he fg;exact Yg M F al ae hd ax aL r q
theorem Yh(M:ou X.K C f)(F:aK X.prog X.w X.K X.mg X.base CX k f fd ps sp)(al:f3 (k+1) X.A)(bp:ij X x)(hm:X.mg x=some (.ref C))(ae:Binds X.K fd ps ds)(hd:cX ix ds)(ax:nU CX X E)(kC:(x==("__debug__":Str))=false:=by decide):bl X (.Call (.Name x p) [] [] pos) (SZ C sp ix E AD):=by intro pins s σ H Q I h;refine xH (uz I bp hm ?_ kC);exact Ť I.ef M.b3 (Yg (us:=[]) M F al ae hd ax I .nil h)
end
noncomputable def Jn(X:bx)(Cq:List vG)(t:fo):Prop:=
 ∀(pos:Pos)(pins:dD)(s:aO)(σ:St)(H:af)(Q:List V->af->Prop),Inv X pins σ H s->t σ H Q->aN (a_ X.prog X.w) X.A (evalAll ((kv pos (kI Cq X.env)).map (·.2))) (Pu X pins σ Q) X.dT s
section
variable{X:bx}{CX:mn}{k:Nat}{f C:Addr}{fd:ni}{ps eD:ck}{sp:gD}{E:bP}{x m:Str}{p pos fb ahE:Pos}{e o:Expr}{es:hB}{Cq:List vG}{te bW:TE}{t aH:fo}{nm:Option Str}
theorem Q9:Jn X [] AD:=λ_ _ _ _ H Q I h=>wpAny_evalAll_nil ⟨[],H,I,.nil,h⟩
theorem Qs(av:bl X e te)(al:Jn X Cq t):Jn X (⟨nm,e,ahE⟩::Cq) (l4 te t):=by intro pos pins s σ H Q I h;show aN _ _ (evalAll ((do let v <-eval e X.env;uU pos;pure v)::(kv pos (kI Cq X.env)).map (·.2))) _ _ s;refine wpAny_evalAll_cons (aq (bA (av pins s σ H _ I h) λu s1⟨x,H1,aL,cq,bw⟩=>aq (HK (ba ?_))));exact bA (al pos pins s1 σ H1 _ aL bw) λus s2⟨xs,ah,br,dV,cH⟩=>⟨x::xs,ah,br,.cons cq dV,cH⟩
end
structure de(N P:ck)(sc:Scope):Prop where
 kind:sc.kind=.function:=by rfl
 co:sc.isCoroutine=false:=by rfl
 gen:sc.isGenerator=false:=by rfl
 aC:N.Nodup:=by decide +kernel
 pre:N.take P.length=P:=by rfl
 par:∀x∈P,sc.names.lookup x=some .local\/sc.names.lookup x=some .cell:=by decide +kernel
 ah3:∀y∈sc.names,y.2≠.free:=by decide +kernel
theorem X4{kindOf:Str->Option vL}:∀{binds:List (Str×Value)}{m:b9},(∀v,(x,v)∉binds)->v_ kindOf binds m x=m x
 |[],_,_=>rfl
 | (n,v)::r,m,h=>by
  unfold v_;rw[X4 λw hw=>h w (mz _ hw)];split
  .have:x≠n:=by rintro rfl;exact h v ts
   simp[this]
  .rfl
theorem XH{kindOf:Str->Option vL}:∀{binds:List (Str×Value)}{m:b9},(∀v,(x,v)∉binds)->v' kindOf binds m x=m x
 |[],_,_=>rfl
 | (n,v)::r,m,h=>by
  unfold v';rw[XH λw hw=>h w (mz _ hw)];split
  .rfl
  .have:x≠n:=by rintro rfl;exact h v ts
   simp[this]
theorem XI{kindOf:Str->Option vL}:∀{P:ck}{vs:dk}{i:Nat}{m:b9},P.Nodup->P[i]?=some x->vs[i]?=some v->kindOf x=some .local->
  v_ kindOf (P.zip vs) m x=some v
 |[],_,_,_,_,h,_,_=>by simp at h
 |_::_,[],_,_,_,_,h,_=>by simp at h
 |p::P,w::vs,0,m,aC,ai,aj,aD=>by simp at ai aj;subst ai;subst aj;show v_ kindOf ((p,w)::P.zip vs) m p=_;unfold v_;rw[X4 λv a7=>(nu.mp aC).1 (RM a7).1,bO aD];simp
 |p::P,w::vs,i+1,m,aC,ai,aj,aD=>by show v_ kindOf ((p,w)::P.zip vs) m x=_;unfold v_;exact XI (i:=i) (nu.mp aC).2 (by simpa using ai) (by simpa using aj) aD
theorem XJ{kindOf:Str->Option vL}:∀{P:ck}{vs:dk}{i:Nat}{m:b9},P.Nodup->P[i]?=some x->vs[i]?=some v->kindOf x≠some .local->
  v' kindOf (P.zip vs) m x=some v
 |[],_,_,_,_,h,_,_=>by simp at h
 |_::_,[],_,_,_,_,h,_=>by simp at h
 |p::P,w::vs,0,m,aC,ai,aj,aD=>by simp at ai aj;subst ai;subst aj;show v' kindOf ((p,w)::P.zip vs) m p=_;unfold v';rw[XH λv a7=>(nu.mp aC).1 (RM a7).1,bz aD];simp
 |p::P,w::vs,i+1,m,aC,ai,aj,aD=>by show v' kindOf ((p,w)::P.zip vs) m x=_;unfold v';exact XJ (i:=i) (nu.mp aC).2 (by simpa using ai) (by simpa using aj) aD
noncomputable def start(N:ck)(vs:aR):St:=vs.map some++yc (N.length-vs.length) none
noncomputable def je(CX:mn)(P:cA)(w:bU)(K:aQ)(mg:b9)(base:Heap)(N:ck)(qual:Str)(scope:Scope)(f:Addr)(d1:Value)(A:dn)(outer:List Env)(s:aO)(H:af)(E:bP):bx where
 prog:=P
 w:=w
 K:=K
 mg:=mg
 base:=base
 A:=A.deeper (oG qual scope s.heap.objs.size f d1)
 N:=N
 ia:=s
 mw:=H
 env:=oG qual scope s.heap.objs.size f d1
 outer:=outer
 stack:=oG qual scope s.heap.objs.size f d1::outer
 ex:=[]
 calm:=true
 fn:=λ_=>true
 ez:=[]
 dT:=λe s'=>aN (a_ P w) (A.deeper (oG qual scope s.heap.objs.size f d1)) (leaving (oG qual scope s.heap.objs.size f d1) e) (λ_ NN=>CX outer H s E e NN) (λbB NN=>CX outer H s E bB NN) s'
theorem Yi{sc:Scope}{n:Nat}(h:sc.names.lookup x=some .cell):∃c,(Uj n sc.names []).lookup x=some c:=by have q:=ť sc.names n [] (.inl h);exact pq.mp q
theorem ZT{K:aQ}{mg:b9}{base:Heap}{ps:ck}{scope:Scope}{f:Addr}{A:dn}{s:aO}{vs:aR}(S:de N ps scope)(hd:A.handled=none)(dm:vo P w K mg base A outer s H)(au:vs.length=ps.length)(r:cX vs us)(x:InCallC s s.heap.objs.size (v_ (oG qual scope s.heap.objs.size f d1).kindOf (ps.zip us) λ_=>none) (Uj (s.heap.objs.size+1) scope.names []) (v' (oG qual scope s.heap.objs.size f d1).kindOf (ps.zip us) λ_=>none) s1):
  Inv (je CX P w K mg base N qual scope f d1 A outer s H E) [] (start N vs) H s1:=by
 have fg:ps.length<=N.length:=by have:=ek tq S.pre;rw[ya]at this;omega
 obtain⟨ai,aH,rfl,aD⟩:=x.done;have CN:∀b:Addr,b∉(je CX P w K mg base N qual scope f d1 A outer s H E).ex:=λb z=>bk (show b∈([]:c7)from z) (by simp);refine⟨⟨dm.mod,S.kind,rfl,rfl,cL _,λy z c ai aj=>?_,λy cb=>?_,λy c _ h=>?_,λ_=>hd,Around.frames_deeper dm.frames,.inr ⟨rfl,rfl⟩,λb z=>bk z (CN b),dm.bs,dm.qK,λb _ _=>CN b,λb z=>bk z (CN b),dm.j5,dm.r9⟩,
  rfl,dm.bare,hQ.kept aD,⟨_,x.toInCall.ns,λi y v ai aj bC=>?_⟩,λy c h=>⟨_,x.cell y c h⟩,dm.bj.fresh (cL _),λy c h=>?_,λp ay=>bk (show p∈([]:dD)from ay) (by simp),dm.bj.kept aD,?_⟩
 .exact name_of_addr x.apart (Bh ai) (Bh aj)
 .have cb:scope.names.lookup y=some .cell\/scope.names.lookup y=some .free:=cb;rcases cb with cb|cb
  .exact Yi cb
  .exact bk rfl (S.ah3 _ (Bh cb))
 .exact qB (x.above y c (Bh h))
 .have hi:i<vs.length:=by
   unfold start at aj;by_cases hi:i<vs.length
   .exact hi
   .rw[è (by simpa using hi)]at aj;rw[List.getElem?_replicate]at aj;split at aj<;>cases aj
  have av:vs[i]?=some v:=by
   unfold start at aj;rw[El (by simpa using hi),d0]at aj;cases e:vs[i]? with
   |none=>rw[e]at aj;cases aj
   |some a=>rw[e]at aj;cases aj;rfl
  obtain⟨u,bL,cc⟩:=r.get av;have ay:ps[i]?=some y:=by rw[<-S.pre,ì (by omega)];exact ai
  have V4:ps.Nodup:=by rw[<-S.pre];exact S.aC.sublist (õ _ _)
  refine⟨u,cc,?_⟩;rcases S.par y (f_ ay)with k|k
  .exact .inl ⟨k,XI V4 ay bL k⟩
  .obtain⟨c,e⟩:=Yi (n:=s.heap.objs.size+1) k;refine .inr ⟨.inl k,c,e,?_⟩;have q:=x.cell y c e;rw[XJ V4 ay bL (by show scope.names.lookup y≠_;rw[k];decide)]at q;exact q
 .exact dm.bj.fresh (qB (x.above y c (Bh h)))
 .unfold start;show _=N.length;rw[eS,cj,List.length_replicate];omega
theorem IJ{K:aQ}{mg:b9}{base:Heap}{k:Nat}{f:Addr}{name:Str}{params:Arguments}{body:List Stmt}{c0 jX:Value}{d2:Option Addr}{lx:k6}{ps:ck}{sp:gD}(lk:K.lookup f=some ⟨jX,d2,.func (lH name qual params body scope Km c0 doc pm an cdv ec),lx⟩)(lY:Bf K cdv qual=true)(S:de N ps scope)(len:∀vs H Q E,sp vs H Q E->vs.length=ps.length)(wB:∀(A:dn)(outer:List Env)(s:aO)(H:af)(vs:aR)(Q:a4)(E:bP),f3 k (A.deeper (oG qual scope s.heap.objs.size f cdv))->sp vs H Q E->
   ∃t,gc (je CX P w K mg base N qual scope f cdv A outer s H E) body t/\t {cp:=λ_ H'=>Q .bJ H',h9:=Q} (start N vs) H):
  aK P w K mg base CX (k+1) f (lH name qual params body scope Km c0 doc pm an cdv ec) ps sp:=by
 refine⟨len,λA outer s H args us vs Q E al dm ae r oP=>?_⟩;have au:=len _ _ _ _ oP;have nr:K.In s.heap:=dm.mod.su.keeps λb o e=>(dm.bs b o e).1;have lim:s.heap.NoLimit:=dm.mod.nolimit.keeps λb o e=>(dm.bs b o e).1;have sg:∀y∈ps.zip us,scope.names.lookup y.1=some .local\/(scope.names.lookup y.1=some .cell/\((Uj (s.heap.objs.size+1) scope.names []).lookup y.1).isSome=true):=λ⟨n,v⟩cb=>by
  rcases S.par n (RM cb).1 with q|q
  .exact .inl q
  .exact .inr ⟨q,ť _ _ _ (.inl q)⟩
 refine codeAny_call_function al.depth (nr _ _ lk) rfl S.co S.gen rfl (PySem.W.codeRec_of nr lY) (ae _ _ _ _ ?_);refine wpAny_newFunctionEnv_cells S.kind sg λenv he s1 x=>?_;subst he;refine⟨lim.keeps x.toInCall.keep,codeAny_func ?_⟩;obtain⟨t,cO,bo⟩:=wB A outer s H vs Q E (al.deeper _) oP;have I:Inv (je CX P w K mg base N qual scope f cdv A outer s H E) [] (start N vs) H s1:=ZT S al.hd dm au r x;refine hf (cO [] s1 (start N vs) H _ I bo) (λfz s' hs=>?_) λe s' hs=>hs;have fin:∀{a':St}{H':af}{v:V}{u:Value},Inv (je CX P w K mg base N qual scope f cdv A outer s H E) [] a' H' s'->RelV v u->Q v H'->Ib outer P w H s Q u s':=
  λ{a' H' v u}J cc q=>⟨v,H',J.os,J.bare,J.base,J.bj,cc,q⟩
 cases fz with
 |ret u=>
  obtain⟨v,a',H',J,cc,q⟩:=hs;exact fin J cc q
 |next=>
  obtain⟨a',H',J,q⟩:=hs;exact fin (v:=V.bJ) (u:=eT) J rfl q
 |brk=>
  obtain⟨_,_,_,q⟩:=hs;exact iJ q
 |cont=>
  obtain⟨_,_,_,q⟩:=hs;exact iJ q
section
variable{X:bx}{x:Str}{p pos:Pos}{e:Expr}{es:hB}{t:fo}{id T:String}{r:List V->af->a4->Prop}
noncomputable def qa(r:List V->af->a4->Prop)(t:fo):TE:=λσ H Q=>t σ H λvs H1=>r vs H1 Q
theorem df(ar:jc X (.builtin id) r)(bp:ij X x)(hm:X.mg x=none)(a7:h0 x=some (.builtin id))(av:fl X (e::es) t)(aX:x≠"__name__":=by decide)(kC:(x==("__debug__":Str))=false:=by decide)(he:dt (e::es) X.env=(false,eval e X.env)::dt es X.env:=by rfl)(fg:(gX pos (dt es X.env)).any (·.1)=false:=by rfl):bl X (.Call (.Name x p) (e::es) [] pos) (qa r t):=by intro pins s σ H Q I h;refine xH (rb I bp hm a7 ?_ aX kC);exact ő (bA (av pos pins s σ H _ I h) λus s1⟨vs,H1,aL,cq,bw⟩=>ar pins s1 σ H1 vs us Q aL cq bw) he fg
theorem iv(ar:jc X (.type T) r)(bp:ij X x)(hm:X.mg x=none)(a7:h0 x=some (.type T))(av:fl X (e::es) t)(aX:x≠"__name__":=by decide)(kC:(x==("__debug__":Str))=false:=by decide)(he:dt (e::es) X.env=(false,eval e X.env)::dt es X.env:=by rfl)(fg:(gX pos (dt es X.env)).any (·.1)=false:=by rfl):bl X (.Call (.Name x p) (e::es) [] pos) (qa r t):=by intro pins s σ H Q I h;refine xH (rb I bp hm a7 ?_ aX kC);exact A_ (bA (av pos pins s σ H _ I h) λus s1⟨vs,H1,aL,cq,bw⟩=>ar pins s1 σ H1 vs us Q aL cq bw) he fg
end
end ao
namespace gB
open PySem PyProof.Rows
noncomputable def lexLt:List Int->List Int->Bool
 |[],[]=>false
 |[],_::_=>true
 |_::_,[]=>false
 |x::xs,y::ys=>if x=y then lexLt xs ys else decide (x<y)
section
variable{prog:cA}{w:bU}{A:dn}{E:b6}{s:aO}
noncomputable def hc(n d:Nat):Option Int->Nat
 |none=>d
 |some v=>if v<0 then(v+(n:Int)).toNat else min v.toNat n
theorem aiR(n d:Nat):hc n d none=d:=rfl
theorem aiQ(n d k:Nat):hc n d (some (k:Int))=min k n:=by show(if(k:Int)<0 then((k:Int)+(n:Int)).toNat else min (k:Int).toNat n)=min k n;rw[bz (by omega),qw]
theorem WI(n d:Nat)(hd:d<=n)(o:Option Int):hc n d o<=n:=by
 cases o with
 |none=>exact hd
 |some v=>
  show(if v<0 then(v+(n:Int)).toNat else min v.toNat n)<=n;by_cases a7:v<0
  .rw[bO a7];omega
  .rw[bz a7];exact Ew _ _
theorem afn(a n:Nat):((min a n:Nat):Int)=min (a:Int) (n:Int):=by
 rcases Nat.le_total a n with h|h
 .rw[Ě h,Z' (Z_.mpr h)]
 .rw[Nat.min_eq_right h,Int.min_eq_right (Z_.mpr h)]
end
end gB
namespace ao
open PySem PySem.Spec PyProof.Rows
noncomputable abbrev e2:=St->af->(Option Int->af->Prop)->Prop
noncomputable def EA(X:bx)(e:Option Expr)(t:e2):Prop:=
 ∀(pins:dD)(s:aO)(σ:St)(H:af)(Q:Option Int->af->Prop),Inv X pins σ H s->t σ H Q->
  aN (a_ X.prog X.w) X.A (evalPart e X.env) (λu s'=>∃o H',Inv X pins σ H' s'/\IsPart u o/\Q o H') X.dT s
noncomputable def ň:e2:=λ_ H Q=>Q none H
noncomputable def acz(t:TE):e2:=λσ H Q=>t σ H λx H1=>∃i,x=.int i/\Q (some i) H1
section
variable{X:bx}{e:Expr}{te:TE}{lo hi:Option Expr}{du z3:e2}{pos ey:Pos}
theorem Qt:EA X none ň:=by intro pins s σ H Q I h;rw[evalPart_none];exact ba ⟨none,H,I,.none,h⟩
theorem Hx(h:bl X e te):EA X (some e) (acz te):=by intro pins s σ H Q I hw;rw[evalPart_some];refine bA (h pins s σ H _ I hw) λu s1 hz=>?_;obtain⟨x,H1,aL,cq,bw⟩:=hz;obtain⟨i,rfl,q⟩:=bw;obtain⟨t,rfl⟩:=cq;exact⟨some i,H1,aL,.int i t,q⟩
noncomputable def Ju(X:bx)(r:V->Option Int->Option Int->af->a4->Prop):Prop:=
 ∀(pins:dD)(s:aO)(σ:St)(H:af)(x:V)(v rx ry:Value)(lo hi:Option Int)(bZ:Addr)(Q:a4),Inv X pins σ H s->RelV x v->s.heap.IsSliceOf bZ rx ry .none->IsPart rx lo->IsPart ry hi->r x lo hi H Q->
  ∃T id,typeLookup (.type T) "__getitem__"=pure (some (.builtin id))/\s.TypeIs v T/\aN (a_ X.prog X.w) X.A (BL v (.ref bZ)) (ih X pins σ Q) X.dT s
noncomputable def ajb(r:V->Option Int->Option Int->af->a4->Prop)(te:TE)(du z3:e2):TE:=λσ H Q=>te σ H λx H1=>du σ H1 λl ah=>z3 σ ah λu aU=>r x l u aU Q
theorem OL{r:V->Option Int->Option Int->af->a4->Prop}(al:Ju X r)(he:bl X e te)(au:EA X lo du)(bL:EA X hi z3):bl X (.Subscript e (.Slice lo hi none ey) pos) (ajb r te du z3):=by intro pins s σ H Q I h;refine S2 (bA (he pins s σ H _ I h) λv s1 hz=>?_);obtain⟨x,H1,aL,cq,bw⟩:=hz;refine wpAny_Slice (bA (au pins s1 σ H1 _ aL bw) λrx s2⟨l,ah,br,pl,cH⟩=>bA (bL pins s2 σ ah _ br cH) λry aW hz=>?_);obtain⟨u,aU,dg,pu,hJ⟩:=hz;rw[evalPart_none];refine ba ?_;have ko:Inv X pins σ aU {aW with heap:=aW.heap.push {cls:=.type "slice",data:=.fields #[rx,ry,.none]}}:=dg.kept (t':=aW.toks) λb ob q=>c9 _ q;obtain⟨T,id,hH,cO,bp⟩:=al pins {aW with heap:=aW.heap.push {cls:=.type "slice",data:=.fields #[rx,ry,.none]}} σ aU x v rx ry l u aW.heap.objs.size Q ko cq (Heap.IsSliceOf.new ..) pl pu hJ;show aN (a_ X.prog X.w) X.A (WX e (.Slice lo hi none ey) v (.ref aW.heap.objs.size)) (ih X pins σ Q) X.dT {aW with heap:=aW.heap.push {cls:=.type "slice",data:=.fields #[rx,ry,.none]}};exact tail_any (ops:=[.ref aW.heap.objs.size,v]) cO hH bp (by with_unfolding_all rfl)
noncomputable def vb(xs:aR)(lo hi:Option Int):List V:=(xs.drop (gB.hc xs.length 0 lo)).take (gB.hc xs.length xs.length hi-gB.hc xs.length 0 lo)
theorem Yk(xs:aR)(lo hi:Option Int):(vb xs lo hi).length<=xs.length:=by unfold vb;rw[ya,RJ];exact e1 (Ew _ _) (Nat.sub_le _ _)
noncomputable def so(n:Nat)(i:Int):Option Nat:=if 0<=i then(if i<n then some i.toNat else none)else if -(n:Int)<=i then some (i+n).toNat else none
noncomputable def hD{α:Type}(xs:List α)(i:Int):Option α:=(so xs.length i).bind λj=>xs[j]?
end
theorem Ŋ{n:Nat}{i:Int}{j:Nat}(h:so n i=some j):seqIndex? i n=some j/\j<n/\-(n:Int)<=i/\i<n:=by
 unfold so at h;by_cases a8:0<=i
 .rw[bO a8]at h;by_cases ai:i<n
  .rw[bO ai]at h;have e:i.toNat=j:=fG h;exact⟨by rw[seqIndex_of a8 ai,e],by omega,by omega,ai⟩
  .rw[bz ai]at h;cases h
 .rw[bz a8]at h;by_cases ai:-(n:Int)<=i
  .rw[bO ai]at h;have e:(i+n).toNat=j:=fG h;exact⟨by rw[seqIndex_neg (by omega) ai,e],by omega,ai,by omega⟩
  .rw[bz ai]at h;cases h
theorem Pe{α:Type}{xs:List α}{i:Int}{v:α}(h:hD xs i=some v):∃j,seqIndex? i xs.length=some j/\xs[j]?=some v/\j<xs.length/\-(xs.length:Int)<=i/\i<xs.length:=by
 unfold hD at h;cases e:so xs.length i with
 |none=>rw[e]at h;cases h
 |some j=>
  rw[e]at h;obtain⟨ai,aj,bC,c5⟩:=Ŋ e;exact⟨j,ai,h,aj,bC,c5⟩
theorem mV{α:Type}{xs:List α}{j:Nat}{v:α}(h:xs[j]?=some v):hD xs (j:Int)=some v:=by
 have bu:j<xs.length:=(gn.mp h).1;have e:so xs.length (j:Int)=some j:=by unfold so;rw[bO (by omega),bO (by omega)];simp
 unfold hD;rw[e];exact h
theorem Pw{α:Type}(xs:List α)(v:α):hD (xs++[v]) (-1)=some v:=by
 have au:(xs++[v]).length=xs.length+1:=by simp
 have e:so (xs++[v]).length (-1)=some xs.length:=by unfold so;rw[au,bz (by decide),bO (by omega)];congr 1;omega
 unfold hD;rw[e];show(xs++[v])[xs.length]?=some v;simp
noncomputable def ŋ(b:Expr):Prop:=∀o i,N9 b false o i=operate [o,i] (BL o i)
noncomputable def x2(X:bx)(r:js):Prop:=
 ∀(value slice:Expr)(pins:dD)(s:aO)(σ:St)(H:af)(x y:V)(v u:Value)(Q:a4),Inv X pins σ H s->RelV x v->RelV y u->r x y H Q->
  N9 slice false v u=operate [v,u] (BL v u)->aN (a_ X.prog X.w) X.A (WX value slice v u) (ih X pins σ Q) X.dT s
noncomputable def yj(X:bx)(id:String)(r:V->List V->af->a4->Prop):Prop:=
 ∀(pins:dD)(s:aO)(σ:St)(H:af)(x:V)(xs:aR)(v:Value)(us:dk)(Q:a4),Inv X pins σ H s->RelV x v->cX xs us->r x xs H Q->
  aN (a_ X.prog X.w) X.A (call (.builtin id) (v::us)) (ih X pins σ Q) X.dT s
section
variable{X:bx}{a b:Expr}{bW aA:TE}{pos:Pos}
theorem cU{r:js}(al:x2 X r)(av:bl X a bW)(ae:bl X b aA)(hs:ŋ b):bl X (.Subscript a b pos) (sR r bW aA):=by intro pins s σ H Q I h;exact S2 (JI av ae I h λv u s2 x y ah br bf bD q=>al a b pins s2 σ ah x y v u Q br bf bD q (hs _ _))
inductive TI(K:aQ)(x:ao.V)(y:ao.V)(H:af)(Q:a4):Prop where
 |mk (p:_) (xs:_) (i:_) (v:_) (aT:x=.ref p) (aP:y=.int i) (bh:aJ K H p xs) (cf:hD xs i=some v) (cP:Q v H)
inductive TJ(K:aQ)(x:ao.V)(y:ao.V)(H:af)(Q:a4):Prop where
 |mk (p:_) (xs:_) (i:_) (v:_) (aT:x=.ref p) (aP:y=.int i) (bh:cG K H p xs) (cf:hD xs i=some v) (cP:Q v H)
inductive aey(x:ao.V)(y:ao.V)(H:af)(Q:a4):Prop where
 |mk (z:_) (i:_) (c:_) (aT:x=.str z) (aP:y=.int i) (bh:z.length<=sizeLine) (cf:hD z.cps.toList i=some c) (cP:Q (.str ⟨#[c]⟩) H)
theorem gr:x2 X (TI X.K):=by
 intro value slice pins s σ H x y v u Q I bf bD h hs;obtain⟨p,xs,i,z,rfl,rfl,bo,he,q⟩:=h;cases bf;obtain⟨t,rfl⟩:=bD;obtain⟨its,r,pl,hz⟩:=I.list bo;obtain⟨j,ai,aj,bC,c5,fq⟩:=Pe he;obtain⟨w,yQ,dS⟩:=r.get aj;have au:=r.length;have aX:=zV;have fin:ih X pins σ Q w s:=⟨z,H,I,dS,q⟩
 by_cases a8:0<=i
 .have bu:i.toNat=j:=by rw[seqIndex_of a8 fq]at ai;exact fG ai
  exact item_listR pl.isList a8 (by omega) (by rw[bu];simpa using yQ) fin hs
 .have bu:(i+(its.toArray.size:Int)).toNat=j:=by rw[seqIndex_neg (by omega) c5]at ai;rw[gp,<-au];exact fG ai
  exact ai4 (x:=w) pl.isList.typeIs ai0.lookup
   (wpAny_getItem_list_neg (Q:=λr s'=>r=w/\ih X pins σ Q r s') pl.isList (by omega) (by rw[gp]<;>omega) (by omega) (by rw[bu];simpa using yQ) ⟨rfl,fin⟩) hs
theorem fe:x2 X (TJ X.K):=by
 intro value slice pins s σ H x y v u Q I bf bD h hs;obtain⟨p,xs,i,z,rfl,rfl,bo,he,q⟩:=h;cases bf;obtain⟨t,rfl⟩:=bD;obtain⟨its,r,pl,hz⟩:=I.tuple bo;obtain⟨j,ai,aj,bC,c5,fq⟩:=Pe he;obtain⟨w,yQ,dS⟩:=r.get aj;have au:=r.length;have aX:=zV;have fin:ih X pins σ Q w s:=⟨z,H,I,dS,q⟩
 exact ai4 (x:=w) pl.typeIs slot_tuple_getitem.lookup
  (getItem_tuple (j:=j) (Q:=λr s'=>r=w/\ih X pins σ Q r s') pl (by omega) (by omega) (by rw[gp,<-au];exact ai) (by simpa using yQ) ⟨rfl,fin⟩) hs
theorem Q':x2 X aey:=by
 intro value slice pins s σ H x y v u Q I bf bD h hs;obtain⟨z,i,c,rfl,rfl,hz,he,q⟩:=h;obtain⟨t,rfl⟩:=bf;obtain⟨t',rfl⟩:=bD;obtain⟨j,ai,aj,bC,c5,fq⟩:=Pe he;have au:z.cps.toList.length=z.length:=by simp[Jy]
 rw[au]at ai c5 fq;have aX:=zV;exact tail_any (Ds s z t) slot_str_getitem.lookup (getItem_str (c:=c) (by
  have aF:decide (i < -(2 ^ 63:Int))=false:=cM (by omega);have aG:decide (i≥2 ^ 63)=false:=cM (by omega);rw[aF,aG,Bool.or_false]) (by rw[ai];simpa using aj) ⟨.str ⟨#[c]⟩,H,I.tok _,⟨_,rfl⟩,q⟩) hs
theorem Q_(i:Int)(n d:Nat):max 0 (min (if i<0 then i+(n:Int)else i) (n:Int))=((gB.hc n d (some i):Nat):Int):=by
 show _=(((if i<0 then(i+(n:Int)).toNat else min i.toNat n):Nat):Int);by_cases h:i<0
 .rw[bO h,bO h,Z' (Ee (Int.add_le_add_right (IG h) _) (Int.le_of_eq (xY _))),Int.toNat_eq_max,Int.max_comm]
 .have a8:0<=i:=Int.not_lt.mp h;rw[bz h,bz h,gB.afn,vE a8,Int.max_eq_right (Int.le_min.mpr ⟨a8,Int.natCast_nonneg _⟩)]
theorem aj9(lo hi:Option Int)(n:Nat):(WQ lo hi none n).1=((gB.hc n 0 lo:Nat):Int)/\(WQ lo hi none n).2.1=((gB.hc n n hi:Nat):Int)/\(WQ lo hi none n).2.2=1:=by
 refine⟨?_,?_,rfl⟩
 .cases lo with
  |none=>rfl
  |some i=>exact Q_ i n 0
 .cases hi with
  |none=>rfl
  |some i=>exact Q_ i n n
theorem ajF(its:dk)(lo hi:Option Int):slicePick its.toArray lo hi none=((its.drop (gB.hc its.length 0 lo)).take (gB.hc its.length its.length hi-gB.hc its.length 0 lo)).toArray:=by obtain⟨ai,aj,bC⟩:=aj9 lo hi its.toArray.size;unfold slicePick;rw[ai,aj,bC];simp only[aiZ,pick_run,gp]<;>rfl
inductive aez(K:aQ)(x:V)(lo:(Option Int))(hi:(Option Int))(H:af)(Q:a4):Prop where
 |mk (a:_) (xs:_) (aT:x=.ref a) (aP:aJ K H a xs) (bh:∀p,H p=none->Q (.ref p) (upd H p (.lst (vb xs lo hi))))
theorem Qu:Ju X (aez X.K):=by intro pins s σ H x v rx ry lo hi bZ Q I bf hs pl pu h;obtain⟨a,xs,rfl,ax,q⟩:=h;cases bf;obtain⟨its,r,cO,hz⟩:=I.list ax;have hlen:=r.length;refine⟨"list",_,ai0.lookup,cO.isList.typeIs,?_⟩;refine wpAny_getItem_list_slice cO.isList hs pl pu .none (by simp) ?_ (by rw[gp]<;>omega);rw[ajF,<-hlen];refine⟨.ref s.heap.objs.size,_,I.laid (t':=s.toks) (o:=.lst (vb xs lo hi)) (λb ob q=>c9 _ q) (cL _) ?_,rfl,q _ (I.bj.fresh (cL _))⟩;exact⟨e1 (Yk xs lo hi) hz,_,0,(r.drop (gB.hc xs.length 0 lo)).take (gB.hc xs.length xs.length hi-gB.hc xs.length 0 lo),eY _ rfl⟩
noncomputable def nX:V->Bool
 |.bJ=>true
 |.aM _=>true
 |.int _=>true
 |.str _=>true
 |_=>false
noncomputable def t2:V->V->Bool
 |.bJ,.bJ=>true
 |.aM a,.aM b=>a==b
 |.aM a,.int b=>(if a then 1 else 0)==b
 |.int a,.aM b=>a==(if b then 1 else 0)
 |.int a,.int b=>a==b
 |.str a,.str b=>a==b
 |_,_=>false
theorem abh(bD:RelV y u)(bf:RelV x v)(af1:nX y=true)(nO:nX x=true):aaZ A s u v (t2 y x):=by
 cases y with
 |bJ=>
  cases bD;cases x with
  |bJ=>cases bf;exact SeqAt.EqAt.same _
  |aM b=>cases bf;exact SeqAt.EqAt.none_bool b
  |int b=>obtain⟨t,rfl⟩:=bf;exact SeqAt.EqAt.none_int b t
  |str b=>obtain⟨t,rfl⟩:=bf;exact SeqAt.EqAt.none_str b t
  |_=>exact bk (show false=true from nO) ei
 |aM a=>
  cases bD;cases x with
  |bJ=>cases bf;exact SeqAt.EqAt.bool_none a
  |aM b=>cases bf;exact SeqAt.EqAt.bool_bool a b
  |int b=>obtain⟨t,rfl⟩:=bf;exact SeqAt.EqAt.bool_int a b t
  |str b=>obtain⟨t,rfl⟩:=bf;exact SeqAt.EqAt.bool_str a b t
  |_=>exact bk (show false=true from nO) ei
 |int a=>
  obtain⟨t',rfl⟩:=bD;cases x with
  |bJ=>cases bf;exact SeqAt.EqAt.int_none a t'
  |aM b=>cases bf;exact SeqAt.EqAt.int_bool a t' b
  |int b=>obtain⟨t,rfl⟩:=bf;exact SeqAt.EqAt.int_int a t' b t
  |str b=>obtain⟨t,rfl⟩:=bf;exact aa0 a t' b t
  |_=>exact bk (show false=true from nO) ei
 |str a=>
  obtain⟨t',rfl⟩:=bD;cases x with
  |bJ=>cases bf;exact SeqAt.EqAt.str_none a t'
  |aM b=>cases bf;exact SeqAt.EqAt.str_bool a t' b
  |int b=>obtain⟨t,rfl⟩:=bf;exact aa1 a t' b t
  |str b=>obtain⟨t,rfl⟩:=bf;exact SeqAt.EqAt.str_str a t' b t
  |_=>exact bk (show false=true from nO) ei
 |_=>exact bk (show false=true from af1) ei
noncomputable def lQ(x:V)(u:Value):Bool:=match u with
 |.none=>t2 .bJ x
 |.bool b=>t2 (.aM b) x
 |.int i _=>t2 (.int i) x
 |.str z _=>t2 (.str z) x
 |_=>false
theorem Ra(r:RelV y u)(f:nX y=true):lQ x u=t2 y x:=by
 cases y with
 |bJ=>cases r;rfl
 |aM b=>cases r;rfl
 |int i=>obtain⟨t,rfl⟩:=r;rfl
 |str z=>obtain⟨t,rfl⟩:=r;rfl
 |_=>exact bk (show false=true from f) ei
theorem C_:∀{xs:aR}{us:dk},cX xs us->xs.all nX=true->us.any (lQ x)=xs.any λy=>t2 y x
 |_,_,.nil,_=>rfl
 |y::xs,u::us,.cons r t,f=>by rw[Rz,ie]at f;rw[Ej,Ej,Ra r f.1,C_ t f.2]
theorem CZ(bf:RelV x v)(nO:nX x=true):∀{xs:aR}{us:dk},cX xs us->xs.all nX=true->∀u∈us,aaZ A s u v (lQ x u)
 |_,_,.nil,_=>λu bL=>by cases bL
 |y::xs,u::us,.cons r t,f=>λu' bL=>by
  rw[Rz,ie]at f;rcases dX.mp bL with rfl|bL
  .rw[Ra r f.1];exact abh r bf f.1 nO
  .exact CZ bf nO t f.2 u' bL
noncomputable def iD(x:V)(xs:aR):Bool:=xs.any λy=>t2 y x
inductive Wz(K:aQ)(neg:Bool)(x:ao.V)(y:ao.V)(H:af)(Q:a4):Prop where
 |mk (p:_) (xs:_) (aT:y=.ref p) (aP:(aJ K H p xs\/cG K H p xs)) (bh:nX x=true) (cf:xs.all nX=true) (cP:Q (.aM (if neg then !iD x xs else iD x xs)) H)
theorem ux:gC X (i5 .In) (Wz X.K false):=by
 intro pins s σ H x y v u Q I bf bD h;obtain⟨p,xs,rfl,bo,nO,fs,q⟩:=h;cases bD;rcases bo with bo|bo
 .obtain⟨its,r,pl,hz⟩:=I.list bo;refine SeqAt.in_listAt (lQ x) pl.isList (λw hw=>CZ bf nO r fs w (by simpa using hw)) ⟨.aM _,H,I,rfl,?_⟩;rw[show its.toArray.any (lQ x)=its.any (lQ x) by simp,C_ r fs];exact q
 .obtain⟨its,r,pl,hz⟩:=I.tuple bo;refine SeqAt.in_tupleAt (lQ x) pl (λw hw=>CZ bf nO r fs w (by simpa using hw)) ⟨.aM _,H,I,rfl,?_⟩;rw[show its.toArray.any (lQ x)=its.any (lQ x) by simp,C_ r fs];exact q
theorem tX:gC X (i5 .NotIn) (Wz X.K true):=by
 intro pins s σ H x y v u Q I bf bD h;obtain⟨p,xs,rfl,bo,nO,fs,q⟩:=h;cases bD;rcases bo with bo|bo
 .obtain⟨its,r,pl,hz⟩:=I.list bo;refine SeqAt.notIn_listAt (lQ x) pl.isList (λw hw=>CZ bf nO r fs w (by simpa using hw)) ⟨.aM _,H,I,rfl,?_⟩;rw[show its.toArray.any (lQ x)=its.any (lQ x) by simp,C_ r fs];exact q
 .obtain⟨its,r,pl,hz⟩:=I.tuple bo;refine SeqAt.notIn_tupleAt (lQ x) pl (λw hw=>CZ bf nO r fs w (by simpa using hw)) ⟨.aM _,H,I,rfl,?_⟩;rw[show its.toArray.any (lQ x)=its.any (lQ x) by simp,C_ r fs];exact q
inductive aeA(K:aQ)(xs:aR)(H:af)(Q:a4):Prop where
 |mk (p:_) (ys:_) (aT:xs=[.ref p]) (aP:(aJ K H p ys\/cG K H p ys)) (bh:Q (.int ys.length) H)
theorem iQ:jc X (.builtin "len") (aeA X.K):=by
 intro pins s σ H xs us Q I r h;obtain⟨p,ys,rfl,bo,q⟩:=h;obtain⟨u,rfl,bf⟩:=vals1 r;cases bf;have aX:=zV;rcases bo with bo|bo
 .obtain⟨its,cT,pl,hz⟩:=I.list bo;have hlen:=cT.length;exact Calls.call_len_list pl.isList (by simp only[gp]<;>omega) ⟨.int ys.length,H,I.tok _,⟨s.toks+1,by rw[gp,hlen]⟩,q⟩
 .obtain⟨its,cT,pl,hz⟩:=I.tuple bo;have hlen:=cT.length;exact len_tuple pl (by simp only[gp]<;>omega) ⟨.int ys.length,H,I.tok _,⟨s.toks+1,by rw[gp,hlen]⟩,q⟩
theorem Ci:jc X (.builtin "len") (λxs H Q=>∃z,xs=[.str z]/\z.length<=sizeLine/\Q (.int z.length) H):=by intro pins s σ H xs us Q I r h;obtain⟨z,rfl,hz,q⟩:=h;obtain⟨u,rfl,t,rfl⟩:=vals1 r;have aX:=zV;exact len_str (by omega) ⟨.int z.length,H,I.tok _,⟨_,rfl⟩,q⟩
theorem y9:jc X (.type "list") (λxs H Q=>∃p ys,xs=[.ref p]/\(aJ X.K H p ys\/cG X.K H p ys)/\∀l,H l=none->Q (.ref l) (upd H l (.lst ys))):=by
 intro pins s σ H xs us Q I r h;obtain⟨p,ys,rfl,bo,q⟩:=h;obtain⟨u,rfl,bf⟩:=vals1 r;cases bf;have fin:∀(its:dk),cX ys its->ys.length<=sizeLine->∀(h':Heap)(nD:Nat),(∀b cD,s.heap.get? b=some cD->h'.get? b=some cD)->
   h'.get? s.heap.objs.size=some {cls:=.type "list",dict:=none,data:=.seq its.toArray nD,slots:=#[]}->ih X pins σ Q (.ref s.heap.objs.size) {s with heap:=h'}:=λits cT hz h' nD b3 e=>
  ⟨.ref s.heap.objs.size,_,I.laid (t':=s.toks) b3 (cL _) (show er X.prog X.w _ h' _ (.lst ys)from⟨hz,its,nD,cT,e⟩),rfl,q _ (I.bj.fresh (cL _))⟩
 rcases bo with bo|bo
 .obtain⟨its,cT,pl,hz⟩:=I.list bo;have hlen:=cT.length;obtain⟨o,aI,ar,n,hd⟩:=pl.isList;exact call_list_seq p (.inl rfl) aI ar hd (λh' nD b3 e=>fin its cT hz h' nD b3 e) (by simp only[gp]<;>omega)
 .obtain⟨its,cT,pl,hz⟩:=I.tuple bo;have hlen:=cT.length;obtain⟨o,aI,ar,n,hd⟩:=pl;exact call_list_seq p (.inr rfl) aI ar hd (λh' nD b3 e=>fin its cT hz h' nD b3 e) (by simp only[gp]<;>omega)
theorem ajG:jc X (.type "tuple") (λxs H Q=>∃p ys,xs=[.ref p]/\((aJ X.K H p ys/\∀l,H l=none->Q (.ref l) (upd H l (.tup ys)))\/(cG X.K H p ys/\Q (.ref p) H))):=by
 intro pins s σ H xs us Q I r h;obtain⟨p,ys,rfl,h⟩:=h;obtain⟨u,rfl,bf⟩:=vals1 r;cases bf;rcases h with⟨bo,q⟩|⟨bo,q⟩
 .obtain⟨its,cT,pl,hz⟩:=I.list bo;have hlen:=cT.length;refine call_tuple_list pl.isList (λh' b3=>?_) (by simp only[gp]<;>omega);have aL:Inv X pins σ H {s with heap:=h'}:=I.kept (t':=s.toks) b3;have br:Inv X pins σ (upd H h'.objs.size (.tup ys)) {s with heap:=h'.push {cls:=.type "tuple",data:=.seq its.toArray}}:=
   aL.laid (t':=s.toks) (λb o e=>c9 _ e) (cL _) (show er X.prog X.w _ _ _ (.tup ys)from⟨hz,its,cT,IsTup.new _ _⟩)
  exact⟨.ref h'.objs.size,_,br,rfl,q _ (aL.bj.fresh (cL _))⟩
 .obtain⟨its,cT,pl,hz⟩:=I.tuple bo;exact call_tuple_same pl ⟨.ref p,H,I,rfl,q⟩
noncomputable def Hv(K:aQ)(T:String)(x:V)(H:af):Prop:=match x with
 |.str _=>T="str"
 |.int _=>T="int"
 |.ref p=>(T="list"/\∃xs,aJ K H p xs)\/(T="tuple"/\∃o,K.lookup p=some o/\o.cls=.type "tuple"/\o.dict=none)\/
   (T="dict"/\((∃kvs,H p=some (.cF kvs))\/∃kvs,H p=some (.bV kvs)))\/(T="set"/\∃S n,H p=some (.set S n))
 |_=>False
theorem Rb{s:aO}(I:Inv X pins σ H s)(r:RelV x v)(ty:Hv X.K T x H):
  s.TypeIs v T/\∀a,v=.ref a->∃ob,s.heap.get? a=some ob/\ob.dict=none:=by
 cases x with
 |str z=>
  obtain⟨t,rfl⟩:=r;cases(show T="str" from ty);exact⟨Ds s z t,λ_ e=>nomatch e⟩
 |int i=>
  obtain⟨t,rfl⟩:=r;cases(show T="int" from ty);exact⟨typeIs_int s i t,λ_ e=>nomatch e⟩
 |ref p=>
  cases r;rcases ty with⟨rfl,xs,bo⟩|⟨rfl,o,aD,ar,hd⟩|⟨rfl,aD⟩|⟨rfl,S,n,aD⟩
  .obtain⟨its,_,pl,_⟩:=I.list bo;refine⟨pl.isList.typeIs,λa e=>?_⟩;cases e;obtain⟨o,n,e,c,hd,_⟩:=pl;exact⟨o,e,hd⟩
  .refine⟨⟨o,I.ef p o aD,ar⟩,λa e=>?_⟩;cases e;exact⟨o,I.ef _ o aD,hd⟩
  .have z:∃o,s.heap.get? p=some o/\o.ExactDict:=by
    rcases aD with⟨kvs,aD⟩|⟨kvs,aD⟩
    .obtain⟨_,_,_,_,o,_,_,e,ex,_⟩:=I.bj p _ aD;exact⟨o,e,ex⟩
    .obtain⟨_,_,_,_,o,_,_,e,ex,_⟩:=I.bj p _ aD;exact⟨o,e,ex⟩
   obtain⟨o,e,ex⟩:=z;refine⟨⟨o,e,ex.1⟩,λa aG=>?_⟩;cases aG;exact⟨o,e,ex.2.1⟩
  .obtain⟨o,_,_,_,e,ex,_⟩:=I.bj p _ aD;refine⟨⟨o,e,ex.1⟩,λa aG=>?_⟩;cases aG;exact⟨o,e,ex.2.1⟩
 |_=>exact iJ ty
noncomputable def aeB(K:aQ)(T:String)(r:V->List V->af->a4->Prop)(to:TE):TE:=λσ H Q=>to σ H λx H1=>Hv K T x H1/\r x [] H1 Q
noncomputable def ai6(K:aQ)(T:String)(r:V->List V->af->a4->Prop)(to:TE)(t:fo):TE:=λσ H Q=>to σ H λx H1=>Hv K T x H1/\t σ H1 λxs ah=>r x xs ah Q
variable{o e:Expr}{es:hB}{to:TE}{t:fo}{name:Str}{fb e5:Pos}{T id:String}{r:V->List V->af->a4->Prop}
theorem abi(iG:PlainAttrs T)(slot:Slot T name id)(sk:typeOf (.builtin id)=pure (.type "method_descriptor"))(hm:yj X id r)(aI:bl X o to)(BY:yD o name X.env (eval o X.env)=eval o X.env:=by rfl)(B4:(fb.endLine==e5.line)=true:=by rfl):bl X (.Call (.Attribute o name fb) [] [] e5) (aeB X.K T r to):=by intro pins s σ H Q I h;refine ajM BY B4 (bA (aI pins s σ H _ I h) λv s1 hz=>?_);obtain⟨x,H1,aL,cq,ty,bw⟩:=hz;obtain⟨ai,aj⟩:=Rb aL cq ty;exact⟨T,id,iG,slot,sk,ai,aj,Aq rfl (ų (hm pins s1 σ H1 x [] v [] Q aL cq .nil bw))⟩
theorem l5(iG:PlainAttrs T)(slot:Slot T name id)(sk:typeOf (.builtin id)=pure (.type "method_descriptor"))(hm:yj X id r)(aI:bl X o to)(av:fl X (e::es) t)(BY:yD o name X.env (eval o X.env)=eval o X.env:=by rfl)(agD:((gX e5 (dt (e::es) X.env)).all (λx=>!x.1)&&(kv e5 (kI [] X.env)).all (λx=>x.1.isSome)
   && decide ((e::es).length+([]:List vG).length+(if([]:List vG).isEmpty then 0 else 1)<30))=true:=by rfl)(B4:(fb.endLine==e5.line)=true:=by rfl)(hs:dt (e::es) X.env=(false,eval e X.env)::dt es X.env:=by rfl)(ag4:(gX e5 (dt es X.env)).any (·.1)=false:=by rfl):
  bl X (.Call (.Attribute o name fb) (e::es) [] e5) (ai6 X.K T r to t):=by intro pins s σ H Q I h;refine wpAny_Call_method_late BY agD B4 rfl (bA (aI pins s σ H _ I h) λv s1 hz=>?_);obtain⟨x,H1,aL,cq,ty,bw⟩:=hz;obtain⟨ai,aj⟩:=Rb aL cq ty;refine⟨T,id,iG,slot,sk,ai,aj,?_⟩;have mY:=av e5 pins s1 σ H1 _ aL bw;rw[hs]at mY⊢;refine Aq (by show(false||(gX e5 (dt es X.env)).any (·.1))=false;rw[ag4]<;>rfl) (D1 ?_);exact bA mY λus s2⟨vs,ah,br,dV,cH⟩=>hm pins s2 σ ah x vs v us Q br cq dV cH
end
noncomputable def I_(X:bx)(id:String)(r:V->List V->af->a4->Prop):Prop:=
 ∀(pins:dD)(s:aO)(σ:St)(H:af)(x:V)(xs:aR)(v:Value)(us:dk)(Q:a4),Inv X pins σ H s->RelV x v->cX xs us->r x xs H Q->
  aN (a_ X.prog X.w) X.A (call (.builtin id) (v::us)) (ih X pins σ Q) X.dT s
theorem cX.one:∀{x:V}{us:dk},cX [x] us->∃u,us=[u]/\RelV x u
 |_,_,.cons r .nil=>⟨_,rfl,r⟩
theorem cX.zero:∀{us:dk},cX [] us->us=[]
 |_,.nil=>rfl
section
variable{X:bx}{pins:dD}{σ:St}{H:af}{s:aO}{l b:Addr}{xs ys zs:aR}
theorem Inv.VO{its its':dk}{n:Nat}{f:Array Value->Array Value}{t':Nat}(I:Inv X pins σ H s)(kB:H l=some (.lst xs))(e:s.heap.get? l=some {cls:=.type "list",data:=.seq its.toArray n})(bE:f its.toArray=its'.toArray)(a7:cX ys its')(hz:ys.length<=sizeLine):
  Inv X pins σ (upd H l (.lst ys)) {s with heap:=s.heap.update l (yk f),toks:=t'}:=by have q:=PySem.IsL.update e f;rw[bE]at q;refine I.write (x:=l) (e:=l) (by rw[kB];exact trivial) (.inl rfl) (λbI u ae bL=>(ik s.heap (yk f) (d3 ae)).trans bL) ⟨_,q⟩ ?_;exact⟨hz,its',_,a7,q⟩
theorem Inv.MI{its:dk}{t':Nat}(I:Inv X pins σ H s)(a7:cX ys its)(hz:ys.length<=sizeLine):
  Inv X pins σ (upd H s.heap.objs.size (.lst ys)) {s with heap:=s.heap.push {cls:=.type "list",data:=.seq its.toArray},toks:=t'}:=
 I.laid (λ_ _ q=>c9 _ q) (cL _) ⟨hz,its,0,a7,eY _ rfl⟩
theorem Inv.fresh(I:Inv X pins σ H s):H s.heap.objs.size=none:=I.bj.fresh (cL _)
theorem Inv.Cv(I:Inv X pins σ H s)(kB:H l=some (.lst xs)):xs.length<=sizeLine/\∃(its:dk)(n:Nat),cX xs its/\xs.length=its.length/\s.heap.get? l=some {cls:=.type "list",data:=.seq its.toArray n}:=by obtain⟨z,its,n,r,e⟩:=I.bj l _ kB;exact⟨z,its,n,r,r.length,e⟩
theorem Ê{n:Nat}(h:n<=sizeLine):P7 n=false:=by unfold P7;exact cM (by omega)
end
section
variable{X:bx}
inductive Ō(x:V)(vs:aR)(H:af)(Q:a4):Prop where
 |mk (l:_) (xs:_) (y:_) (aT:x=.ref l) (aP:vs=[y]) (bh:H l=some (.lst xs)) (cf:xs.length<sizeLine) (cP:Q .bJ (upd H l (.lst (xs++[y]))))
theorem qR:I_ X "list.append" Ō:=by intro pins s σ H x vs v us Q I bf cc h;obtain⟨l,xs,y,rfl,rfl,kB,hz,q⟩:=h;cases bf;obtain⟨u,rfl,dF⟩:=cc.one;obtain⟨z,its,n,r,au,e⟩:=I.Cv kB;refine yH F.slot_list_append ⟨_,e,rfl⟩ F.entry_list_append (F.args_list_append_2 _ _) (PySem.list_append l its.toArray n u (by rw[gp];omega)) ⟨e,?_⟩;refine⟨.bJ,_,I.VO (its':=its++[u]) kB e (by simp) (r.append (.cons dF .nil)) ?_,rfl,q⟩;rw[eS,ï];omega
inductive ō(x:V)(vs:aR)(H:af)(Q:a4):Prop where
 |mk (l:_) (b:_) (xs:_) (zs:_) (aT:x=.ref l) (aP:vs=[.ref b]) (bh:H l=some (.lst xs)) (cf:H b=some (.lst zs)) (cP:xs.length+zs.length<=sizeLine) (dM:Q .bJ (upd H l (.lst (xs++zs))))
theorem alo:I_ X "list.extend" ō:=by
 intro pins s σ H x vs v us Q I bf cc h;obtain⟨l,b,xs,zs,rfl,rfl,kB,Lc,hz,q⟩:=h;cases bf;obtain⟨u,rfl,dF⟩:=cc.one;cases dF;obtain⟨z,its,n,r,au,e⟩:=I.Cv kB;obtain⟨aP,q1,cC,dV,wD,aG⟩:=I.Cv Lc;have hsz:its.toArray.size+q1.toArray.size<=sizeLine:=by rw[gp,gp];omega
 have agP:¬(!its.toArray.isEmpty&&P7 (its.toArray.size+q1.toArray.size))=true:=by rw[Ê hsz,H6];exact ei
 refine yH F.slot_list_extend ⟨_,e,rfl⟩ F.entry_list_extend (F.args_list_extend_2 _ _)
  (AutoSeq1.list_extend_list_list_0 l its.toArray n b q1.toArray cC agP (by rw[gp];omega) (by omega)) ⟨e,aG,?_⟩
 refine⟨.bJ,_,I.VO (its':=its++q1) kB e (by simp) (r.append dV) ?_,rfl,q⟩;rw[eS];omega
inductive aeC(x:ao.V)(y:ao.V)(H:af)(Q:a4):Prop where
 |mk (l:_) (b:_) (xs:_) (zs:_) (aT:x=.ref l) (aP:y=.ref b) (bh:H l=some (.lst xs)) (cf:H b=some (.lst zs)) (cP:xs.length+zs.length<=sizeLine) (dM:∀p,H p=none->Q (.ref p) (upd H p (.lst (xs++zs))))
theorem uJ:gC X (tL .Add) aeC:=by
 intro pins s σ H x y v u Q I bf bD h;obtain⟨l,b,xs,zs,rfl,rfl,kB,Lc,hz,q⟩:=h;cases bf;cases bD;obtain⟨z,its,n,r,au,e⟩:=I.Cv kB;obtain⟨aP,q1,cC,dV,wD,aG⟩:=I.Cv Lc;refine PySem.P.add_list e aG ?_ (by rw[gp,gp];omega);have aS:its.toArray++q1.toArray=(its++q1).toArray:=by simp
 rw[aS];exact⟨.ref _,_,I.MI (t':=s.toks) (r.append dV) (by rw[eS];omega),rfl,q _ I.fresh⟩
end
end ao
namespace PK
open PySem PySem.W PySem.Calls PyProof.Rows
theorem ajo:∀(ns:jM)(vs:dk),WellAll P h vs (ns.map WData.int)->Ef vs ns:=by
 intro ns
 induction ns with
 |nil=>
  intro vs w;rw[I1]at w;cases w;exact .nil
 |cons n ns a5=>
  intro vs w;rw[il]at w;cases w with
  |cons a b=>
   cases a;exact .cons _ _ (a5 _ b)
theorem ZU{l:OpenLaw}{n:Nat}(aX:l.most=some n){h:Heap}{args:List WData}(FX:l.row.toRowW.claim.pre args=true)(L9:WellAll P h vals args):
  ∃a vs ns,vals=[cg a]/\args=[WData.list (ns.map WData.int)]/\h.get? a=some {cls:=.type "list",data:=.seq vs.toArray}/\Ef vs ns/\ns.length<=n:=by
 have wK:WShape.hasAll [] args [.list .int]=true:=(pre_splitW FX).1;have ar:l.pre.holds [] {args:=args}=true:=(pre_splitW FX).2;obtain⟨d,r,rfl,ai,aj⟩:=hasAllW_cons wK;obtain rfl:=hasAllW_nil aj;obtain⟨xs,rfl,bC⟩:=hasW_list ai;obtain⟨ns,rfl⟩:=items_int bC;have hlen:ns.length<=n:=by
  unfold OpenLaw.pre at ar;have c5:(WTm.not (.lt (.lit (.int (n:Int))) (.len (.arg 0)))).holds [] {args:=[.list (ns.map .int)]}=true:=by have c5:=(holds_andW ar).1;rw[aX]at c5;exact c5
  have fq:=condW_of c5 (w_not (w_lt w_lit (w_len_list (w_arg rfl))));rw[cj]at fq;refine Nat.le_of_not_lt λq=>?_;have kP:(n:Int)<((ns.length:Nat):Int):=by omega
  first
   | (rw[b4 kP]at fq;exact bk fq (by decide))
   | (simp at fq;omega)
 cases L9 with
 |cons jj m9=>
  cases m9;cases jj with
  |list aI pQ=>exact⟨_,_,ns,rfl,rfl,aI,ajo ns _ pQ,hlen⟩
theorem ZV(l:OpenLaw)(args:List WData):l.row.toRowW.claim.post args (.bool true) args=true:=
 postW_of (r:=l.row.toRowW) (X:=(true==true))
  (show WShape.has [] (.bool true) .bool=true by first|rfl|decide|simp[WShape.has,WShape.arms,WShape.armsAll])
  (show(WTm.eq .res (.lit (.bool true))).value [] {args:=args,res:=some (.bool true),after:=args}=some (.bool (true==true))from w_eq_bool (w_res rfl) w_lit) rfl
theorem afe{l:OpenLaw}{n:Nat}{yC:b9->Heap->Prop}{tJ:bU->Heap->Prop}{d:DefRec}(aX:l.most=some n)(B3:d.params.defaults=[])(call:∀(w:bU)(ia dI:aO)(mg oX:b9)(gF:Addr)(o:Obj)(pm d1 doc:Value)(a:Addr)(vs:dk)(ns:jM),
   Ground q loose [] yC w ia mg oX dI.heap->tJ w dI.heap->
   dI.heap.get? gF=some o->o.data=.func (docDef d.name d.params d.body d.scope pm d1 doc)->dI.heap.CodeRec d1 d.name->mg d.name=some (.ref gF)->
   dI.heap.get? a=some {cls:=.type "list",data:=.seq vs.toArray}->Ef vs ns->ns.length<=n->dI.gens=#[]->
   jv (a_ l.prog w) yI (.call (.ref gF) ⟨[.ref a],[]⟩) (λr s'=>r=.ok (.ret (.bool true))/\OldK dI.heap s'.heap/\s'.os=dI.os/\rE s'.gens) dI):
  WalkO q loose yC tJ l.row.toRowW d [] (λf vs=>SP f vs):=by intro w ia dI mg oX G Y gF o pm d1 doc Km c0 aI hd lY bF B5 bp args vals as FX an7 nQ L9 an8;obtain rfl:Km=.none:=Dflts.none bF B3;obtain rfl:c0=.none:=Dflts.noKw bF;obtain⟨a,vs,ns,rfl,rfl,LV,hints,hlen⟩:=ZU aX FX L9;refine enter_call (pK (call w ia dI mg oX gF o pm d1 doc a vs ns G Y aI (fd_plain hd) lY B5 LV hints hlen bp) λr s' bo=>?_);obtain⟨rfl,aj,bC,c5⟩:=bo;exact⟨.inl ⟨.bool true,.bool true,[],rfl,λ_=>rfl,.bool true,ZV l _,λ_=>⟨List.Pairwise.nil,λ_ hm=>(nomatch hm)⟩⟩,aj,bC,c5⟩
end PK
namespace ao
open PySem PySem.Spec PyProof.Rows
theorem XK:∀{vs:dk}{ns:jM},Ef vs ns->cX (ns.map V.int) vs
 |_,_,.nil=>.nil
 |_,_,.cons n t h=>.cons ⟨t,rfl⟩ (XK h)
noncomputable def Ji(H:af):Prop:=∀b,H b=none\/∃o xs,H b=some (.ed o (.lst xs))
theorem Ë{K:aQ}{mg oX:b9}{k:Nat}{dI:aO}{vs:dk}{ns:jM}(nr:K.In dI.heap)(B7:dI.heap.Ns p2 mg)(ae:dI.heap.Ns Ue oX)(agq:∀x:Str,x≠"__name__"->oX x=h0 x)(agO:dI.heap.NoLimit)(bp:dI.gens=#[])(av:dI.heap.get? a=some {cls:=.type "list",data:=.seq vs.toArray})(hi:Ef vs ns)(au:ns.length<=sizeLine)(al:f3 k yI)(F:∀base:Heap,K.In base->base.Ns p2 mg->aK P w K mg base CX k gF fd [x] sp)(ags:∀(s:aO)(u:Value),An s fd ⟨[u],[]⟩ [(x,u)])(oP:∀H:af,Ji H->aJ K H a (ns.map V.int)->sp [.ref a] H (λv _=>v=.aM true) λ_ _ _=>False)(Le:∀H e s',CX [] H dI (λ_ _ _=>False) e s'->False):
  jv (a_ P w) yI (.call (.ref gF) ⟨[.ref a],[]⟩) (λr s'=>r=.ok (.ret (.bool true))/\OldK dI.heap s'.heap/\s'.os=dI.os/\rE s'.gens) dI:=by
 have cc:=XK hi;have ahJ:=hi.length;have core:∀H:af,Ji H->aJ K H a (ns.map V.int)->fj P w H dI.heap->(∀b,H b≠none->b=a)->(H a≠none->K.lookup a=none)->
   jv (a_ P w) yI (.call (.ref gF) ⟨[.ref a],[]⟩) (λr s'=>r=.ok (.ret (.bool true))/\OldK dI.heap s'.heap/\s'.os=dI.os/\rE s'.gens) dI:=by
  intro H FD ee bj mY eP;have Uc:∀{b:Addr}{o:Obj},dI.heap.get? b=some o->H b=none->(sX dI.heap H).get? b=some o:=λe n=>χ e n;have CN:∀{b:Addr}{o:Obj}{es:Array pe}{ep:Nat},dI.heap.get? b=some o->o.data=.dict es ep->H b=none:=λ{b o es ep}e d=>by
   cases q:H b with
   |none=>rfl
   |some u=>
    have bB:b=a:=mY b (by rw[q];simp);subst bB;rw[av]at e;cases e;have d':Data.seq vs.toArray _=Data.dict es ep:=d;cases d'
  have Gp:∀{b:Addr}{m:b9},dI.heap.Ns b m->(sX dI.heap H).Ns b m:=λ{b m}⟨o,es,ep,e,d,r⟩=>⟨o,es,ep,Uc e (CN e d),d,r⟩
  have U1:K.In (sX dI.heap H):=λb o e=>Uc (nr b o e) (by
   cases q:H b with
   |none=>rfl
   |some u=>
    have bB:b=a:=mY b (by rw[q];simp);subst bB;rw[eP (by rw[q];simp)]at e;cases e)
  have BQ:Mod K mg (sX dI.heap H):=⟨U1,Gp B7,⟨oX,Gp ae,agq⟩,let⟨ahN,ai,aj⟩:=agO;⟨ahN,Gp ai,aj⟩⟩
  have dm:vo P w K mg (sX dI.heap H) yI [] dI H:=⟨rfl,BQ,λb o e=>Ĩ e,A1 (ZL _ _),trivial,λb ae=>bk (show b∈([]:c7)from ae) (by simp),bj,.of_eq bp⟩
  refine pK ((F _ U1 (Gp B7)).run yI [] dI H ⟨[.ref a],[]⟩ [.ref a] [.ref a] _ _ al dm (ags dI (.ref a)) (.cons rfl .nil) (oP H FD ee)) λr s' h=>?_;cases r with
  |error e=>exact(Le H e s' h).elim
  |ok fz=>
   cases fz with
   |next=>exact iJ h
   |brk=>exact iJ h
   |cont=>exact iJ h
   |ret u=>
    obtain⟨v,H',os,bare,un,agZ,cT,q⟩:=h;have kP:v=.aM true:=q;subst kP;obtain rfl:u=Bo true:=cT;refine⟨rfl,OldK.of_keep λb o e=>?_,os,bare⟩;cases q:H b with
    |none=>exact un.keep b o e q (by intro z;exact bk (show b∈([]:c7)from z) (by simp)) (by simp)
    |some u=>
     rcases FD b with z|⟨ob,xs,z⟩
     .rw[q]at z;cases z
     .have aP:=un.iT b ob _ z;obtain⟨aF,_⟩:=bj b _ z;obtain⟨aG,_⟩:=agZ b _ aP;rw[e]at aF;cases aF;exact aG
 cases aD:K.lookup a with
 |some o=>
  have e:=nr a o aD;rw[av]at e;cases e;refine core (λ_=>none) (λ_=>.inl rfl) (.inr ⟨_,vs.toArray,_,aD,rfl,rfl,rfl,by rw[gp,ahJ];exact au,by simpa using cc⟩) (λb u z=>by have cZ:(none:Option hN)=some u:=z;cases cZ) (λb z=>bk rfl z) λz=>bk rfl z
 |none=>
  refine core (λb=>if b=a then some (.ed {cls:=.type "list",data:=.seq vs.toArray} (.lst (ns.map V.int)))else none) (λb=>?_) (.inl (.inr ⟨{cls:=.type "list",data:=.seq vs.toArray},bO rfl⟩)) (λb u z=>?_) (λb z=>?_) λ_=>aD
  .by_cases ae:b=a
   .exact .inr ⟨_,_,bO ae⟩
   .exact .inl (bz ae)
  .by_cases ae:b=a
   .have cZ:=(bO ae).symm.trans z;cases cZ;subst ae;exact⟨av,by rw[cj];exact au,vs,_,cc,av⟩
   .have cZ:=(bz ae).symm.trans z;cases cZ
  .by_cases ae:b=a
   .exact ae
   .exact bk (bz ae) z
noncomputable abbrev akJ{K:aQ}{h:Heap}(_:K.In h):aQ:=K
theorem ajJ{l:Sz}{n k:Nat}{yC:b9->Heap->Prop}{tJ:bU->Heap->Prop}{d:DefRec}{K:Params->aQ}{CX:bU->mn}{sp:bU->gD}{x:Str}(aX:l.most=some n)(FR:n<=sizeLine)(B3:d.params.defaults=[])(al:f3 k yI)(Li:∀(w:bU)(h:Heap),tJ w h->(K w.params).In h)(F:∀(w:bU)(mg:b9)(gF:Addr)(h:Heap),(K w.params).In h->h.Ns p2 mg->mg d.name=some (.ref gF)->
   ∃fd:ni,(∀(s:aO)(u:Value),An s fd ⟨[u],[]⟩ [(x,u)])/\
    ∀base:Heap,(K w.params).In base->base.Ns p2 mg->aK l.prog w (K w.params) mg base (CX w) k gF fd [x] (sp w))(oP:∀(w:bU)(H:af)(a:Addr)(ns:jM),ns.length<=n->Ji H->aJ (K w.params) H a (ns.map V.int)->sp w [.ref a] H (λv _=>v=.aM true) λ_ _ _=>False)(Le:∀(w:bU)(H:af)(s:aO)(e:Value)(s':aO),CX w [] H s (λ_ _ _=>False) e s'->False):
  Ţ q loose yC tJ l.row.toRowW d [] (λf vs=>SP f vs):=by refine PK.afe aX B3 λw ia dI mg oX gF o pm d1 doc a vs ns G Y aI hd lY B5 LV hints hlen bp=>?_;have nr:=Li w _ Y;obtain⟨fd,ae,qT⟩:=F w mg gF _ nr G.T.g B5;exact Ë nr G.T.g G.T.b G.T.builtins G.T.nolimit bp LV hints (e1 hlen FR) al qT ae (λH FD ee=>oP w H a ns hlen FD ee) λH e s'=>Le w H dI e s'
noncomputable def iC(s:Stmt)(j:Nat):Stmt:=match s with
 |.ClassDef _ _ _ body _ _ _ _ _ _ _=>body.getD j (.Pass ⟨0,0,0,0⟩)
 |_=>.Pass ⟨0,0,0,0⟩
noncomputable def mW(s:Stmt):Arguments:=match s with
 |.FunctionDef _ a _ _ _ _ _ _ _ _=>a
 |_=>{posonlyargs:=[],args:=[],vararg:=none,kwonlyargs:=[],kw_defaults:=[],kwarg:=none,defaults:=[]}
noncomputable def ky(s:Stmt):List Stmt:=match s with
 |.FunctionDef _ _ b _ _ _ _ _ _ _=>b
 |_=>[]
noncomputable def cy(s:Stmt):Scope:=match s with
 |.FunctionDef _ _ _ _ _ _ sc _ _ _=>sc
 |_=>{kind:=.function,names:=[],isGenerator:=false,isCoroutine:=false}
noncomputable abbrev bq:mn:=λ_ _ _ _ _ _=>False
noncomputable abbrev mv:bP:=λ_ _ _=>False
theorem cJ:nU bq X mv:=λ_ _ _ _ _ _ _ h=>h.elim
structure cz(K:aQ)(x qual:Str)(st:Stmt)(f:Addr)(fd:ni):Prop where
 ex:∃(jX:Value)(d2:Option Addr)(c0 doc pm:Value)(an:Option Addr)(cdv ec:Value)(lx:k6),
  fd=lH x qual (mW st) (ky st) (cy st) .none c0 doc pm an cdv ec/\K.lookup f=some ⟨jX,d2,.func fd,lx⟩/\Bf K cdv qual=true
 b3:mF K (.ref f)=true
section
variable{P:cA}{w:bU}{K:aQ}{mg:b9}{base:Heap}
theorem cz.ok{st:Stmt}{f:Addr}{ps:ck}{k:Nat}{sp:gD}(F:cz K x qual st f fd)(S:de N ps (cy st))(wB:∀(cdv:Value)(A:dn)(outer:List Env)(s:aO)(H:af)(vs:aR)(Q:a4)(E:bP),f3 k (A.deeper (oG qual (cy st) s.heap.objs.size f cdv))->sp vs H Q E->
   ∃t,gc (je bq P w K mg base N qual (cy st) f cdv A outer s H E).w_ (ky st) t/\t {cp:=λ_ H'=>Q .bJ H',h9:=Q} (start N vs) H)(len:∀vs H Q E,sp vs H Q E->vs.length=ps.length:=by intro _ _ _ _ h;first|(cases h;subst_vars;rfl)|((repeat obtain⟨_,h⟩:=h);subst_vars;rfl)):aK P w K mg base bq (k+1) f fd ps sp:=by obtain⟨jX,d2,c0,doc,pm,an,cdv,ec,lx,rfl,lk,lY⟩:=F.ex;refine IJ lk lY S len λA outer s H vs Q E al oP=>?_;obtain⟨t,h,q⟩:=wB cdv A outer s H vs Q E al oP;exact⟨t,h.w_,q⟩
theorem cz.binds{st:Stmt}{f:Addr}{ps:ck}(F:cz K x qual st f fd)(h:∀(c0 doc pm:Value)(an:Option Addr)(cdv ec:Value)(us:dk),us.length=ps.length->Fe (lH x qual (mW st) (ky st) (cy st) .none c0 doc pm an cdv ec) ⟨us,[]⟩=pure (ps.zip us)):Binds K fd ps []:=by obtain⟨jX,d2,c0,doc,pm,an,cdv,ec,lx,rfl,lk,lY⟩:=F.ex;exact .all (h c0 doc pm an cdv ec)
theorem wu{st:Stmt}{f:Addr}{jX:Value}{d2:Option Addr}{lx:k6}{c0:Value}(l:K.lookup f=some ⟨jX,d2,.func (lH x qual (mW st) (ky st) (cy st) .none c0 doc pm an cdv ec),lx⟩)(c:Bf K cdv qual=true)(k:mF K (.ref f)=true):cz K x qual st f (lH x qual (mW st) (ky st) (cy st) .none c0 doc pm an cdv ec):=⟨⟨jX,d2,c0,doc,pm,an,cdv,ec,lx,rfl,l,c⟩,k⟩
theorem gs{A:dn}{k:Nat}(al:f3 k A):A.units+1<cLine:=qC (Nat.add_le_add_left (by decide:1<=64) _) al.units
theorem en{n:Nat}(h:n<=1000):n<sizeLine:=qC h (by decide)
end
section
variable{X:bx}
theorem aa(i:Nat)(eH:X.N[i]?=some x:=by rfl)(a7:JR X.env.scope x:=by first|exact ct rfl|exact qE (ct rfl)|exact qE (qE rfl))(hd:(x==("__debug__":Str))=false:=by decide)(lY:(x==("__classdict__":Str))=false:=by decide):bl X (.Name x pos) (TK i):=abo eH a7 hd lY
theorem f5{A B:Prop}(h:B):if false=true then A else B:=by rw[bz ei];exact h
theorem f6{A B:Prop}(h:A):if true=true then A else B:=by rw[bO rfl];exact h
theorem aeD{c A B:Prop}[Decidable c](ai:c->A)(aj:¬c->B):if c then A else B:=by
 by_cases h:c
 .rw[bO h];exact ai h
 .rw[bz h];exact aj h
theorem D9{c A B:Prop}[Decidable c](ar:c)(h:B):if(!decide c)=true then A else B:=by rw[b4 ar];exact f5 h
noncomputable def aB(H H':af):Prop:=∀b o,H b=some o->H' b=some o
theorem aB.refl(H:af):aB H H:=λ_ _ h=>h
theorem aB.trans(a:aB H H1)(b:aB H1 ah):aB H ah:=λc o h=>b c o (a c o h)
theorem aB.free{H H':af}(e:aB H H')(h:H' l=Ķ):H l=Ķ:=by
 cases q:H l with
 |none=>rfl
 |some o=>
  rw[e l o q]at h;cases h
theorem aB.seq{K:aQ}(e:aB H H')(h:aJ K H a xs):aJ K H' a xs:=by
 rcases h with(h|⟨o,h⟩)|h
 .exact .inl (.inl (e _ _ h))
 .exact .inl (.inr ⟨o,e _ _ h⟩)
 .exact .inr h
end
end ao
namespace b5
open PySem PySem.Spec PyProof.Rows ao
noncomputable abbrev St:=ao.St
noncomputable abbrev V:=ao.V
noncomputable abbrev qD:Value->aO->Prop:=λ_ _=>False
theorem Ŏ{α:Type}{M:mC}{t:Sem α}{Q:α->aO->Prop}{E:b6}(h:aN M A t Q qD s):aN M A t Q E s:=
 hf h (λ_ _ q=>q) λ_ _ z=>iJ z
theorem Za{R:nz->aO->Prop}{iter:Expr}{env:Env}(I:Nat->aO->Prop)(turn:∀n s,I n s->aN (a_ prog w) A (gT it) (λr s1=>match r with
   |none=>R (.ok .next) s1
   |some v=>aN (a_ prog w) A (MG dZ it v) (λ_ s2=>aN (a_ prog w) A (Bq dZ env v) (λ_ aW=>
     aN (a_ prog w) A (forIn ifs true λc r=>if r=true then do let ok <-Cd c env (eval c env);pure (Iy ok)else pure (Iy r)) (λok cK=>
      if ok=true then aN (a_ prog w) A (eval elt env) (λx dY=>aN (a_ prog w) A (call (.builtin "list.append") [acc,x]) (λ_ jZ=>∃m,m<n/\I m jZ) qD dY) qD cK
      else∃m,m<n/\I m cK) qD aW) qD s2) qD s1) qD s)(n:Nat)(h:I n s):jv (a_ prog w) A (.compLoop (.ListComp elt [⟨dZ,iter,ifs,0⟩] scope pos) 0 it acc env) R s:=by
 refine codeAny_loop rfl I (λn s agf=>?_) n h;show aN _ A ((compTurn (.ListComp elt [⟨dZ,iter,ifs,0⟩] scope pos) 0 it acc env).onRaise (λx=>do Wc x env;theTreesLotGoes x)) _ _ s;refine wpAny_noted (Ŏ ?_);rw[compTurn_list];refine aq (HK (aq (hf (turn n s agf) (λr s1 ai=>?_) λ_ _ z=>z)));cases r with
 |none=>exact ba ai
 |some v=>
  refine aq (hf ai (λ_ s2 aj=>aq (hf aj (λ_ aW bC=>aq (hf bC (λok cK c5=>?_) λ_ _ z=>z)) λ_ _ z=>z)) λ_ _ z=>z);cases ok with
  |false=>exact ba ⟨rfl,c5⟩
  |true=>exact aq (aq (hf c5 (λx dY fq=>aq (hf fq (λ_ jZ wA=>ba (ba ⟨rfl,wA⟩)) λ_ _ z=>z)) λ_ _ z=>z))
noncomputable def h5(cs:JC)(σ:St):St:=cs.map λo=>o.bind λj=>(σ[j]?).bind id
noncomputable def oV(X:bx)(N':ck)(scope:Scope)(cl:List (Str×Addr))(C:Addr)(aW:aO)(aU:af)(b0:c7)(ez:dD):bx:=
 {X with N:=N',ia:=aW,mw:=aU,env:=compEnvC scope cl C X.env,outer:=X.stack,stack:=X.stack,ex:=b0,fn:=λ_=>false,ez:=ez,dT:=λ_ _=>False}
noncomputable def Al(k:Option vL):Prop:=k=some .cell\/k=some .free
inductive o7(X:bx)(scope:Scope)(cl:List (Str×Addr)):List Str->List (Option Nat)->Prop
 |nil:o7 X scope cl [] []
 |own {x N cs}:o7 X scope cl N cs->o7 X scope cl (x::N) (none::cs)
 |mM {x j N cs} (ai:X.N[j]?=some x) (aj:Al (X.env.kindOf x)) (bC:Al ((GY scope X.env).names.lookup x)) (c5:cl.lookup x=X.env.cells.lookup x):
   o7 X scope cl N cs->o7 X scope cl (x::N) (some j::cs)
theorem o7.len{cl:List (Str×Addr)}{N cs}(h:o7 X scope cl N cs):cs.length=N.length:=by
 induction h with
 |nil=>rfl
 |own _ a5=>simp[a5]
 |mM _ _ _ _ _ a5=>simp[a5]
theorem o7.get{X:bx}{cl:List (Str×Addr)}{N cs}(h:o7 X scope cl N cs){σ:St}:∀{i:Nat}{x:Str}{v:V},N[i]?=some x->(h5 cs σ)[i]?=some (some v)->
  ∃j:Nat,X.N[j]?=some x/\σ[j]?=some (some v)/\Al (X.env.kindOf x)/\Al ((GY scope X.env).names.lookup x)/\cl.lookup x=X.env.cells.lookup x:=by
 induction h with
 |nil=>intro i x v ai aj;simp at ai
 |own _ a5=>
  intro i x v ai aj;cases i with
  |zero=>simp[h5]at aj
  |succ i=>exact a5 (i:=i) (by simpa using ai) (by simpa[h5]using aj)
 |@mM y j N cs a1 a2 fN hn _ a5=>
  intro i x v ai aj;cases i with
  |zero=>
   simp at ai;subst ai;refine⟨j,a1,?_,a2,fN,hn⟩;simp[h5]at aj;cases q:σ[j]? with
   |none=>rw[q]at aj;simp at aj
   |some o=>
    rw[q]at aj;simp at aj;rw[aj]
  |succ i=>exact a5 (i:=i) (by simpa using ai) (by simpa[h5]using aj)
noncomputable def EC(cl:List (Str×Addr))(names:List (Str×vL)):Bool:=names.all λy=>(y.2 !=.cell&&y.2 !=.free)||(cl.lookup y.1).isSome
theorem Ì{cl:List (Str×Addr)}{names:List (Str×vL)}(h:EC cl names=true)(k:Al (names.lookup x)):∃c,cl.lookup x=some c:=by
 have key:∀q:vL,names.lookup x=some q->(q=.cell\/q=.free)->∃c,cl.lookup x=some c:=λq e bo=>by
  have m:=rL.mp h (x,q) (Bh e);rcases bo with rfl|rfl
  .exact pq.mp (by simpa using m)
  .exact pq.mp (by simpa using m)
 rcases k with k|k
 .exact key _ k (.inl rfl)
 .exact key _ k (.inr rfl)
noncomputable def AF(X:bx)(ifs:hB)(t:ir):Prop:=
 ∀(pins:dD)(s:aO)(σ:St)(H:af)(Q:Bool->af->Prop),Inv X pins σ H s->t σ H Q->
  aN (a_ X.prog X.w) X.A (forIn ifs true λc r=>if r=true then do let ok <-Cd c X.env (eval c X.env);pure (Iy ok)else pure (Iy r)) (Fb X pins σ Q) X.dT s
noncomputable def sY:ir:=λ_ H Q=>Q true H
theorem lg:AF X [] sY:=λ_ _ _ H _ I h=>wpAny_tests_nil ⟨H,I,h⟩
theorem Hy{t:ir}(h:kX X c t):AF X [c] t:=λpins s σ H Q I q=>wpAny_tests_one (h pins s σ H Q I q)
noncomputable def o5(wi:el)(cs:JC)(g:kr)(tt:ir)(te:TE):TE:=λσ H Q=>wi σ H λJ H1=>∀D,H1 D=none->
 ∃W:Nat->Nat->List V->St->af->Prop,(∃m,W 0 m [] (h5 cs σ) (upd H1 D (.lst [])))/\∀i m ys a' H',W i m ys a' H'->H' D=some (.lst ys)/\ys.length<sizeLine/\
  ((J.stop i H'/\Q (.ref D) H')\/(J.go i H'/\∀x ah,J.oi i H' x ah->g x a' ah λgL aU=>tt gL aU λb dx=>
   if b=true then te gL dx λy b1=>b1 D=some (.lst ys)/\∃c4,c4<m/\W (i+1) c4 (ys++[y]) gL (upd b1 D (.lst (ys++[y])))
   else∃c4,c4<m/\W (i+1) c4 ys gL dx))
section
variable{X:bx}{elt dZ iter:Expr}{ifs:hB}{scope:Scope}{pos:Pos}{N':ck}{cs:JC}{cl:List (Str×Addr)}{wi:el}{g:kr}{tt:ir}{te:TE}
theorem ŏ{H:af}(ok:fj P w H h)(eC:H C=none)(hs:iK C h h'):fj P w H h':=λb ob e=>by
 refine(ok b ob e).md (λc u ar q=>(hs.2 c ?_).trans q) (λ_ q=>q) λ_ _ q=>q;rintro rfl;rcases ar with rfl|ar
 .rw[eC]at e;cases e
 .rw[eC]at ar;cases ar
theorem Rq{use:Option (Value->Sem Unit)}{QQ:b6}{Q:a4}(ar:X.calm=true)(hi:mE X dZ iter wi)(B1:Um scope X.env=pure cl)(ug:∀y∈scope.names,y.2≠.cell)(sg:scope.kind=.function)(B6:∀y∈scope.names,y.2=.local->scope.names.lookup y.1=some .local)(nR:∀x c,cl.lookup x=some c->X.env.cells.lookup x=some c)(bj:EC cl (GY scope X.env).names=true)(y0:o7 X scope cl N' cs)(ae:∀(C:Addr)(aW:aO)(aU:af)(b0:c7)(ez:dD),rR (oV X N' scope cl C aW aU b0 ez) dZ g/\AF (oV X N' scope cl C aW aU b0 ez) ifs tt/\bl (oV X N' scope cl C aW aU b0 ez) elt te)(hs:∀x,KY iter X.env x=pure x:=by intro _;rfl)(I:Inv X pins σ H s)(h:o5 wi cs g tt te σ H Q)(post:∀(D C:Addr)(cK:aO)(H':af)(m:b9),Inv X pins σ H' cK->cK.heap.Ns C m->va X pins H' C->Q (.ref D) H'->compPost (a_ X.prog X.w) X.A X.dT use QQ (.ref D) C (.ok .next) cK):
  aN (a_ X.prog X.w) X.A (comprehension (.ListComp elt [⟨dZ,iter,ifs,0⟩] scope pos) scope X.env anU (newList []) false (eval iter X.env) use) QQ X.dT s:=by
 refine wpAny_comprehension_free (use:=use) rfl hs B1 sg B6 (bA (hi pins s σ H _ I h) λv s1 ai=>bA ai λMl s2 aj=>?_);obtain⟨it,b0,ib,J,ah,rfl,br,T,zY,f2,cH⟩:=aj;refine og (wpAny_newFunctionEnv ug (by intro y cb;simp at cb) (λai LP LZ=>?_) sg);dsimp only at LP LZ⊢;have dg:Inv X pins σ (upd ah s2.heap.objs.size (.lst [])) {s2 with heap:=s2.heap.push {cls:=.type "list",data:=.seq ([]:dk).toArray},toks:=s2.toks}:=br.MI (its:=[]) (ys:=[]) .nil (ej _);have agd:ah s2.heap.objs.size=none:=br.fresh;obtain⟨W,⟨m0,u5⟩,turn⟩:=cH _ agd;generalize U0:s2.heap.push {cls:=.type "list",dict:=none,data:=.seq ([]:dk).toArray}=bC at LP LZ dg⊢;have Vw:bC.objs.size=s2.heap.objs.size+1:=by rw[<-U0,pf]
 generalize bF:s2.heap.objs.size=D at *;have kept:∀b o,bC.get? b=some o->ai.get? b=some o:=λb o e=>LZ.extBut b o (eA (c' e)) (c9 _ e);have old:∀b o,s2.heap.get? b=some o->bC.get? b=some o:=λb o e=>by rw[<-U0];exact c9 _ e
 have Fu:∀b∈b0,b<D:=λb c6=>by obtain⟨o,e,_⟩:=T.obj 0 _ zY b c6;rw[<-bF];exact c' e
 have UL:∀b∈b0,b∉ff X.stack:=λb c6 z=>by
  obtain⟨_,f1,cS,_⟩:=f2 b c6;rcases dX.mp (br.Dn b z)with e|e
  .exact f1 e
  .exact cS e
 generalize oN:oV X N' scope cl bC.objs.size {s2 with heap:=bC,toks:=s2.toks} (upd ah D (.lst [])) b0 (X.ez++pins)=k7;obtain⟨bp,Vj,he⟩:=ae bC.objs.size {s2 with heap:=bC,toks:=s2.toks} (upd ah D (.lst [])) b0 (X.ez++pins);rw[oN]at bp Vj he;have wd:k7.prog=X.prog:=by rw[<-oN];rfl
 have we:k7.w=X.w:=by rw[<-oN];rfl
 have Uu:k7.K=X.K:=by rw[<-oN];rfl
 have Ut:k7.calm=X.calm:=by rw[<-oN];rfl
 have ko:Inv k7 [] (h5 cs σ) (upd ah D (.lst [])) {s2 with heap:=ai,toks:=s2.toks+0}:=by
  rw[<-oN];refine⟨⟨dg.ok.mod,sg,dg.ok.glob,dg.ok.blt,cL _,λx y c aF aG=>dg.ok.inj x y c (nR _ _ aF) (nR _ _ aG),λx ax=>Ì bj ax,λx c z _=>bk (show false=true from z) ei,dg.ok.hd,dg.ok.frames,.inl rfl,
   λb c6=>⟨λe=>?_,λx c e=>(f2 b c6).2.2.2.2.1 x c (nR _ _ e)⟩,dg.bs,e1 dg.ok.qK dg.hY,λb o e c6=>?_,UL,dg.stack,dg.Hl⟩,rfl,dg.bare,hQ.kept kept,⟨_,LP,λi x v aF aG cR=>?_⟩,λx c e=>?_,dg.bj.fresh (cL _),λx c e=>dg.mT x c (nR _ _ e),
   λp ay=>?_,dg.bj.kept kept,?_⟩
  .have l:=Fu b c6;rw[show b=bC.objs.size from e,Vw]at l;exact rQ _ (ę l)
  .have l:=Fu b c6;rcases(f2 b c6).2.2.2.1 with z|z
   .exact br.ok.w' b o e z
   .exact bk (i1 (c' (br.ok.bs b o e).1) z) (rQ _)
  .obtain⟨j,a1,a2,fN,hn,pz⟩:=y0.get aF aG;obtain⟨m,aX,au⟩:=dg.loc;obtain⟨u,dF,l⟩:=au j x v a1 a2 (by rcases fN with z|z;exact .inr (.inl z);exact .inr (.inr z));refine⟨u,dF,.inr ⟨hn,?_⟩⟩;rcases l with⟨k,_⟩|⟨k,c,e,z⟩
   .rcases fN with q|q<;>(rw[k]at q;cases q)
   .obtain⟨o,aI,hd⟩:=z;exact⟨c,pz.trans e,o,kept c o aI,hd⟩
  .obtain⟨v,o,aI,hd⟩:=dg.cell x c (nR _ _ e);exact⟨v,o,kept c o aI,hd⟩
  .have LX:p∈X.ez++pins:=by simpa[oV]using ay
   obtain⟨e,n,ne,gw,d⟩:=dg.pin p LX;refine⟨kept _ _ e,n,eA (c' e),λz=>?_,d⟩;rcases dX.mp (dg.Dn p.1 z)with q|q
   .exact ne q
   .exact gw q
  .show(h5 cs σ).length=N'.length;rw[h5,cj];exact y0.len
 have W5:ib 0 ai:=T.keep 0 _ _ zY λb c6 o e=>kept b o (old b o e);have xt:∀{H':af},(∀b∈b0,H' b=none)->∀b∈b0,va k7 [] H' b:=λ{H'}aX b c6=>by rw[<-oN];refine⟨aX b c6,λe=>?_,UL b c6,.inl c6,λx c e=>(f2 b c6).2.2.2.2.1 x c (nR _ _ e),λp ay=>(f2 b c6).2.2.2.2.2 p (by simpa[oV]using ay)⟩;have l:=Fu b c6;rw[show b=bC.objs.size from e,Vw]at l;exact rQ _ (ę l)
 have afY:∀b∈b0,(upd ah D (.lst [])) b=none:=λb c6=>by rw[aV (eA (Fu b c6))];exact(f2 b c6).1
 have z':k7.A=X.A:=by rw[<-oN];rfl
 have HL:k7.env=compEnvC scope cl bC.objs.size X.env:=by rw[<-oN];rfl
 have HM:k7.dT=qD:=by rw[<-oN];rfl
 have loop:jv (a_ X.prog X.w) X.A (.compLoop (.ListComp elt [⟨dZ,iter,ifs,0⟩] scope pos) 0 (.ref it) (.ref D) (compEnvC scope cl bC.objs.size X.env))
   (compPost (a_ X.prog X.w) X.A X.dT use QQ (.ref D) bC.objs.size) {s2 with heap:=ai,toks:=s2.toks+0}:=by
  refine Za (λn s'=>∃i ys a' H',Inv k7 [] a' H' s'/\ib i s'.heap/\(∀b∈b0,H' b=none)/\W i n ys a' H') ?_ m0 ⟨0,[],_,_,ko,W5,afY,u5⟩;rintro n s' ⟨i,ys,a',H',tm,eJ,UM,d8⟩;obtain⟨g_,ahq,lZ⟩:=turn i n ys a' H' d8;rcases lZ with⟨stop,q⟩|⟨go,step⟩
  .have hd:=T.done k7 wd we Uu (Ut.trans ar) i [] s' a' H' qD tm (xt UM) eJ stop;rw[z']at hd;refine bA hd λr cK al=>?_;obtain⟨rfl,lD⟩:=al;obtain⟨m,aX,_⟩:=id lD.loc;have Fl:k7.env.locals=bC.objs.size:=by rw[HL];rfl
   have FL:H' bC.objs.size=none:=by rw[<-Fl];exact lD.free
   have tM:=lD.base;rw[<-oN]at tM;have ag0:cK.os=s2.os:=by have z:=lD.os;rw[<-oN]at z;exact z
   have Vk:=lD.bj;rw[wd,we]at Vk;have δ:Inv X pins σ H' cK:=dg.Kh (s':=cK) (ch:=b0) ag0 ⟨tM.keep,tM.slot,tM.free,tM.there,tM.fi,tM.iT,tM.ji⟩ Vk lD.bare λb c6=>by obtain⟨_,g1,_,g3,yV,jA⟩:=f2 b c6;exact⟨g3,g1,yV,jA⟩
   exact post D bC.objs.size cK H' m δ (by rw[Fl]at aX;exact aX) (dg.pN (cL _) FL) q
  .have hit:=T.item k7 wd we Uu (Ut.trans ar) i [] s' a' H' qD tm (xt UM) eJ go;rw[z']at hit;refine bA hit λr cK al=>?_;obtain⟨u,rfl,c5⟩:=al;refine bA c5 λ_ dY fq=>?_;obtain⟨x,b1,lD,C9,Pd,xr,KZ⟩:=fq;have IF:=lD.pinned (xt KZ) (T.obj _ _ xr);have av:=bp _ dY a' b1 x u _ IF C9 (step x b1 Pd);rw[z',HL,HM,wd,we]at av;refine bA av λ_ jZ wA=>?_;obtain⟨DW,kn,vC,Nz⟩:=wA;have cO:=Vj _ jZ DW kn _ vC Nz;rw[z',HL,HM,wd,we]at cO;refine bA cO λok ke gg=>?_;obtain⟨jJ,kV,n2⟩:=gg;have back:∀{oj:St}{hj:af}{jh:aO}{HU:aR}{c4:Nat},Inv k7 ([]++Dt b0 dY.heap) oj hj jh->c4<n->W (i+1) c4 HU oj hj->
     ∃m,m<n/\∃i ys a' H',Inv k7 [] a' H' jh/\ib i jh.heap/\(∀b∈b0,H' b=none)/\W i m ys a' H':=λ{oj hj jh HU c4}lE hm OP=>by refine⟨c4,hm,i+1,HU,oj,hj,lE.HE,T.keep _ _ _ xr λb c6 o e=>(lE.pin (b,o) (my _ (my _ (Gv c6 e)))).1,λb c6=>?_,OP⟩;obtain⟨o,e,d⟩:=T.obj _ _ xr b c6;exact(lE.pin (b,o) (my _ (my _ (Gv c6 e)))).2.1
   cases ok with
   |false=>
    rw[bz ei]at n2⊢;obtain⟨c4,hm,OO⟩:=n2;exact back kV hm OO
   |true=>
    rw[bO rfl]at n2⊢;have Vd:=he _ ke DW jJ _ kV n2;rw[z',HL,HM,wd,we]at Vd;refine bA Vd λakg jh yX=>?_;obtain⟨y,hj,lE,NG,agb,c4,hm,OP⟩:=yX;have U7:=qR (X:=k7) _ jh DW hj (.ref D) [y] (.ref D) [akg] (λ_ Aw=>Aw=upd hj D (.lst (ys++[y]))) lE rfl (.cons NG .nil) ⟨D,ys,y,rfl,rfl,agb,ahq,rfl⟩;rw[z',HM,wd,we]at U7;refine bA U7 λ_ kQ fZ=>?_;obtain⟨_,Aw,rJ,_,rfl⟩:=fZ;exact back rJ hm OP
 exact codeAny_compStart_list loop (T.self _ 0 _ _ _ W5 loop)
theorem lq(ar:X.calm=true)(hi:mE X dZ iter wi)(B1:Um scope X.env=pure cl)(ug:∀y∈scope.names,y.2≠.cell)(sg:scope.kind=.function)(B6:∀y∈scope.names,y.2=.local->scope.names.lookup y.1=some .local)(nR:∀x c,cl.lookup x=some c->X.env.cells.lookup x=some c)(bj:EC cl (GY scope X.env).names=true)(y0:o7 X scope cl N' cs)(ae:∀(C:Addr)(aW:aO)(aU:af)(b0:c7)(ez:dD),rR (oV X N' scope cl C aW aU b0 ez) dZ g/\AF (oV X N' scope cl C aW aU b0 ez) ifs tt/\bl (oV X N' scope cl C aW aU b0 ez) elt te)(hs:∀x,KY iter X.env x=pure x:=by intro _;rfl):bl X (.ListComp elt [⟨dZ,iter,ifs,0⟩] scope pos) (o5 wi cs g tt te):=by
 intro pins s σ H Q I h;rw[eval_ListComp];refine Rq ar hi B1 ug sg B6 nR bj y0 ae hs I h λD C cK H' m ko aX KB q=>⟨m,aX,λh' si=>⟨.ref D,H',?_,rfl,q⟩⟩
 obtain⟨f0,f1,f2,cS,f4,d7⟩:=KB;exact ko.turned (t':=cK.toks) (λb o ae e=>(si.2 b ae).trans e) f0 f1 cS f4 d7
theorem GN{i:Nat}{y:Str}{WU:Pos}(eH:X.N.Nodup)(agK:X.N[i]?=some y)(Vn:X.env.scope.names.lookup y=some .local)(ahf:zZ (.ListComp elt [⟨dZ,iter,ifs,0⟩] scope pos) (some (.Name y py)) WU.line X.env=pure true)(ar:X.calm=true)(hi:mE X dZ iter wi)(B1:Um scope X.env=pure cl)(ug:∀y∈scope.names,y.2≠.cell)(sg:scope.kind=.function)(B6:∀y∈scope.names,y.2=.local->scope.names.lookup y.1=some .local)(nR:∀x c,cl.lookup x=some c->X.env.cells.lookup x=some c)(bj:EC cl (GY scope X.env).names=true)(y0:o7 X scope cl N' cs)(ae:∀(C:Addr)(aW:aO)(aU:af)(b0:c7)(ez:dD),rR (oV X N' scope cl C aW aU b0 ez) dZ g/\AF (oV X N' scope cl C aW aU b0 ez) ifs tt/\bl (oV X N' scope cl C aW aU b0 ez) elt te)(hs:∀x,KY iter X.env x=pure x:=by intro _;rfl):fM X (.Assign [.Name y py] (.ListComp elt [⟨dZ,iter,ifs,0⟩] scope pos) WU) (xU (o5 wi cs g tt te) (jD i)):=by
 intro pins s σ H gM I h;rw[exec_Assign_Name_used _ _ _ _ ahf];refine aq (HK (aq ?_));show aN _ X.A (do let _ <-comprehension (.ListComp elt [⟨dZ,iter,ifs,0⟩] scope pos) scope X.env _ (newList []) false (eval iter X.env) (some (Bq (.Name y py) X.env))) _ _ s;refine aq (hf (Rq (use:=some (Bq (.Name y py) X.env)) (QQ:=λ_ s'=>tE X pins gM .next s') ar hi B1 ug sg B6 nR bj y0 ae hs I h ?_) (λ_ s' bo=>ba (ba bo)) λ_ _ e=>e);intro D C cK H' m ko aX KB q;obtain⟨f0,f1,f2,cS,f4,d7⟩:=KB;refine ajP (XX ko eH agK (.inl Vn) (v:=.ref D) rfl (λjZ vC hz=>?_) (.inr Vn));obtain⟨a,eE,av⟩:=hz;have aga:C≠a:=by
  rcases av with rfl|av
  .exact f1
  .exactλe=>f4 _ _ av e.symm
 refine⟨m,aX.sameBut eE aga,λh' si=>⟨_,H',?_,q⟩⟩;exact vC.turned (t':=jZ.toks) (λb o ae e=>(si.2 b ae).trans e) f0 f1 cS f4 d7
noncomputable def rY(J:gm)(H1:af)(xs:aR):Prop:=∀H',aB H1 H'->J.stop xs.length H'/\(∀i,i<xs.length->J.go i H')/\∀i x ah,i<xs.length->J.oi i H' x ah->ah=H'/\xs[i]?=some x
theorem q5{K:aQ}(h:aJ K H1 a xs):rY (kW K a) H1 xs:=λH' az=>
 ⟨⟨xs,az.seq h,cL _⟩,λi hi=>⟨xs,xs[i],az.seq h,by simp[hi]⟩,λi x ah _ y=>⟨y.1,y.2 xs (az.seq h)⟩⟩
end
theorem alr{J:gm}{xs:aR}{g:kr}{aA:e_}{D:Ends}(Pv:Nat->St->af->Prop)(qm:rY J H xs)(a8:Pv 0 σ H)(hm:∀i a' H',Pv i a' H'->aB H H')(hs:∀i x a' H',xs[i]?=some x->Pv i a' H'->g x a' H' λgA ah=>aA {D with cp:=Pv (i+1),ec:=Pv (i+1),ho:=D.cp} gA ah)(hd:∀a' H',Pv xs.length a' H'->D.cp a' H'):
  ∃W:Nat->Nat->St->af->Prop,(∃m,W 0 m σ H)/\∀i m σ H,W i m σ H->
   (J.stop i H/\D.cp σ H)\/(J.go i H/\∃N:St->af->Prop,(∀a' H',N a' H'->∃c4,c4<m/\W (i+1) c4 a' H')/\∀x H',J.oi i H x H'->g x σ H' λgA ah=>aA {D with cp:=N,ec:=N,ho:=D.cp} gA ah):=by
 refine⟨λi m a' H'=>m=xs.length-i/\i<=xs.length/\Pv i a' H',⟨xs.length,by simp,ej _,a8⟩,?_⟩;rintro i m a' H' ⟨rfl,hi,p⟩;obtain⟨jj,m9,oe⟩:=qm H' (hm i a' H' p);by_cases dw:i<xs.length
 .refine .inr ⟨m9 i dw,Pv (i+1),λgA ah gJ=>⟨xs.length-(i+1),by omega,rfl,dw,gJ⟩,λx ah y=>?_⟩;obtain⟨rfl,ex⟩:=oe i x ah dw y;exact hs i x a' _ ex p
 .have e:i=xs.length:=by omega
  subst e;exact .inl ⟨jj,hd a' H' p⟩
theorem SU{J:gm}{xs:aR}{rest:St}{tt:ir}{te:TE}{Q:a4}{H1:af}(g0:h5 cs σ=none::rest)(qm:rY J H1 xs)(au:xs.length<sizeLine)(p:V->Bool)(f:V->V)(test:∀(i:Nat)(x:V)(ah:af)(R:Bool->af->Prop),xs[i]?=some x->aB H1 ah->(∀b1,aB ah b1->R (p x) b1)->tt (some x::rest) ah R)(elt:∀(i:Nat)(x:V)(ah:af)(R:a4),xs[i]?=some x->p x=true->aB H1 ah->(∀b1,aB ah b1->R (f x) b1)->te (some x::rest) ah R)(fin:∀(D:Addr)(H':af),H1 D=none->H' D=some (.lst ((xs.filter p).map f))->aB H1 H'->Q (.ref D) H'):
  ∀D,H1 D=none->∃W:Nat->Nat->List V->St->af->Prop,(∃m,W 0 m [] (h5 cs σ) (upd H1 D (.lst [])))/\∀i m ys a' H',W i m ys a' H'->H' D=some (.lst ys)/\ys.length<sizeLine/\
   ((J.stop i H'/\Q (.ref D) H')\/(J.go i H'/\∀x ah,J.oi i H' x ah->jD 0 x a' ah λgL aU=>tt gL aU λb dx=>
    if b=true then te gL dx λy b1=>b1 D=some (.lst ys)/\∃c4,c4<m/\W (i+1) c4 (ys++[y]) gL (upd b1 D (.lst (ys++[y])))
    else∃c4,c4<m/\W (i+1) c4 ys gL dx)):=by
 intro D bF;refine⟨λi m ys a' H'=>m=xs.length-i/\i<=xs.length/\ys=((xs.take i).filter p).map f/\(∃o,a'=o::rest)/\aB H1 H'/\H' D=some (.lst ys),⟨xs.length,by simp,ej _,by simp,⟨none,g0⟩,λb o e=>?_,aE⟩,?_⟩
 .rw[aV (cI e bF)];exact e
 .rintro i m ys a' H' ⟨rfl,hi,rfl,⟨o,rfl⟩,az,g_⟩;obtain⟨jj,m9,oe⟩:=qm H' az;refine⟨g_,qC ?_ au,?_⟩
  .rw[cj];refine e1 (I0 _ _) ?_;rw[ya];exact Ew _ _
  by_cases dw:i<xs.length
  .refine .inr ⟨m9 i dw,λx ah y=>?_⟩;obtain⟨rfl,ex⟩:=oe i x ah dw y;show tt (some x::rest) ah _;refine test i x ah _ ex az λdx cK=>?_;have aH:xs.take (i+1)=xs.take i++[x]:=by rw[yd,ex];rfl
   cases ay:p x with
   |true=>
    refine f6 ?_;refine elt i x dx _ ex ay (az.trans cK) λb1 dY=>⟨dY _ _ (cK _ _ g_),xs.length-(i+1),by omega,rfl,dw,?_,⟨_,rfl⟩,λb ob e=>?_,aE⟩
    .rw[aH,IX,fk];simp[ay]
    .rw[aV (cI e bF)];exact dY _ _ (cK _ _ (az _ _ e))
   |false=>
    refine f5 ⟨xs.length-(i+1),by omega,rfl,dw,?_,⟨_,rfl⟩,az.trans cK,cK _ _ g_⟩;rw[aH,IX,fk];simp[ay]
  .have e:i=xs.length:=by omega
   subst e;exact .inl ⟨jj,fin D H' bF (by rw[g_,ye]) az⟩
theorem UV{J:gm}{xs:aR}{rest:St}{te:TE}{Q:a4}{H1:af}(g0:h5 cs σ=none::rest)(qm:rY J H1 xs)(au:xs.length<sizeLine)(f:V->V)(elt:∀(i:Nat)(x:V)(ah:af)(R:a4),xs[i]?=some x->aB H1 ah->(∀b1,aB ah b1->R (f x) b1)->te (some x::rest) ah R)(fin:∀(D:Addr)(H':af),H1 D=none->H' D=some (.lst (xs.map f))->aB H1 H'->Q (.ref D) H'):
  ∀D,H1 D=none->∃W:Nat->Nat->List V->St->af->Prop,(∃m,W 0 m [] (h5 cs σ) (upd H1 D (.lst [])))/\∀i m ys a' H',W i m ys a' H'->H' D=some (.lst ys)/\ys.length<sizeLine/\
   ((J.stop i H'/\Q (.ref D) H')\/(J.go i H'/\∀x ah,J.oi i H' x ah->jD 0 x a' ah λgL aU=>sY gL aU λb dx=>
    if b=true then te gL dx λy b1=>b1 D=some (.lst ys)/\∃c4,c4<m/\W (i+1) c4 (ys++[y]) gL (upd b1 D (.lst (ys++[y])))
    else∃c4,c4<m/\W (i+1) c4 ys gL dx)):=
 SU g0 qm au (λ_=>true) f (λi x ah R _ _ h=>h ah (aB.refl _)) (λi x ah R ex _ az h=>elt i x ah R ex az h) λD H' ai aj bC=>fin D H' ai (by rw[aj,RC.mpr λ_ _=>rfl]) bC
noncomputable def signs(x:Str):List V:=x.cps.toList.map λc=>V.str ⟨#[c]⟩
noncomputable def x1(x:Str):gm:=⟨λi _=>i<x.cps.size,λi H v H'=>H'=H/\∃c,x.cps[i]?=some c/\v=.str ⟨#[c]⟩,λi _=>i=x.cps.size⟩
theorem Ii(x:Str):rY (x1 x) H1 (signs x):=λH' _=>by
 have au:(signs x).length=x.cps.size:=by simp[signs]
 refine⟨au,λi hi=>by rw[au]at hi;exact hi,λi v ah hi y=>?_⟩;obtain⟨aF,c,aG,cR⟩:=y;refine⟨aF,?_⟩;subst cR;have hV:x.cps.toList[i]?=some c:=by simpa using aG
 simp[signs,hV]
theorem Í{K:aQ}(it:Addr)(x:Str)(t:Tok){ty:String}(sk:ty="str_ascii_iterator"\/ty="str_iterator"):Turn P w K dZ (x1 x) [it] it (λi h=>h.IsStrIter it ty x t i)where
 mem:=by simp
 obj:=λi h st b ae=>by
  have e:b=it:=by simpa using ae
  subst e;obtain⟨o,e,c,d⟩:=st;exact⟨o,e,λv z=>by rw[d]at z;cases z⟩
 keep:=λi h h' st k=>by obtain⟨o,e,r⟩:=st;exact⟨o,k it (by simp) o e,r⟩
 item:=by
  intro X eV hw eP ar i pins s σ H E I bE st bp;subst eV hw eP;obtain⟨f0,f1,f2,cS,f4,d7⟩:=bE it (by simp);have hi:i<x.cps.size:=bp;have hp:x.cps[i]?=some x.cps[i]:=by simp[hi]
  rcases sk with rfl|rfl
  .refine wpAny_pyNext_ascii_item st hp λh' eJ eE=>?_;have aL:Inv X pins σ H {s with heap:=h',toks:=s.toks+1}:=I.turned (λb o ae e=>(eE.2 b ae).trans e) f0 f1 cS f4 d7;obtain⟨o,e,c,d⟩:=id eJ;exact⟨_,rfl,xy (s:={s with heap:=h',toks:=s.toks+1}) e c d (by decide) ⟨.str ⟨#[x.cps[i]]⟩,H,aL,⟨_,rfl⟩,⟨rfl,_,hp,rfl⟩,eJ,λb ae=>(bE b ae).1⟩⟩
  .refine wpAny_pyNext_wide_item st hp λh' eJ eE=>?_;have aL:Inv X pins σ H {s with heap:=h',toks:=s.toks+1}:=I.turned (λb o ae e=>(eE.2 b ae).trans e) f0 f1 cS f4 d7;obtain⟨o,e,c,d⟩:=id eJ;exact⟨_,rfl,xy (s:={s with heap:=h',toks:=s.toks+1}) e c d (by decide) ⟨.str ⟨#[x.cps[i]]⟩,H,aL,⟨_,rfl⟩,⟨rfl,_,hp,rfl⟩,eJ,λb ae=>(bE b ae).1⟩⟩
 done:=by
  intro X eV hw eP ar i pins s σ H E I bE st bp;subst eV hw eP;obtain⟨f0,f1,f2,cS,f4,d7⟩:=bE it (by simp);have hp:x.cps[i]?=none:=by have e:i=x.cps.size:=bp;simp[e]
  rcases sk with rfl|rfl
  .exact wpAny_pyNext_ascii_end (I.ok.hd ar) st hp λh' dq=>⟨rfl,I.turned (t':=s.toks) (λb o ae e=>dq b o ae e) f0 f1 cS f4 d7⟩
  .exact wpAny_pyNext_wide_end (I.ok.hd ar) st hp λh' dq=>⟨rfl,I.turned (t':=s.toks) (λb o ae e=>dq b o ae e) f0 f1 cS f4 d7⟩
 self:=λ_ _ _ _ _ st h=>by
  rcases sk with rfl|rfl
  .exact wpAny_pyIter_striter_ascii st h
  .exact wpAny_pyIter_striter_wide st h
section
variable{X:bx}{dZ:Expr}
noncomputable def aeE(du:TE):el:=λσ H R=>du σ H λx H1=>∃z,x=.str z/\R (x1 z) H1
theorem Ij(au:bl X l du):mE X dZ l (aeE du):=by
 intro pins s σ H R I h;refine bA (au pins s σ H _ I h) λv s1 hz=>?_;obtain⟨x,H1,aL,cq,bw⟩:=hz;obtain⟨z,e,q⟩:=bw;subst e;obtain⟨t,rfl⟩:=cq;have fin:∀(ty:String)(_:ty="str_ascii_iterator"\/ty="str_iterator"),Jm X pins σ dZ R (.ref s1.heap.objs.size) {s1 with heap:=s1.heap.push {cls:=.type ty,data:=.fields #[.str z t,.int 0 0]}}:=λty sk=>by
  refine⟨s1.heap.objs.size,[s1.heap.objs.size],_,_,H1,rfl,aL.kept (t':=s1.toks) λb o e=>c9 _ e,Í _ z t sk,⟨_,eY _ rfl,rfl,rfl⟩,λb ae=>?_,q⟩;have e:b=s1.heap.objs.size:=by simpa using ae
  subst e;exact aL.pN (cL _) (aL.bj.fresh (cL _))
 cases av:z.cps.all (·<128)with
 |true=>exact wpAny_pyIter_ascii av (fin _ (.inl rfl))
 |false=>exact wpAny_pyIter_wide av (fin _ (.inr rfl))
end
section
variable{X:bx}{e:Expr}{te:TE}{lo hi:Option Expr}{du z3:e2}{pos ey:Pos}
theorem zj:gC X (i5 .LtE) (λx y H Q=>∃i j,x=.str i/\y=.str j/\Q (.aM (!decide (j.cps.toList<i.cps.toList))) H):=by intro pins s σ H x y v u Q I bf bD h;obtain⟨i,j,rfl,rfl,q⟩:=h;obtain⟨t,rfl⟩:=bf;obtain⟨t',rfl⟩:=bD;exact PySem.P.le_str (gd I q rfl)
theorem z0(c a:Nat):(!decide ((⟨#[c]⟩:Str).cps.toList<(⟨#[a]⟩:Str).cps.toList))=decide (a<=c):=by
 have h:((⟨#[c]⟩:Str).cps.toList<(⟨#[a]⟩:Str).cps.toList)↔c<a:=by show([c]:cx) < [a]↔c<a;simp[List.cons_lt_cons_iff]
 by_cases q:c<a
 .rw[b4 (h.mpr q),cM (by omega)];rfl
 .rw[cM λz=>q (h.mp z),b4 (by omega)];rfl
noncomputable def xV(x:Str)(lo hi:Option Int):Str:=⟨((x.cps.toList.drop (gB.hc x.cps.size 0 lo)).take (gB.hc x.cps.size x.cps.size hi-gB.hc x.cps.size 0 lo)).toArray⟩
theorem SV(i:Int)(n d:Nat):max 0 (min (if i<0 then i+(n:Int)else i) (n:Int))=((gB.hc n d (some i):Nat):Int):=by
 show max 0 (min (if i<0 then i+(n:Int)else i) (n:Int))=(((if i<0 then(i+(n:Int)).toNat else min i.toNat n):Nat):Int);by_cases h:i<0
 .simp only[bO h];omega
 .simp only[bz h];omega
theorem acA(lo hi:Option Int)(n:Nat):YN lo hi 1 n=(gN (gB.hc n n hi-gB.hc n 0 lo)).map (gB.hc n 0 lo+·):=by
 rw[<-aiZ];unfold YN;have ai:(1:Int)>0:=by decide
 simp only[ai,if_true];congr 1
 .cases lo with
  |none=>rfl
  |some i=>exact SV i n 0
 .cases hi with
  |none=>rfl
  |some i=>exact SV i n n
theorem XM(x:Str)(lo hi:Option Int):JA x lo hi=xV x lo hi:=by
 unfold JA xV;have ax:x.length=x.cps.size:=rfl;rw[ax,acA,pick_run];by_cases h:((1:Int)==1&&((gN (gB.hc x.cps.size x.cps.size hi-gB.hc x.cps.size 0 lo)).map (gB.hc x.cps.size 0 lo+·)).length==x.cps.size)=true
 .rw[bO h];simp at h;have a:=gB.WI x.cps.size x.cps.size (cL _) hi;have b:=gB.WI x.cps.size 0 (ej _) lo;have dm:x.cps.size=0\/gB.hc x.cps.size 0 lo=0:=by omega
  rcases dm with dm|dm
  .have:x.cps=#[]:=Array.eq_empty_of_size_eq_zero dm;obtain⟨c⟩:=x;simp only at this;subst this;simp
  .have aF:gB.hc x.cps.size x.cps.size hi=x.cps.size:=by omega
   rw[dm,aF];obtain⟨c⟩:=x;obtain⟨l⟩:=c;simp
 .rw[bz h]
inductive adU(x:ao.V)(lo:(Option Int))(hi:(Option Int))(H:af)(Q:a4):Prop where
 |mk (z:_) (aT:x=.str z) (aP:z.length<=sizeLine) (bh:Q (.str (xV z lo hi)) H)
theorem abj:Ju X adU:=by
 intro pins s σ H x v rx ry lo hi bZ Q I bf hs pl pu h;obtain⟨z,rfl,hz,q⟩:=h;obtain⟨t,rfl⟩:=bf;obtain⟨l,iB,wD⟩:∃l:Option (Int×Tok),rx=partValue l/\l.map (·.1)=lo:=by
  cases pl with
  |none=>exact⟨none,rfl,rfl⟩
  |int i t=>exact⟨some (i,t),rfl,rfl⟩
 obtain⟨u,L6,L7⟩:∃u:Option (Int×Tok),ry=partValue u/\u.map (·.1)=hi:=by
  cases pu with
  |none=>exact⟨none,rfl,rfl⟩
  |int i t=>exact⟨some (i,t),rfl,rfl⟩
 subst iB L6;refine⟨"str",_,PySem.F.slot_str_getitem.lookup,Ds s z t,?_⟩;refine wpAny_getItem_str_slice (l:=l) (u:=u) (st:=none) hs rfl (post_val_or_str ?_);have e:∀(y:Str),y=JA z lo hi->y=xV z lo hi:=λy cb=>cb.trans (XM z lo hi);have key:(if(((none:Option (Int×Tok)).map (·.1)).getD 1==1&&(WR z l u none).length==z.length)=true then z else(⟨((WR z l u none).filterMap (z.cps[·]?)).toArray⟩:Str))=xV z lo hi:=by refine e _ ?_;unfold JA WR;rw[wD,L7];rfl
 rw[key];refine⟨?_,λt' k=>⟨.str (xV z lo hi),H,I.tok k,⟨t',rfl⟩,q⟩⟩;rw[<-XM];exact e1 (Txt.slice_le z _ _) hz
theorem w5(ar:X.calm=true):jc X (.builtin "all") (λxs H Q=>∃(p:Addr)(bs:List Bool),xs=[.ref p]/\aJ X.K H p (bs.map V.aM)/\Q (.aM (bs.all id)) H):=by
 intro pins s σ H xs us Q I r h;obtain⟨p,bs,rfl,bo,q⟩:=h;obtain⟨u,rfl,dF⟩:=vals1 r;cases dF;obtain⟨its,cc,pl,hz⟩:=I.list bo;have hlen:bs.length=its.length:=by have:=cc.length;rwa [cj]at this
 obtain⟨o,n,oH,_⟩:=id pl;have hI:p≠s.heap.objs.size:=eA (c' oH);have dh:X.A.in1.handled=none:=I.ok.hd ar;refine call_all_walk (u9 pl.isList ?_);refine⟨s.heap.objs.size,[s.heap.objs.size,p],[s.heap.objs.size],its.toArray.size,_,_,λi=>bs.getD i false,rfl,yB dh _ p hI its.toArray,⟨⟨_,eY _ rfl,rfl,rfl⟩,pl.isList.push _⟩,?_,λh' aH k=>?_⟩
 .intro i v s' tD akG eV et;have BR:its[i]?=some v:=by simpa using eV
  have hi:i<its.length:=(gn.mp BR).1;have ae:(bs.map V.aM)[i]?=some (V.aM (bs.getD i false)):=by rw[d0,dW (by omega:i<bs.length)];simp[eb,hlen▸hi]
  obtain⟨u',bB,cT⟩:=cc.get ae;rw[BR]at bB;cases bB;cases cT;exact nc et
 .have e:(gN its.toArray.size).all (λi=>bs.getD i false)=bs.all id:=by
   rw[gp,<-hlen,DZ];simp only[rL,rN];constructor
   .intro a b ae;obtain⟨i,hi,rfl⟩:=I4.mp ae;have:=a i hi;simpa[eb,hi]using this
   .intro a i hi;have:=a bs[i] (qy hi);simpa[eb,hi]using this
  rw[e];exact⟨.aM (bs.all id),H,I.kept λb ob z=>k b ob (by simpa using eA (c' z)) (c9 _ z),rfl,q⟩
inductive adV(K:aQ)(xs:aR)(H:af)(Q:a4):Prop where
 |mk (x c:V) (Kl:String) (t:Value) (b:Bool) (aT:xs=[x,c]) (aP:c=.ty Kl/\m6 K H x t/\jr K t (.type Kl)=some b) (bh:Q (.aM b) H)
theorem nJ:jc X (.builtin "isinstance") (adV X.K):=by intro pins s σ H xs us Q I r h;obtain⟨x,c,Kl,t,b,rfl,⟨rfl,ty,e⟩,q⟩:=h;obtain⟨u,d8,rfl,dF,dS⟩:=vals2 r;cases dS;exact ZS I dF ty e λaH=>⟨.aM b,H,I.tok aH,rfl,q⟩
mutual
inductive mu(K:aQ)(H:af):V->PyData->Prop
 |bJ:mu K H .bJ .none
 |aM (b:Bool):mu K H (.aM b) (.bool b)
 |int (i:Int):mu K H (.int i) (.int i)
 |str (x:Str):mu K H (.str x) (.str x)
 |lst {a:Addr} {xs:aR} {ds:fa}:aJ K H a xs->vr K H xs ds->mu K H (.ref a) (.list ds)
 |tup {a:Addr} {xs:aR} {ds:fa}:cG K H a xs->vr K H xs ds->mu K H (.ref a) (.tuple ds)
inductive vr(K:aQ)(H:af):List V->List PyData->Prop
 |nil:vr K H [] []
 |cons {v:V} {d:PyData} {vs:aR} {ds:fa}:mu K H v d->vr K H vs ds->vr K H (v::vs) (d::ds)
end
end
section
variable{X:bx}{pins:dD}{σ:St}{H:af}{s:aO}
mutual
theorem w6(I:Inv X pins σ H s):∀{v:V}{d:PyData}{u:Value},mu X.K H v d->RelV v u->∃as,Reads s.heap u d as
 |_,_,_,.bJ,r=>by cases r;exact⟨_,.none⟩
 |_,_,_,.aM b,r=>by cases r;exact⟨_,.bool b⟩
 |_,_,_,.int i,r=>by obtain⟨t,rfl⟩:=r;exact⟨_,.int i t⟩
 |_,_,_,.str x,r=>by obtain⟨t,rfl⟩:=r;exact⟨_,.str x t⟩
 |_,_,_,.lst h ds,r=>by cases r;obtain⟨its,cc,⟨o,n,e,c,_,d⟩,_⟩:=I.list h;obtain⟨as,q⟩:=Od I ds cc;exact⟨_,.list e c d (by simpa using q)⟩
 |_,_,_,.tup h ds,r=>by cases r;obtain⟨its,cc,⟨o,e,c,n,d⟩,_⟩:=I.tuple h;obtain⟨as,q⟩:=Od I ds cc;exact⟨_,.tuple e c d (by simpa using q)⟩
theorem Od(I:Inv X pins σ H s):∀{vs:aR}{ds:fa}{us:dk},vr X.K H vs ds->cX vs us->∃as,ReadsAll s.heap us ds as
 |_,_,_,.nil,.nil=>⟨_,.nil⟩
 |_,_,_,.cons a b,.cons r t=>by obtain⟨as,q⟩:=w6 I a r;obtain⟨bs,kP⟩:=Od I b t;exact⟨_,.cons q kP⟩
end
end
theorem aB.tup{K:aQ}(e:aB H H')(h:cG K H a xs):cG K H' a xs:=by
 rcases h with(h|⟨o,h⟩)|h
 .exact .inl (.inl (e _ _ h))
 .exact .inl (.inr ⟨o,e _ _ h⟩)
 .exact .inr h
section
variable{X:bx}
inductive AG(K:aQ)(neg:Bool)(x:ao.V)(y:ao.V)(H:af)(Q:a4):Prop where
 |mk (d:_) (e:_) (aT:mu K H x d) (aP:mu K H y e) (bh:rW d=true) (cf:rW e=true) (cP:Q (.aM (if neg then !i2 d e else i2 d e)) H)
theorem Ru(bL:X.A.units+64<cLine):gC X (i5 .Eq) (AG X.K false):=by intro pins s σ H x y v u Q I bf bD h;obtain⟨d,e,hd,he,dO,h_,q⟩:=h;obtain⟨as,n3⟩:=w6 I hd bf;obtain⟨bs,xo⟩:=w6 I he bD;exact eq_dataH n3 xo dO h_ bL ⟨.aM _,H,I,rfl,q⟩
theorem Ik(bL:X.A.units+64<cLine):gC X (i5 .NotEq) (AG X.K true):=by intro pins s σ H x y v u Q I bf bD h;obtain⟨d,e,hd,he,dO,h_,q⟩:=h;obtain⟨as,n3⟩:=w6 I hd bf;obtain⟨bs,xo⟩:=w6 I he bD;exact ne_dataH n3 xo dO h_ bL ⟨.aM _,H,I,rfl,q⟩
mutual
theorem GO:∀d:PyData,d.canLay0=true->i2 d d=true
 |.none,_=>rfl
 |.bool b,_=>by simp[i2]
 |.int i,_=>by simp[i2]
 |.str x,_=>by simp[i2]
 |.list xs,h=>by simp only[i2];exact Nr xs h
 |.tuple xs,h=>by simp only[i2];exact Nr xs h
 |.dict _,h=>by cases h
theorem Nr:∀ds:List PyData,rS ds=true->PyData.eqvAll ds ds=true
 |[],_=>rfl
 |d::r,h=>by simp only[rS,ie]at h;simp only[PyData.eqvAll,GO d h.1,Nr r h.2,H7]
end
noncomputable def qj(val:Nat->Str):Nat->Str->Bool
 |0=>λ_=>false
 |i+1=>λk=>qj val i k||decide (k=val i)
noncomputable def jW(val:Nat->Str):Nat->Nat
 |0=>0
 |i+1=>if qj val i (val i)then jW val i else jW val i+1
theorem Pf(val:Nat->Str):∀i,jW val i<=i
 |0=>cL _
 |i+1=>by have:=Pf val i;unfold jW;split<;>omega
theorem OM(val:Nat->Str)(k:Str):∀i,qj val i k=true↔∃j,j<i/\val j=k
 |0=>by simp[qj]
 |i+1=>by
  simp only[qj,Bool.or_eq_true,OM val k i,decide_eq_true_eq];constructor
  .rintro(⟨j,bu,e⟩|e)
   .exact⟨j,by omega,e⟩
   .exact⟨i,by omega,e.symm⟩
  .rintro⟨j,bu,e⟩;by_cases h:j=i
   .subst h;exact .inr e.symm
   .exact .inl ⟨j,by omega,e⟩
theorem ON(val:Nat->Str):∀n,(∀i j,i<j->j<n->val i≠val j)->jW val n=n
 |0,_=>rfl
 |n+1,h=>by
  have a5:=ON val n λi j a b=>h i j a (by omega);have hm:¬qj val n (val n)=true:=λz=>by obtain⟨j,bu,e⟩:=(OM val (val n) n).mp z;exact h j n bu (by omega) e
  unfold jW;rw[bz hm,a5]
theorem XN(val:Nat->Str):∀n i j,i<j->j<n->val i=val j->jW val n<n
 |0,_,_,_,h,_=>bk h (Ex _)
 |n+1,i,j,qV,bu,e=>by
  have au:=Pf val n;by_cases agM:j=n
  .subst agM;have hm:qj val j (val j)=true:=(OM val (val j) j).mpr ⟨i,qV,e⟩;unfold jW;rw[bO hm];omega
  .have a5:=XN val n i j qV (by omega) e;unfold jW;split<;>omega
theorem VH(x:Str)(t:Tok):JP x (.str x t)=true:=by simp[JP]
theorem ZW{A:dn}{R:nz->aO->Prop}{b0 wr:c7}{n:Nat}{Pv:Nat->Value->Prop}{S1:Nat->Heap->Prop}(W:tI prog w A.in1 I b0 wr n Pv S1)(S:Addr)(U2:S∉b0)(val:Nat->Str)(L8:∀i v,Pv i v->∃t,v=.str (val i) t)(ae:n+1<scanBound):∀(k i:Nat)(s:aO),n-i=k->i<=n->S1 i s.heap->s.heap.SetOf (strKind prog w) S (qj val i) (jW val i)->
   (∀h' aH,(∀b o,b≠S->b∉wr->s.heap.get? b=some o->h'.get? b=some o)->h'.SetOf (strKind prog w) S (qj val n) (jW val n)->R (.ok (.ret .none)) {s with heap:=h',toks:=aH})->
   jv (a_ prog w) A (.builtin "set.update.loop" ⟨[.ref S,.ref I],[]⟩) R s:=by
 have U3:S∉wr:=λz=>U2 (W.sub _ z);have stays:∀{h h':Heap}{E5:Str->Bool}{m:Nat},(∀o,h.get? S=some o->h'.get? S=some o)->h.SetOf (strKind prog w) S E5 m->h'.SetOf (strKind prog w) S E5 m:=λbG⟨o,es,ep,t,aI,r⟩=>⟨o,es,ep,t,bG o aI,r⟩
 intro k
 induction k with
 |zero=>
  intro i s aD hi st ee bQ;obtain rfl:i=n:=by omega
  refine k_ Ő ?_;rw[ml Sv _];show aN _ A.in1 (gT (.ref I) >>=_) _ _ s;refine aq (W.done s _ _ st λh' aH bG=>?_);show aN _ A.in1 (ret eT) _ _ _;exact ba (bQ h' aH (λb o _ ae e=>bG b o ae e) (stays (λo e=>bG S o U3 e) ee))
 |succ k a5=>
  intro i s aD hi st ee bQ;have dw:i<n:=by omega
  refine k_ Ő ?_;rw[ml Sv _];show aN _ A.in1 (gT (.ref I) >>=_) _ _ s;refine aq (W.item i s _ _ dw st λv ai aH eV ai2 bG=>?_);obtain⟨t,rfl⟩:=L8 i v eV;have agm:=stays (λo e=>bG S o U3 e) ee;show aN _ A.in1 (oO [tG (val i) t] (setAdd S (.str (val i) t)) >>=_) _ _ _;refine aq (jH ?_);unfold setAdd;refine jH (aq ((strKind prog w).pyHash (k:=val i) (VH (val i) t) ?_));have ag9:jW val i+1<scanBound:=by have:=Pf val i;omega
  refine wpAny_setAddHashed_of (knd:=strKind prog w) (VH (val i) t) rfl agm ag9 λaj eE BV=>?_;refine ba ⟨kO Sv _,a5 (i+1) _ (by omega) dw (W.frame _ _ _ ai2 λb c6 o e=>(eE.2 b λz=>U2 (z▸c6)).trans e) BV λbC ajj ahC BW=>?_⟩;exact bQ bC ajj (λb o uf pR e=>ahC b o uf pR ((eE.2 b uf).trans (bG b o pR e))) BW
set_option maxHeartbeats 8000000 in
theorem aka{A:dn}{E:b6}{s:aO}{items:ks}{val:Nat->Str}{Q:b6}(dh:A.handled=none)(au:s.heap.IsList l items)(L8:∀(i:Nat)(v:Value),items[i]?=some v->∃t,v=.str (val i) t)(ae:items.size+1<scanBound)(h:∀(h':Heap)(aH:Nat),h'.SetOf (strKind prog w) s.heap.objs.size (qj val items.size) (jW val items.size)->(∀b o,s.heap.get? b=some o->h'.get? b=some o)->Q (.ref s.heap.objs.size) {s with heap:=h',toks:=aH}):
  aN (a_ prog w) A (call (.type "set") [.ref l]) Q E s:=by
 obtain⟨c,du,an9⟩:=F.called_set.mro;have gh:=F.called_set.made;have gv:=F.called_set.sub;have Gd:=F.called_set.notType;have Ge:=F.called_set.canCreate;have Gf:=F.typeCall_set_1 (.ref l);refine rB (Un ?_);show aN _ _ (callAny (.type "set") _) _ _ _;refine ba ⟨Ig _ (by decide+kernel),k_ F.entry_type_call ?_⟩;rw[Around.under_plain (weight_type_call_type "set" [.ref l] []) rfl]
 repeat (any_goals (first|assumption|wp_step))
 generalize BU:s.heap.objs.size=S at *;refine pK (code_set_new_1 (.ref l) (E:=E) (Q₁:=λob s1=>∃led:Bool,ob=.ref S/\s1={s with heap:=s.heap.push {cls:=.type "set",dict:=none,data:=.set #[] 0 (.fresh 0 0 led)}}) λled=>⟨led,by rw[BU],rfl⟩) λr s1 al=>?_;cases r with
 |error e=>exact al
 |ok fz=>
  cases fz with
  |ret ob=>
   obtain⟨led,rfl,rfl⟩:=al;have wC:(s.heap.push {cls:=.type "set",dict:=none,data:=.set #[] 0 (.fresh 0 0 led)}).get? S=some {cls:=.type "set",dict:=none,data:=.set #[] 0 (.fresh 0 0 led)}:=by rw[<-BU];exact eY _ rfl
   have hH:S0 {s with heap:=s.heap.push {cls:=.type "set",dict:=none,data:=.set #[] 0 (.fresh 0 0 led)}} (.ref S) "set":=⟨_,wC,rfl⟩
   have cn:=F.called_set.init.lookup;have cC:=F.called_set.init.bind (.ref S)
   repeat (any_goals (first|assumption|wp_step))
   refine pK (Bu (R:=wants (λr s2=>r=.none/\∃h' aH,s2={s with heap:=h',toks:=aH}/\h'.SetOf (strKind prog w) S (qj val items.size) (jW val items.size)/\(∀b o,s.heap.get? b=some o->h'.get? b=some o)) E)
    F.called_set.init.plain F.entry_set_init (check_set_init_1 hH ?_)) λdV s2 um=>?_
   .obtain⟨⟨jX,d2,aik,lx⟩,iV,B0,nl,ui⟩:=id au;simp only at B0 ui;subst B0 ui;have aob:=c9 (h:=s.heap) {cls:=.type "set",dict:=none,data:=.set #[] 0 (.fresh 0 0 led)} iV;have i0:=F.sub_list_set;have ey:=F.sub_list_frozenset;have gx:(tH "list"==tH "dict")=false:=by decide
    have iB:=au.push (o:={cls:=.type "set",dict:=none,data:=.set #[] 0 (.fresh 0 0 led)});unfold Builtin.«set.__init__» noKeywords akA;generalize agi:C5=mE
    wp_walk
    subst agi;refine u9 iB (aq (wpAny_runValue ?_));have Vm:l<S:=by rw[<-BU];exact c' iV
    have hsz:(s.heap.push {cls:=.type "set",dict:=none,data:=.set #[] 0 (.fresh 0 0 led)}).objs.size=S+1:=by rw[pf,BU]
    refine ZW (yB (A:=A.in1.in1.in1) (by simp[dh]) _ l (by rw[hsz];exact eA (vN Vm)) items) S ?_ val L8 ae (items.size-0) 0 _ (by omega) (ej _) ⟨⟨_,eY _ rfl,rfl,rfl⟩,iB.push _⟩ ?_ ?_
    .rw[hsz];simp only[dX,di,or_false,not_or];exact⟨eA (vO _),tu Vm⟩
    .have LB:=c9 (h:=s.heap.push {cls:=.type "set",dict:=none,data:=.set #[] 0 (.fresh 0 0 led)}) {cls:=.type "list_iterator",data:=.fields #[.ref l,.int 0 0]} wC;exact(akL (knd:=strKind prog w) led).setOf LB (by unfold scanBound;omega)
    .intro h' aH bG BS;show aN _ _ _ _ _ _;refine ba ?_;show aN _ _ (ret eT) _ _ _;refine ba ⟨rfl,h',aH,rfl,BS,λb o e=>?_⟩;have U8:b<S:=by rw[<-BU];exact c' e
     exact bG b o (eA U8) (λz=>eA (vN U8) (by rw[hsz]at z;simpa using z)) (c9 _ (c9 _ e))
   .cases dV with
    |error e=>exact um
    |ok afU=>
     cases afU with
     |ret r=>
      obtain⟨rfl,h',aH,rfl,BS,bG⟩:=um
      repeat (any_goals (first|assumption|wp_step))
      exact h _ _ BS bG
     |_=>exact um.elim
  |_=>exact al.elim
noncomputable def AH(P:cA)(w:bU)(a:Addr)(n:Nat):hN:=.ext λh=>∃S,h.SetOf (strKind P w) a S n
theorem Px(ar:X.calm=true):jc X (.type "set") (λxs H Q=>∃(p:Addr)(ys:ck),xs=[.ref p]/\aJ X.K H p (ys.map V.str)/\ys.length<1000/\∀q,H q=none->Q (.ref q) (upd H q (AH X.prog X.w q (jW (λi=>ys.getD i iN) ys.length)))):=by
 intro pins s σ H xs us Q I r h;obtain⟨p,ys,rfl,bo,au,q⟩:=h;obtain⟨u,rfl,dF⟩:=vals1 r;cases dF;obtain⟨its,cc,pl,hz⟩:=I.list bo;have hlen:ys.length=its.length:=by have:=cc.length;rwa [cj]at this
 have hsz:its.toArray.size=ys.length:=by rw[hlen];rfl
 refine aka (val:=λi=>ys.getD i iN) (I.ok.hd ar) pl.isList (λi v e=>?_) (by rw[hsz];unfold scanBound;omega) λh' aH ee bG=>?_
 .have bB:its[i]?=some v:=by simpa using e
  have hi:i<ys.length:=by rw[hlen];exact(gn.mp bB).1
  have ae:(ys.map V.str)[i]?=some (V.str (ys.getD i iN)):=by rw[d0,dW hi];simp[eb,hi]
  obtain⟨u',aG,cT⟩:=cc.get ae;rw[bB]at aG;cases aG;exact cT
 .rw[hsz]at ee;refine⟨.ref s.heap.objs.size,_,I.laid bG (cL _) ?_,rfl,q _ (I.bj.fresh (cL _))⟩;obtain⟨o,es,ep,t,aI,cT⟩:=id ee;exact⟨⟨_,ee⟩,⟨o,aI⟩,λai aj⟨E5,cD,qP,mS,t',i_,dV⟩ahB=>⟨E5,cD,qP,mS,t',ahB _ i_,dV⟩⟩
theorem Wv:jc X (.builtin "len") (λxs H Q=>∃q n,xs=[.ref q]/\H q=some (AH X.prog X.w q n)/\Q (.int n) H):=by
 intro pins s σ H xs us Q I r h;obtain⟨a,n,rfl,bo,q⟩:=h;obtain⟨u,rfl,dF⟩:=vals1 r;cases dF;obtain⟨⟨S,o,es,ep,t,aI,hex,hd,_,_,ae,bE,aX⟩,_,_⟩:=(show er X.prog X.w H s.heap a (AH X.prog X.w a n)from I.bj a _ bo)
 subst aX;have agE:(es.size:Int)<2 ^ 63:=by unfold scanBound at ae;omega
 exact call_len_set aI hex hd bE agE ⟨.int es.size,H,I.tok _,⟨_,rfl⟩,q⟩
theorem aba{h:Heap}(x:er P w H h a o):∃ob,h.get? a=some ob:=by
 cases o with
 |lst xs=>obtain⟨_,_,_,_,e⟩:=x;exact⟨_,e⟩
 |tup xs=>obtain⟨_,_,_,ob,e,_⟩:=x;exact⟨ob,e⟩
 |cF kvs=>obtain⟨_,_,_,_,ob,_,_,e,_⟩:=x;exact⟨ob,e⟩
 |bV kvs=>obtain⟨_,_,_,_,ob,_,_,e,_⟩:=x;exact⟨ob,e⟩
 |set S n=>obtain⟨ob,_,_,_,e,_⟩:=x;exact⟨ob,e⟩
 |ins C ak fs=>obtain⟨_,_,_,e,_⟩:=x;exact⟨_,e⟩
 |own y=>obtain⟨ob,e⟩:=x;exact⟨ob,e⟩
 |HN fs=>obtain⟨_,⟨ob,_,_,e,_⟩,_⟩:=x;exact⟨ob,e⟩
 |G1 lo hi=>obtain⟨_,_,_,e⟩:=x;exact⟨_,e⟩
 |ed ob u=>obtain⟨e,_⟩:=x;exact⟨_,e⟩
 |qb ps=>exact⟨_,(show h.get? a=some _ from x)⟩
 |met f y=>exact⟨_,(show h.get? a=some _ from x)⟩
 |ext rD=>obtain⟨_,⟨ob,e⟩,_⟩:=x;exact⟨ob,e⟩
theorem Î{H:af}{h:Heap}(ok:fj P w H h)(e:h.get? a=none):H a=none:=by
 cases q:H a with
 |none=>rfl
 |some o=>
  obtain⟨ob,z⟩:=aba (ok a o q);rw[e]at z;cases z
structure nV(P:cA)(w:bU)(fr:List Env)(H:af)(s:aO)(aS:Addr)(cls a0:Value)(H':af)(B:Heap)(s':aO):Prop where
 fz:Q1 B fr aS cls a0 s'.heap
 os:s'.os=s.os
 bare:rE s'.gens
 ok:fj P w H' B
 un:hQ (ff fr) [] H H' s.heap s'.heap
 kD:∀b o,s.heap.get? b=some o->b∉ff fr->∃cD,B.get? b=some cD/\(H b=none->cD=o)
noncomputable def eW(P:cA)(w:bU):mn:=λfr H s E e s'=>∃(aS:Addr)(cls a0:Value)(H':af)(B:Heap),e=.ref aS/\nV P w fr H s aS cls a0 H' B s'/\E cls none H'
end
section
variable{P:cA}{w:bU}{fr:List Env}{H H':af}{s s':aO}{aS:Addr}{cls a0:Value}{B:Heap}
theorem nV.move(T:nV P w fr H s aS cls a0 H' B s'){aj:Heap}(fz:Q1 B fr aS cls a0 aj)(up:s'.heap.UpToSlots aj):nV P w fr H s aS cls a0 H' B {s' with heap:=aj}:=by
 refine⟨fz,T.os,T.bare,T.ok,⟨λb o e n ae ax=>?_,λb o e n ae ax=>?_,T.un.free,λb o e ax=>?_,T.un.fi,T.un.iT,T.un.ji⟩,T.kD⟩
 .obtain⟨cD,z,q⟩:=T.kD b o e ae;rw[q n]at z;exact fz.1 b o z
 .obtain⟨bZ,z⟩:=T.un.slot b o e n ae ax;obtain⟨_,ob,bB,gw⟩:=T.fz.2.2.1.mem ae;rw[z]at bB;cases bB;obtain⟨n8,cZ⟩:=up b _ z gw;exact⟨n8,cZ⟩
 .by_cases ae:b∈ff fr
  .obtain⟨_,ob,bB,gw⟩:=T.fz.2.2.1.mem ae;obtain⟨n8,cZ⟩:=up b _ bB gw;exact⟨_,cZ⟩
  .obtain⟨cD,z,_⟩:=T.kD b o e ae;exact⟨cD,fz.1 b cD z⟩
theorem nV.bj(T:nV P w fr H s aS cls a0 H' B s'):fj P w H' s'.heap:=T.ok.kept λb u e=>T.fz.1 b u e
theorem nV.new(T:nV P w fr H s aS cls a0 H' B s'):H' aS=none:=Î T.ok T.fz.2.1
theorem nV.ah5(T:nV P w fr H s aS cls a0 H' B s')(e:s.heap.get? b=some o):b≠aS:=by
 rintro rfl;by_cases ae:b∈ff fr
 .obtain⟨_,ob,bB,gw⟩:=T.fz.2.2.1.mem ae;obtain⟨rk,vs,he,_,hd,_⟩:=T.fz.first;rw[he]at bB;cases bB;exact gw vs hd
 .obtain⟨cD,z,_⟩:=T.kD b o e ae;rw[T.fz.2.1]at z;cases z
end
section
variable{P:cA}{w:bU}{K:aQ}{mg:b9}{base:Heap}{N:ck}{qual:Str}{scope:Scope}{f:Addr}{cdv:Value}{A:dn}{outer:List Env}{s:aO}{H:af}{E:bP}
noncomputable abbrev fI(P:cA)(w:bU)(K:aQ)(mg:b9)(base:Heap)(N:ck)(qual:Str)(scope:Scope)(f:Addr)(cdv:Value)(A:dn)(outer:List Env)(s:aO)(H:af)(E:bP):bx:=
 je (eW P w) P w K mg base N qual scope f cdv A outer s H E
theorem zK(I:Inv (fI P w K mg base N qual scope f cdv A outer s H E) pins σ H1 s1){b:Addr}(e:s.heap.get? b=some o)(ae:b∉ff outer):
  b∉ff (fI P w K mg base N qual scope f cdv A outer s H E).stack:=λz=>by
 rcases dX.mp (I.Dn b z)with q|q
 .have l:=c' e;have eu:s.heap.objs.size<=b:=by have:=I.ok.above;rw[<-q]at this;exact this
  exact rQ _ (i1 l eu)
 .exact ae q
theorem Yl{s1:aO}{h':Heap}(I:Inv (fI P w K mg base N qual scope f cdv A outer s H E) pins σ H1 s1)(ax:Q2 s1.heap h' aS cls vs)(e9:E cls none H1):(fI P w K mg base N qual scope f cdv A outer s H E).dT (.ref aS) {s1 with heap:=h'}:=by
 have LA:=I.ok.frames;have i9:∀env∈(fI P w K mg base N qual scope f cdv A outer s H E).stack,∀b,env.frame=some b->b∈ff (fI P w K mg base N qual scope f cdv A outer s H E).stack:=λenv he b ae=>I2.mpr ⟨env,he,ae⟩;have B8:∀b o,H1 b=some o->b∉ff (fI P w K mg base N qual scope f cdv A outer s H E).stack:=λb o e z=>by rw[I.Hl b z]at e;cases e
 refine wpAny_leaves_madeW (base:=vR s1.heap (ff (fI P w K mg base N qual scope f cdv A outer s H E).stack)) LA rfl (λb o q=>SJ _ q) (ŧ I.stack i9) ax λaj t eg gj mi DL=>?_;have kD:∀b o,s1.heap.get? b=some o->b∉ff (fI P w K mg base N qual scope f cdv A outer s H E).stack->(vR s1.heap (ff (fI P w K mg base N qual scope f cdv A outer s H E).stack)).get? b=some o:=λb o e n=>SE _ e n;refine⟨aS,cls,.ref t,H1,_,rfl,⟨eg,I.os,I.bare,λb ob e=>(I.bj b ob e).md (λc u ar q=>kD c u q ?_) (λ_ q=>q) λ_ _ q=>q,⟨λb o e n ae fu=>?_,λb o e n ae fu=>?_,I.base.free,λb o e fu=>?_,I.base.fi,I.base.iT,I.base.ji⟩,λb o e ae=>?_⟩,e9⟩
 .rcases ar with rfl|ar
  .exact B8 c _ e
  .exact B8 c _ ar
 .exact eg.1 b o (kD b o (I.base.keep b o e n ae fu) (zK I e ae))
 .obtain⟨bZ,z⟩:=I.base.slot b o e n ae fu;obtain⟨_,ob,bB,gw⟩:=I.j5.mem ae;rw[z]at bB;cases bB;obtain⟨n8,cZ⟩:=DL b _ (ax.keeps _ _ z) gw;exact⟨n8,cZ⟩
 .obtain⟨cD,z⟩:=I.base.there b o e fu;by_cases ae:b∈ff outer
  .obtain⟨_,ob,bB,gw⟩:=I.j5.mem ae;obtain⟨n8,cZ⟩:=DL b _ (ax.keeps _ _ bB) gw;exact⟨_,cZ⟩
  .exact⟨cD,eg.1 b cD (kD b cD z (zK I e ae))⟩
 .obtain⟨cD,z⟩:=I.base.there b o e (by simp[fI,je]);refine⟨cD,kD b cD z (zK I e ae),λn=>?_⟩;have aP:=I.base.keep b o e n ae (by simp[fI,je]);rw[z]at aP;exact fG aP
theorem oR:nU (eW P w) (fI P w K mg base N qual scope f cdv A outer s H E) E:=by
 rintro pins σ cE sc e s' I ⟨aS,cls,a0,H',B,rfl,T,e9⟩;refine ajS I.ok.frames rfl T.fz λaj eg gj=>?_;have oA:hQ (ff (fI P w K mg base N qual scope f cdv A outer s H E).stack) [] cE H' sc.heap s'.heap:=T.un;have xe:∀b o,s.heap.get? b=some o->b∉ff outer->∃cD,B.get? b=some cD/\(H b=none->cD=o):=λb o e ae=>by obtain⟨iZ,z⟩:=I.base.there b o e (by simp[fI,je]);obtain⟨cD,cZ,q⟩:=T.kD b iZ z (zK I e ae);refine⟨cD,cZ,λn=>?_⟩;have aP:=I.base.keep b o e n ae (by simp[fI,je]);rw[z]at aP;cases aP;exact q (I.base.free b _ e n (by simp[fI,je]))
 refine⟨aS,cls,a0,H',B,rfl,⟨eg,T.os.trans I.os,T.bare,T.ok,⟨λb o e n ae fu=>?_,λb o e n ae fu=>?_,λb o e n fu=>?_,λb o e fu=>?_,λb xs q=>T.un.fi b xs (I.base.fi b xs q),λb o u q=>T.un.iT b o u (I.base.iT b o u q),λb ps q=>?_⟩,xe⟩,e9⟩
 .obtain⟨cD,z,q⟩:=xe b o e ae;rw[q n]at z;exact eg.1 b o z
 .obtain⟨bZ,z⟩:=I.base.slot b o e n ae fu;have c6:b∈ff (fI P w K mg base N qual scope f cdv A outer s H E).stack:=by show b∈ff (_::outer);unfold ff;rw[Ek];exact mz _ ae
  obtain⟨NV,aP⟩:=oA.slot b _ z (I.base.free b o e n fu) c6 (by simp);obtain⟨_,ob,bB,gw⟩:=T.fz.2.2.1.mem c6;rw[aP]at bB;cases bB;obtain⟨n8,cZ⟩:=gj b _ aP gw;exact⟨n8,cZ⟩
 .obtain⟨iZ,z⟩:=I.base.there b o e fu;exact oA.free b iZ z (I.base.free b o e n fu) (by simp)
 .by_cases ae:b∈ff outer
  .obtain⟨_,ob,bB,gw⟩:=eg.2.2.1.mem ae;exact⟨ob,bB⟩
  .obtain⟨cD,z,_⟩:=xe b o e ae;exact⟨cD,eg.1 b cD z⟩
 .obtain⟨gh,aF⟩:=I.base.ji b ps q;obtain⟨gv,aG⟩:=T.un.ji b _ aF;exact⟨gh++gv,by rw[aG,PI]⟩
structure Exc(K:aQ)(mg:b9)(x:Str)(C:Addr)(bm:dk)(gI:String):Prop where
 bound:mg x=some (.ref C)
 obj:yp K C bm gI=true
theorem Exc.own(e:Exc K mg x C bm gI)(X:K.In h):OwnCls x C bm gI mg h:=by
 refine⟨e.bound,?_⟩;have q:=e.obj;unfold yp at q;split at q
 .rename_i dd d1 bZ aI;split at q
  .rename_i Ap Ke k0 k1 k2 k3 n k5 hm hs;simp only[ie,pE,P1]at q;obtain⟨⟨⟨⟨⟨rfl,rfl⟩,B2⟩,cO⟩,bj⟩,y6⟩:=q;obtain⟨nm,bs,mro,ns,o2,hd,sn,sub,ab,col,del⟩:=d1;dsimp only at hm B2 bj y6;subst hm B2;obtain⟨WS⟩:=bZ;simp only at hs;subst hs;exact⟨Ke,ns,nm,o2,bs,hd,sn,sub,ab,col,dd,k0,k1,k2,k3,k5,_,X _ _ aI,.of_isNs (PySem.W.isNs_of_in X bj),PySem.W.nsMap_none_of_in X bj y6,PySem.W.tail_of_in X cO⟩
  .cases q
 .cases q
noncomputable def abb(C:Addr)(E:bP)(bW:fo):e_:=λ_ σ H=>bW σ H λvs H1=>vs.length<=sizeLine/\E (.ref C) none H1
theorem zw{e5:Pos}{dm:Expr}{es:hB}{bW:fo}(F:vA B gI sm bm)(O:Exc K mg x C bm gI)(bp:ij (fI P w K mg base N qual scope f cdv A outer s H E) x)(av:fl (fI P w K mg base N qual scope f cdv A outer s H E) (dm::es) bW)(kC:(x==("__debug__":Str))=false:=by decide)(he:dt (dm::es) (fI P w K mg base N qual scope f cdv A outer s H E).env=(false,eval dm (fI P w K mg base N qual scope f cdv A outer s H E).env)::dt es (fI P w K mg base N qual scope f cdv A outer s H E).env:=by rfl)(fg:(gX e5 (dt es (fI P w K mg base N qual scope f cdv A outer s H E).env)).any (·.1)=false:=by rfl):
  fM (fI P w K mg base N qual scope f cdv A outer s H E) (.Raise (some (.Call (.Name x np) (dm::es) [] e5)) none pos) (abb C E bW):=by
 intro pins s1 σ H1 D I h;obtain⟨du,Sf,nm,q,bs,hdct,sn,sub,ab,col,dd,k0,k1,k2,k3,k5,mN,eC,eH,y6,T⟩:=(O.own I.mod.su).obj;have B0:yp K C bm gI=true:=O.obj;refine wpAny_Raise_call_subT (C:=C) (nm:=nm) (q:=q) (N:=Sf) (bs:=bs) (bm:=du) (hdct:=hdct) (sn:=sn) (sub:=sub) (ab:=ab) (col:=col) (dd:=dd) (k0:=k0) (k1:=k1) (k2:=k2) (k3:=k3) (k5:=k5)
  F (mN:=mN) (T.hasType F.hasBase) (I.ok.hd rfl) ?_ y6 (uz I bp O.bound ⟨rfl,?_⟩ kC)
 .rw[he];show(false||(gX e5 (dt es (fI P w K mg base N qual scope f cdv A outer s H E).env)).any (·.1))=false;rw[fg];rfl
 .have mY:=av e5 pins s1 σ H1 _ I h;rw[he]at mY⊢;refine D1 (bA mY λus s2⟨vs,ah,br,dV,z,e9⟩=>⟨rfl,by rw[<-dV.length];exact z,br.ho _ _ eC,eH.keeps br.ho,T.keeps br.ho,λh' aS hm=>Yl br hm e9⟩)
theorem o1{st:Stmt}{ps:ck}{k:Nat}{sp:gD}(F:cz K x qual st f fd)(S:de N ps (cy st))(wB:∀(cdv:Value)(A:dn)(outer:List Env)(s:aO)(H:af)(vs:aR)(Q:a4)(E:bP),f3 k (A.deeper (oG qual (cy st) s.heap.objs.size f cdv))->sp vs H Q E->
   ∃t,gc (fI P w K mg base N qual (cy st) f cdv A outer s H E) (ky st) t/\t {cp:=λ_ H'=>Q .bJ H',h9:=Q} (start N vs) H)(len:∀vs H Q E,sp vs H Q E->vs.length=ps.length:=by intro _ _ _ _ h;first|(cases h;subst_vars;rfl)|((repeat obtain⟨_,h⟩:=h);subst_vars;rfl)):aK P w K mg base (eW P w) (k+1) f fd ps sp:=by obtain⟨jX,d2,c0,doc,pm,an,cdv,ec,lx,rfl,lk,lY⟩:=F.ex;exact IJ lk lY S len λA outer s H vs Q E al oP=>wB cdv A outer s H vs Q E al oP
end
noncomputable def Fc(X:bx)(pins:dD)(σ:St)(E:bP)(e:Value)(s':aO):Prop:=
 ∃(cE:af)(sc:aO)(aS:Addr)(cls a0:Value)(H':af)(B:Heap),e=.ref aS/\Inv X pins σ cE sc/\nV X.prog X.w X.stack cE sc aS cls a0 H' B s'/\E cls none H'
noncomputable abbrev Fa:=bP->TE
noncomputable abbrev yy:=Ends->(St->bP)->St->af->Prop
noncomputable def Ss(X:bx)(e:Expr)(t:Fa):Prop:=
 ∀(pins:dD)(s:aO)(σ:St)(H:af)(Q:a4)(E:bP),Inv X pins σ H s->t E σ H Q->aN (a_ X.prog X.w) X.A (eval e X.env) (ih X pins σ Q) (Fc X pins σ E) s
noncomputable def Su(X:bx)(st:Stmt)(t:yy):Prop:=
 ∀(pins:dD)(s:aO)(σ:St)(H:af)(D:Ends)(E:St->bP),Inv X pins σ H s->t D E σ H->aN (a_ X.prog X.w) X.A (exec st X.env) (tE X pins D) (λe s'=>∃a',Fc X pins a' (E a') e s') s
noncomputable def TH(X:bx)(NY:List Stmt)(t:yy):Prop:=
 ∀(pins:dD)(s:aO)(σ:St)(H:af)(D:Ends)(E:St->bP),Inv X pins σ H s->t D E σ H->aN (a_ X.prog X.w) X.A (execs NY X.env) (tE X pins D) (λe s'=>∃a',Fc X pins a' (E a') e s') s
section
variable{X:bx}{e o:Expr}{es:hB}{pos fb p:Pos}{k:Nat}{f C:Addr}{fd:ni}{ps:ck}{sp:gD}{bW:TE}{t:fo}{m x:Str}
theorem ŵ(F:aK X.prog X.w X.K X.mg X.base (eW X.prog X.w) k f fd ps sp)(al:f3 k X.A)(ae:Binds X.K fd ps [])(I:Inv X pins σ H s)(r:cX vs us)(h:sp vs H Q E):aN (a_ X.prog X.w) X.A (call (.ref f) us) (ih X pins σ Q) (Fc X pins σ E) s:=by
 have au:(us++[]).length=ps.length:=by rw[vH,<-r.length];exact F.len _ _ _ _ h
 have c6:=ae s us I.ef au;rw[vH]at c6;refine rB (pK (F.run X.A X.stack s H ⟨us,[]⟩ us vs Q E al I.Fn c6 r h) λr s' bo=>?_);cases r with
 |error e=>
  obtain⟨aS,cls,a0,H',B,rfl,T,e9⟩:=bo;exact⟨H,s,aS,cls,a0,H',B,rfl,I,T,e9⟩
 |ok fz=>
  cases fz with
  |ret u=>exact I.after bo
  |next=>exact iJ bo
  |brk=>exact iJ bo
  |cont=>exact iJ bo
theorem Wb{α:Type}{X:bx}{pins:dD}{M:mC}{c:Sem α}{Q:α->aO->Prop}{E:b6}(h:aN M A c Q (λ_ _=>False) s):aN M A c Q E s:=
 hf h (λ_ _ q=>q) λ_ _ z=>iJ z
noncomputable def abc(C:Addr)(m:Str)(sp:gD)(bW:TE)(t:fo):Fa:=λE=>II C m sp [] E bW t
theorem Ļ{pl:Sem Bool}(he:bl X.w_ o bW)(c:fw X.K C)(hm:Meth X.K C m f)(F:aK X.prog X.w X.K X.mg X.base (eW X.prog X.w) k f fd ps sp)(al:f3 k X.A)(ae:Binds X.K fd ps [])(av:fl X.w_ (e::es) t)(sj:dt (e::es) X.env=(false,eval e X.env)::dt es X.env:=by rfl)(fg:(gX pos (dt es X.env)).any (·.1)=false:=by rfl)(cO:eval (.Call (.Attribute o m fb) (e::es) [] pos) X.env=(do
   let fT <-eval o X.env
   uU fb.atName
   let(f,first) <-oO [fT] (yW fT m pl)
   yG pos f first (gX pos (dt (e::es) X.env)) (kv pos (kI [] X.env))):=by rfl):
  Ss X (.Call (.Attribute o m fb) (e::es) [] pos) (abc C m sp bW t):=by intro pins s σ H Q E I h;refine EF (pl:=pl) (Wb (X:=X) (pins:=pins) (bA (he pins s σ H _ (I.m' _) h) λu s1 hz=>?_)) cO;obtain⟨x,H1,aL,bf,a,ak,fs,ex,aS,l,q⟩:=hz;subst ex;obtain rfl:u=cg a:=bf;have aL:=aL.qf;refine Gw aL aS c hm l ?_;refine Be (first:=[.ref a]) (h₀:=X.base) I.ok.mod.su hm.b3 (Wb (X:=X) (pins:=pins) (bA (av pos pins s1 σ H1 _ (aL.m' _) q) λus s2⟨vs,ah,br,r,cH⟩=>⟨br.qf.ef,?_⟩)) sj fg;refine ŵ (us:=.ref a::us) (vs:=.ref a::vs) F al ae br.qf (.cons rfl r) ?_;have Wu:sp (V.ref a::(vs++[])) ah Q E:=cH;rw[vH]at Wu;exact Wu
theorem Ï{st:Stmt}{t:yy}(ai:Su X st t):TH X [st] t:=by
 intro pins s σ H D E I h;refine Xx (bA (ai pins s σ H D E I h) λf s1 q=>?_);cases f with
 |next=>exact DK q
 |ret v=>exact q
 |brk=>exact q
 |cont=>exact q
end
noncomputable def vp(aS C:Addr):hN:=.ext λh=>∃o,h.get? aS=some o/\o.cls=.ref C
noncomputable def pY(K:aQ)(C R:Addr):Bool:=match K.lookup C with
 |some ⟨.type "type",_,.cls d1,bZ⟩=>(match d1.mro,bZ.toList with
  |.ref Ap::bm,[_,_,_,_,some (.builtin _),_]=>Ap==C&&!d1.hasDel&&bm.contains (.type "BaseException")&&(cg C::bm).contains (.ref R)
  |_,_=>false)
 |_=>false
theorem Xl{K:aQ}{h:Heap}{C:Addr}(X:K.In h)(q:pY K C R=true):∃nm o2 N bs bm hdct sn sub ab col dd k0 k1 k2 k3 k5 gI,
  h.get? C=some (yR nm o2 C N bs bm hdct sn sub ab col dd k0 k1 k2 k3 k5 gI)/\bm.contains (.type "BaseException")=true/\(cg C::bm).contains (.ref R)=true:=by
 unfold pY at q;split at q
 .rename_i dd d1 bZ aI;split at q
  .rename_i Ap bm k0 k1 k2 k3 n k5 hm hs;simp only[ie,P1]at q;obtain⟨⟨⟨bw,B2⟩,ae⟩,al⟩:=q;have bw:=pE.mp bw;subst bw;obtain⟨nm,bs,mro,ns,o2,hd,sn,sub,ab,col,del⟩:=d1;dsimp only at hm B2;subst hm B2;obtain⟨WS⟩:=bZ;simp only at hs;subst hs;exact⟨nm,o2,ns,bs,bm,hd,sn,sub,ab,col,dd,k0,k1,k2,k3,k5,n,X _ _ aI,ae,al⟩
  .cases q
 .cases q
theorem ļ{M:mC}{E:b6}{K:aQ}{s:aO}{rk:Obj}{Q:Bool->aO->Prop}(X:K.In s.heap)(ar:pY K C R=true)(al:pY K R R=true)(he:s.heap.get? aS=some rk)(Ls:rk.cls=.ref C)(bo:Q true s):aN M A (excMatches (.ref aS) (.ref R)) Q E s:=by
 obtain⟨nm,o2,N,bs,bm,hdct,sn,sub,ab,col,dd,k0,k1,k2,k3,k5,gI,eC,ae,af9⟩:=Xl X ar;obtain⟨ahZ,aiA,N',afj,Ke,an6,ai1,ai3,aeF,afp,oD,aor,aos,aot,aou,aov,aoD,bQ,c6,an5⟩:=Xl X al;have Lq:(cg R::Ke).contains (.type "BaseException")=true:=by rw[ã,c6,YC]
 have f:=tc_notTuple;obtain⟨ay,g,d,t,os⟩:=s;unfold excMatches
 repeat (first|(with_reducible refine ki he ?_;rw[Ls])|with_reducible refine ki bQ ?_|(with_reducible refine OZ bQ ?_;rw[Lq])|(with_reducible refine OZ eC ?_;rw[af9])|wp_step)
 exact bo
noncomputable abbrev zL(X:bx)(aS:Addr):bx:={X with A:=X.A.mark (some (.ref aS)),calm:=false,dT:=λ_ _=>False}
section
variable{X:bx}{pins:dD}{σ:St}{H:af}{s:aO}
theorem Inv.Dp(I:Inv X pins σ H s)(aS:Addr):Inv (zL X aS) pins σ H s:=
 ⟨⟨I.ok.mod,I.ok.kind,I.ok.glob,I.ok.blt,I.ok.above,I.ok.inj,I.ok.has,I.ok.wa,λz=>bk (show false=true from z) ei,I.ok.frames,I.ok.rr,I.ok.Fp,I.ok.bs,I.ok.qK,I.ok.w',I.ok.yS,I.ok.j5,I.ok.r9⟩,I.os,I.bare,I.base,I.loc,I.cell,I.free,I.mT,I.pin,I.bj,I.len⟩
theorem Inv.ajt(hd:X.calm=true->X.A.handled=none)(I:Inv (zL X aS) pins σ H s):Inv X pins σ H s:=
 ⟨⟨I.ok.mod,I.ok.kind,I.ok.glob,I.ok.blt,I.ok.above,I.ok.inj,I.ok.has,I.ok.wa,hd,I.ok.frames,I.ok.rr,I.ok.Fp,I.ok.bs,I.ok.qK,I.ok.w',I.ok.yS,I.ok.j5,I.ok.r9⟩,I.os,I.bare,I.base,I.loc,I.cell,I.free,I.mT,I.pin,I.bj,I.len⟩
theorem Inv.forget{h':Heap}{t':Nat}{i:Nat}{x:Str}(I:Inv X pins σ H s)(eH:X.N.Nodup)(hi:X.N[i]?=some x)(hs:iK X.env.locals s.heap h')(B7:∀m,s.heap.Ns X.env.locals m->∃v,h'.Ns X.env.locals (λy=>if y=x then v else m y)):Inv X pins (σ.set i none) H {s with heap:=h',toks:=t'}:=by
 obtain⟨m,aX,au⟩:=id I.loc;obtain⟨v,jC⟩:=B7 m aX;have pJ:=I.pJ;have M4:∀b o,X.ia.heap.get? b=some o->b≠X.env.locals:=λb o e=>eA (i1 (c' e) I.ok.above);have FO:i<σ.length:=by rw[I.len];exact(gn.mp hi).1
 refine⟨I.ok,I.os,I.bare,⟨λb o e n ae ax=>(hs.2 b (M4 b o e)).trans (I.base.keep b o e n ae ax),λb o e n ae ax=>?_,I.base.free,λb o e ax=>?_,I.base.fi,I.base.iT,I.base.ji⟩,⟨_,jC,λj y u aF aG cR=>?_⟩,λy c e=>?_,I.free,I.mT,λp ay=>?_,ŏ I.bj I.free hs,by simpa using I.len⟩
 .obtain⟨bZ,z⟩:=I.base.slot b o e n ae ax;exact⟨bZ,(hs.2 b (M4 b o e)).trans z⟩
 .obtain⟨cD,z⟩:=I.base.there b o e ax;exact⟨cD,(hs.2 b (M4 b o e)).trans z⟩
 .by_cases bu:j=i
  .subst bu;rw[RH FO]at aG;cases aG
  .rw[RG (d3 bu)]at aG;obtain⟨u',cT,q⟩:=au j y u aF aG cR;refine⟨u',cT,?_⟩;rcases q with⟨k,e⟩|⟨k,c,e,z⟩
   .refine .inl ⟨k,?_⟩;have:y≠x:=λe=>bu (Oo eH aF (e▸hi));simp[this,e]
   .exact .inr ⟨k,c,e,z.sameBut hs (pJ y c e)⟩
 .obtain⟨d8,z⟩:=I.cell y c e;exact⟨d8,z.sameBut hs (pJ y c e)⟩
 .obtain⟨e,n,ne,gw,d⟩:=I.pin p ay;exact⟨(hs.2 p.1 ne).trans e,n,ne,gw,d⟩
end
noncomputable def adW(K:aQ)(aA:yy)(i:Nat)(R:Addr)(cd:e_):e_:=λD σ H=>aA D (λa' cls _ H'=>∃C,cls=.ref C/\pY K C R=true/\∀aS,H' aS=none->
 cd {cp:=λgA ah=>D.cp (gA.set i none) ah,h9:=D.h9,ho:=λgA ah=>D.ho (gA.set i none) ah,ec:=λgA ah=>D.ec (gA.set i none) ah} (a'.set i (some (.ref aS))) (upd H' aS (vp aS C))) σ H
theorem abd{X:bx}{body:List Stmt}{kt:Stmt}{Dp:List Stmt}{aA:yy}{i:Nat}(FZ:X.stack=X.env::X.outer)(agG:X.env.frame=some X.env.locals)(ae:TH X body aA)(eH:X.N.Nodup)(hi:X.N[i]?=some n)(au:X.env.scope.names.lookup n=some .local)(bp:ij X x)(hm:X.mg x=some (.ref R))(bQ:pY X.K R R=true)(ahe:∀aS,gc (zL X aS) (kt::Dp) cd)(kC:(x==("__debug__":Str))=false:=by decide):fM X (.Try body [.ExceptHandler (some (.Name x np)) (some n) (kt::Dp) ag5] [] [] pos) (adW X.K aA i R cd):=by
 intro pins s σ H D I h;refine wpAny_Try_except (hf (ae pins s σ H D _ I h) (λf s1 q=>?_) λe s1 q=>?_)
 .cases f with
  |next=>exact DK q
  |ret v=>exact q
  |brk=>exact q
  |cont=>exact q
 .obtain⟨s7,cE,sc,aS,cls,a0,H',B,rfl,Q7,T,C,rfl,nR,k⟩:=q;have LA:X.A.frames=some (X.env::X.outer):=by rw[<-FZ];exact I.ok.frames
  have UH:=T.fz;rw[FZ]at UH;refine wpAny_looks_onW LA agG UH λc5 agB aju=>?_;refine wpAny_landsW agB λfq KO ajv=>?_;have UI:=KO;rw[<-FZ]at UI;have Bk:=T.move UI (aju.trans ajv);have lD:Inv X pins s7 H' {s1 with heap:=fq}:=Q7.Kh (s':={s1 with heap:=fq}) (ch:=[]) Bk.os Bk.un Bk.bj Bk.bare (λb z=>bk z (by simp));obtain⟨ob,wG,agW⟩:=KO.there;refine wpAny_handleBy_cons (codeAny_handlers_test (uz (X:=zL X aS) (b5.Inv.Dp lD aS) bp hm ?_ kC)) (by intro q;cases q);refine ļ lD.ef nR bQ wG agW ?_;refine codeAny_handlers_suite_as (lands_againW KO λwA UJ ajw=>?_);have UK:=UJ;rw[<-FZ]at UK;have qH:=Bk.move UK ajw;obtain⟨Wl,Vp,agX⟩:=UJ.there;have old:∀b o,sc.heap.get? b=some o->b≠aS:=λb o e=>T.ah5 e;have ib:=T.new;have vC:Inv X pins s7 (upd H' aS (vp aS C)) {s1 with heap:=wA}:=by
   refine Q7.Kh (s':={s1 with heap:=wA}) (ch:=[]) qH.os ⟨qH.un.keep,qH.un.slot,λb o e ew ax=>by rw[aV (old b o e)];exact qH.un.free b o e ew ax,qH.un.there,λb xs e=>?_,λb o u e=>?_,λb ps e=>?_⟩ ?_ qH.bare (λb z=>bk z (by simp))
   .have:=qH.un.fi b xs e;rw[aV (cI this ib)];exact this
   .have:=qH.un.iT b o u e;rw[aV (cI this ib)];exact this
   .obtain⟨m,this⟩:=qH.un.ji b ps e;exact⟨m,by rw[aV (cI this ib)];exact this⟩
   .intro b u e;by_cases c6:b=aS
    .subst c6;rw[aE]at e;cases e;exact⟨⟨Wl,Vp,agX⟩,⟨Wl,Vp⟩,λai aj⟨o,aF,aG⟩bG=>⟨o,bG o aF,aG⟩⟩
    .rw[aV c6]at e;exact(qH.bj b u e).md (λc v _ q=>q) (λc q=>by rw[aV (cI q ib)];exact q) λc xs q=>by rw[aV (cI q ib)];exact q
  refine GF (X:=zL X aS) (b5.Inv.Dp vC aS) eH hi (.inl au) (v:=.ref aS) rfl (λke kV=>?_) (.inr au);have ay:(X.env.scope.kind==.class||(X.env.scope.kind==.module&&X.env.locals !=X.env.globals))=false:=by rw[I.ok.kind];rfl
  have gone:∀{oj:St}{hj:af}{jh:aO}{tD:aO->Prop},Inv (zL X aS) pins oj hj jh->(∀kQ,Inv X pins (oj.set i none) hj kQ->tD kQ)->
    aN (a_ X.prog X.w) X.A (do bindName X.env n .none;unbindBehindTheSuite X.env n ag5) (λ_ kQ=>tD kQ) X.dT jh:=λ{oj hj jh tD}lE bo=>by
   have Q6:Inv X pins oj hj jh:=Inv.ajt I.ok.hd lE;obtain⟨m,aX,_⟩:=id Q6.loc;refine wpAny_nameGoes_keeps au aX ay λfZ v agT aiU=>bo _ (Inv.forget Q6 eH hi aiU λc4 agQ=>?_);have em:c4=m:=by obtain⟨o,es,ep,aF,aG,_,cR⟩:=aX;obtain⟨cD,qP,mS,Uq,Ur,_,afw⟩:=agQ;rw[aF]at Uq;cases Uq;rw[aG]at Ur;cases Ur;funext y;rw[<-cR y,<-afw y]
   subst em;exact⟨v,agT⟩
  refine hf (ahe aS pins ke _ _ _ kV (k aS ib)) (λafV jh GD=>?_) λ_ _ z=>iJ z;cases afV with
  |next=>obtain⟨oj,hj,lE,q⟩:=GD;exact gone lE λkQ rJ=>⟨_,hj,rJ,q⟩
  |brk=>obtain⟨oj,hj,lE,q⟩:=GD;exact gone lE λkQ rJ=>⟨_,hj,rJ,q⟩
  |cont=>obtain⟨oj,hj,lE,q⟩:=GD;exact gone lE λkQ rJ=>⟨_,hj,rJ,q⟩
  |ret u=>obtain⟨ajx,oj,hj,lE,NG,q⟩:=GD;exact gone lE λkQ rJ=>⟨ajx,_,hj,rJ,NG,q⟩
theorem akb:h0 "enumerate"=some (.type "enumerate"):=by decide+kernel
noncomputable def rK(K:aQ)(a:Addr):gm:=
 ⟨λi H=>∃xs x,aJ K H a xs/\xs[i]?=some x,λi H v H'=>∃p x,H p=none/\v=.ref p/\(∀xs,aJ K H a xs->xs[i]?=some x)/\H'=upd H p (.tup [.int i,x]),λi H=>∃xs,aJ K H a xs/\xs.length<=i⟩
theorem ZX{K:aQ}{k:Nat}(a e it:Addr)(Vc:e≠it):
  Turn P w K (.Tuple elts k pos) (rK K a) [e,it] e (λi h=>(∃old,IsEnum h e it ((i:Nat):Int) old)/\h.IsListIter it a i)where
 mem:=by simp
 obj:=λi h st b ae=>by
  obtain⟨⟨old,he⟩,o,aI,c,d⟩:=st;rcases dX.mp ae with rfl|ae
  .exact⟨_,he,λv z=>by
    have cZ:D3 _=xR v:=z;cases cZ⟩
  .have q:b=it:=by simpa using ae
   subst q;exact⟨o,aI,λv z=>by rw[d]at z;cases z⟩
 keep:=λi h h' st bG=>by obtain⟨⟨old,he⟩,hit⟩:=st;exact⟨⟨old,bG e (by simp) _ he⟩,hit.at λo q=>bG it (by simp) o q⟩
 item:=by
  intro X eV hw eP ar i pins s σ H E I bE st bp;subst eV hw eP;obtain⟨⟨old,he⟩,hit⟩:=st;obtain⟨xs,x,bo,ax⟩:=bp;obtain⟨its,cc,p,hz⟩:=I.list bo;obtain⟨u,bL,dF⟩:=cc.get ax;obtain⟨dm,aF,aG,cR,hV,mR⟩:=bE e (by simp);obtain⟨f0,f1,f2,cS,f4,d7⟩:=bE it (by simp);refine wpAny_pyNext_enum_item he hit p.isList (x:=u) (by simpa using bL) Vc λai aI agJ hH hsz aD=>⟨_,rfl,?_⟩
  refine wpAny_letOwnedTupleGo_enum aI λaj Lx h4=>?_;have h4:iK e ai aj:=h4;have aX:H s.heap.objs.size=none:=I.fresh;have kM:∀b o,b∉[e,it]->s.heap.get? b=some o->aj.get? b=some o:=λb o ae q=>by have lj:b≠e:=λz=>ae (by simp[z]);have agr:b≠it:=λz=>ae (by simp[z]);exact(h4.2 b lj).trans (aD b o lj agr q)
  have Ve:e<s.heap.objs.size:=c' he;have BX:aj.get? s.heap.objs.size=some {cls:=.type "tuple",data:=.seq #[.int i s.toks,u]}:=(h4.2 _ (tu Ve)).trans hH;have m5:∀b q,H b=some q->b∉[e,it]:=λb q ae z=>by
   rcases dX.mp z with rfl|z
   .rw[dm]at ae;cases ae
   .have cZ:b=it:=by simpa using z
    subst cZ;rw[f0]at ae;cases ae
  refine⟨.ref s.heap.objs.size,upd H s.heap.objs.size (.tup [.int i,x]),?_,rfl,⟨s.heap.objs.size,x,aX,rfl,λys cb=>by rw[I.MH cb bo];exact ax,rfl⟩,⟨⟨u,?_⟩,agJ.at λo q=>(h4.2 it Vc.symm).trans q⟩,λb ae=>?_⟩
  .show Inv X pins σ (upd H s.heap.objs.size (.tup [.int i,x])) {s with heap:=aj,gens:=s.gens,drawn:=s.drawn,toks:=s.toks+1};refine I.step (g':=s.gens) (d':=s.drawn) (t':=s.toks+1) (h':=aj) (ch:=[e,it]) (λb ae=>?_) (λb o _ _ ar q _=>kM b o ar q) (λb o _ _ ar q _=>⟨o.slots,kM b o ar q⟩) (λb o ar q n=>?_)
    (λb o ar q=>⟨o,kM b o ar q⟩) (λb ys q=>?_) (λb o v q=>?_) (λb ps q=>⟨#[],?_⟩) (λm hm=>?_) (λb v q=>?_) I.bare
   .rcases dX.mp ae with rfl|ae
    .exact⟨cR,aF,hV,mR⟩
    .have cZ:b=it:=by simpa using ae
     subst cZ;exact⟨cS,f1,f4,d7⟩
   .rw[aV (eA (c' q))];exact n
   .rw[aV (cI q aX)];exact q
   .rw[aV (cI q aX)];exact q
   .rw[aV (cI q aX),q];simp
   .obtain⟨o,es,ep,i_,r⟩:=hm;refine⟨o,es,ep,kM _ o (λz=>?_) i_,r⟩;rcases dX.mp z with z|z
    .exact aF z.symm
    .exact f1 (by simpa using z:X.env.locals=it).symm
   .by_cases ae:b=s.heap.objs.size
    .subst ae;rw[aE]at q;cases q;exact⟨(by show 2<=sizeLine;decide),[.int i s.toks,u],.cons ⟨_,rfl⟩ (.cons dF .nil),_,BX,rfl,_,rfl⟩
    .rw[aV ae]at q;refine(I.bj b v q).md (λc y ar z=>kM c y ?_ z) (λc z=>by rw[aV (cI z aX)];exact z) λc ys z=>by rw[aV (cI z aX)];exact z
     rcases ar with rfl|ar
     .exact m5 _ _ q
     .exact m5 _ _ ar
  .have:(((i+1:Nat):Nat):Int)=(i:Int)+1:=by omega
   rw[this];exact Lx
  .rcases dX.mp ae with rfl|ae
   .rw[aV (eA Ve)];exact dm
   .have cZ:b=it:=by simpa using ae
    subst cZ;obtain⟨_,z,_⟩:=hit;rw[aV (eA (c' z))];exact f0
 done:=by intro X eV hw eP ar i pins s σ H E I bE st bp;subst eV hw eP;obtain⟨⟨old,he⟩,hit⟩:=st;obtain⟨xs,bo,ax⟩:=bp;obtain⟨its,cc,p,hz⟩:=I.list bo;obtain⟨f0,f1,f2,cS,f4,d7⟩:=bE it (by simp);have au:=cc.length;exact wpAny_pyNext_enum_end (I.ok.hd ar) he hit p.isList (by simp;omega) λh' dq=>⟨rfl,I.turned (t':=s.toks) (λb o ae e=>dq b o ae e) f0 f1 cS f4 d7⟩
 self:=λ_ _ _ _ _ st h=>by obtain⟨⟨old,he⟩,_⟩:=st;exact ajY he h
section
variable{X:bx}{elts:hB}{k:Nat}{xu:Pos}
inductive acv(K:aQ)(vs:aR)(H:af)(R:gm->af->Prop):Prop where
 |mk (a:Addr) (aT:vs=[.ref a]) (aP:∃xs,aJ K H a xs) (bh:R (rK K a) H)
noncomputable def acw(K:aQ)(bW:fo):el:=λσ H R=>bW σ H λvs H1=>acv K vs H1 R
theorem Pg{bW:fo}{p:Pos}(bp:ij X "enumerate")(hm:X.mg "enumerate"=none)(av:fl X [l] bW)(hs:dt [l] X.env=[(false,eval l X.env)]:=by rfl):mE X (.Tuple elts k xu) (.Call (.Name "enumerate" p) [l] [] pos) (acw X.K bW):=by
 intro pins s σ H R I h;refine Call_ (rb I bp hm akb (A_ (bA (av pos pins s σ H _ I h) λus s1 hz=>?_) hs rfl));obtain⟨vs,H1,aL,cq,bw⟩:=hz;obtain⟨a,e,⟨xs,bo⟩,q⟩:=bw;subst e;cases cq with
 |cons r lB=>
  cases lB;cases r;obtain⟨its,cc,p,hz⟩:=aL.list bo;refine call_enumerate_list p.isList λh' he hit hsz bG=>?_;refine ajY he ?_;have ne:s1.heap.objs.size+1≠s1.heap.objs.size:=Ey _;refine⟨s1.heap.objs.size+1,[s1.heap.objs.size+1,s1.heap.objs.size],_,_,H1,rfl,aL.kept (t':=s1.toks) λb o e=>bG b o e,ZX a _ _ ne,⟨⟨_,he⟩,hit⟩,λb ae=>?_,q⟩;rcases dX.mp ae with rfl|ae
  .exact aL.pN (A2 _) (aL.bj.fresh (A2 _))
  .have z:b=s1.heap.objs.size:=by simpa using ae
   subst z;exact aL.pN (cL _) (aL.bj.fresh (cL _))
end
section
variable{X:bx}{K:aQ}(eP:X.K=K)
include eP
theorem Ð:x2 X (TI K):=by subst eP;exact gr
theorem Dd:x2 X (TJ K):=by subst eP;exact fe
theorem Hz{k:Nat}{t:vW}{n:Nat}(ar:X.calm=true)(h:A9 X es t)(aX:(v7 es X.env).length=n:=by rfl)(sj:(v7 es X.env).findIdx? (·.1)=none:=by rfl):rR X (.Tuple es k pos) (vm K n t):=by subst eP;exact Ih ar h aX sj
end
theorem Qv{K:aQ}{xs:aR}{rest:ao.St}{tt:ir}{te:TE}{Q:a4}{H1:af}(g0:h5 cs σ=none::none::rest)(av:aJ K H1 a xs)(au:xs.length<sizeLine)(p:Nat->V->Bool)(f:Nat->V->V)(test:∀(i:Nat)(x:V)(ah:af)(R:Bool->af->Prop),xs[i]?=some x->aB H1 ah->(∀b1,aB ah b1->R (p i x) b1)->tt (some (.int i)::some x::rest) ah R)(elt:∀(i:Nat)(x:V)(ah:af)(R:a4),xs[i]?=some x->p i x=true->aB H1 ah->(∀b1,aB ah b1->R (f i x) b1)->te (some (.int i)::some x::rest) ah R)(fin:∀(D:Addr)(H':af),H1 D=none->H' D=some (.lst ((xs.zipIdx.filter λz=>p z.2 z.1).map λz=>f z.2 z.1))->aB H1 H'->Q (.ref D) H'):
  ∀D,H1 D=none->∃W:Nat->Nat->List V->ao.St->af->Prop,(∃m,W 0 m [] (h5 cs σ) (upd H1 D (.lst [])))/\∀i m ys a' H',W i m ys a' H'->H' D=some (.lst ys)/\ys.length<sizeLine/\
   (((rK K a).stop i H'/\Q (.ref D) H')\/((rK K a).go i H'/\∀x ah,(rK K a).oi i H' x ah->vm K 2 (p4 (jD 0) (p4 (jD 1) xT)) x a' ah λgL aU=>tt gL aU λb dx=>
    if b=true then te gL dx λy b1=>b1 D=some (.lst ys)/\∃c4,c4<m/\W (i+1) c4 (ys++[y]) gL (upd b1 D (.lst (ys++[y])))
    else∃c4,c4<m/\W (i+1) c4 ys gL dx)):=by
 intro D bF;have o_:xs.zipIdx.length=xs.length:=by simp
 refine⟨λi m ys a' H'=>m=xs.length-i/\i<=xs.length/\ys=((xs.zipIdx.take i).filter λz=>p z.2 z.1).map (λz=>f z.2 z.1)/\(∃o cD,a'=o::cD::rest)/\aB H1 H'/\H' D=some (.lst ys),
  ⟨xs.length,by simp,ej _,by simp,⟨none,none,g0⟩,λb o e=>?_,aE⟩,?_⟩
 .rw[aV (cI e bF)];exact e
 .rintro i m ys a' H' ⟨rfl,hi,rfl,⟨o,cD,rfl⟩,az,g_⟩;have hr:aJ K H' a xs:=az.seq av;refine⟨g_,qC ?_ au,?_⟩
  .rw[cj];refine e1 (I0 _ _) ?_;rw[ya,o_];exact Ew _ _
  by_cases dw:i<xs.length
  .have ex:xs[i]?=some xs[i]:=dW dw;refine .inr ⟨⟨xs,_,hr,ex⟩,λx ah y=>?_⟩;obtain⟨q,mh,bo,rfl,fu,rfl⟩:=y;have Ky:=fu xs hr;have sP:aB H' (upd H' q (.tup [.int i,mh])):=λb u e=>by rw[aV (cI e bo)];exact e
   refine⟨q,_,rfl,cG.of aE,rfl,⟨_,_,rfl,⟨_,_,rfl,rfl,?_⟩⟩⟩;show tt (some (.int i)::some mh::rest) _ _;refine test i mh _ _ Ky (az.trans sP) λdx cK=>?_;have aH:xs.zipIdx.take (i+1)=xs.zipIdx.take i++[(mh,i)]:=by rw[yd,List.getElem?_zipIdx,Ky];simp
   have UY:=cK _ _ (sP _ _ g_);cases ay:p i mh with
   |true=>
    refine f6 ?_;refine elt i mh dx _ Ky ay ((az.trans sP).trans cK) λb1 dY=>⟨dY _ _ UY,xs.length-(i+1),by omega,rfl,dw,?_,⟨_,_,rfl⟩,λb ob e=>?_,aE⟩
    .rw[aH,IX,fk];simp[ay]
    .rw[aV (cI e bF)];exact dY _ _ (cK _ _ (sP _ _ (az _ _ e)))
   |false=>
    refine f5 ⟨xs.length-(i+1),by omega,rfl,dw,?_,⟨_,_,rfl⟩,(az.trans sP).trans cK,UY⟩;rw[aH,IX,fk];simp[ay]
  .have e:i=xs.length:=by omega
   subst e;refine .inl ⟨⟨xs,hr,cL _⟩,fin D H' bF ?_ az⟩;rw[g_,<-o_,ye]
end b5
namespace ao
open PySem PySem.Spec PyProof.Rows
section
variable{κ:Type}[DecidableEq κ]
noncomputable def b_(kvs:List (κ×V))(k:κ):Option V:=(kvs.find? λbN=>decide (bN.1=k)).map (·.2)
noncomputable def fv(kvs:List (κ×V))(k:κ)(v:V):List (κ×V):=
 if(kvs.any λbN=>decide (bN.1=k))=true then kvs.map (λbN=>if bN.1=k then(bN.1,v)else bN)else kvs++[(k,v)]
theorem lb{p:κ×V}{r:List (κ×V)}{k:κ}(e:p.1=k):b_ (p::r) k=some p.2:=by simp[b_,AK,e]
theorem kx{p:κ×V}{r:List (κ×V)}{k:κ}(e:¬p.1=k):b_ (p::r) k=b_ r k:=by simp[b_,AK,e]
theorem oM(k:κ):∀kvs:List (κ×V),(kvs.any λbN=>decide (bN.1=k))=(b_ kvs k).isSome
 |[]=>rfl
 |p::r=>by
  rw[Ej];by_cases e:p.1=k
  .simp only[lb e,b4 e,Bool.true_or,Option.isSome_some]
  .rw[kx e,cM e,Bool.false_or];exact oM k r
theorem Py(k j:κ)(y:V):∀kvs:List (κ×V),b_ (kvs.map λbN=>if bN.1=k then(bN.1,y)else bN) j=(b_ kvs j).map λx=>if j=k then y else x
 |[]=>rfl
 |p::r=>by
  have a5:=Py k j y r;rw[il];by_cases h:p.1=k
  .rw[bO h];by_cases e:p.1=j
   .rw[lb (p:=(p.1,y)) e,lb e,Jk,bO (e.symm.trans h)]
   .rw[kx (p:=(p.1,y)) e,kx e,a5]
  .rw[bz h];by_cases e:p.1=j
   .rw[lb (p:=p) e,lb e,Jk,bz (λz=>h (e.trans z))]
   .rw[kx (p:=p) e,kx e,a5]
theorem XO(k j:κ)(y:V):∀kvs:List (κ×V),b_ kvs k=none->b_ (kvs++[(k,y)]) j=if j=k then some y else b_ kvs j
 |[],_=>by
  by_cases e:k=j
  .rw[bO e.symm];exact lb (p:=(k,y)) e
  .rw[bz (λz=>e z.symm)];exact kx (p:=(k,y)) e
 |p::r,aX=>by
  rw[â];have aD:¬p.1=k:=λz=>by rw[lb z]at aX;cases aX
  rw[kx aD]at aX;have a5:=XO k j y r aX;by_cases e:p.1=j
  .rw[lb e,lb e,bz (λz=>aD (e.trans z))]
  .rw[kx e,kx e,a5]
theorem zx(kvs:List (κ×V))(k j:κ)(y:V):b_ (fv kvs k y) j=if j=k then some y else b_ kvs j:=by
 unfold fv;by_cases a:(kvs.any λbN=>decide (bN.1=k))=true
 .rw[bO a,Py];rw[oM]at a;by_cases e:j=k
  .obtain⟨x,ax⟩:=pq.mp a;rw[bO e,e,ax,Jk,bO rfl]
  .rw[bz e];cases b_ kvs j with
   |none=>rfl
   |some x=>rw[Jk,bz e]
 .rw[bz a];refine XO k j y kvs ?_;rw[oM]at a;cases q:b_ kvs k with
  |none=>rfl
  |some x=>rw[q]at a;exact(a rfl).elim
theorem Nt(kvs:List (κ×V))(k:κ)(v:V):(fv kvs k v).length<=kvs.length+1:=by
 unfold fv;split
 .rw[cj];omega
 .rw[eS,fV,x_];omega
theorem zy{kvs:List (κ×V)}{k:κ}(v:V)(h:b_ kvs k=none):fv kvs k v=kvs++[(k,v)]:=by unfold fv;rw[oM,h];exact bz (by decide)
theorem jE.Cc{o:Option V}{u:yA}(r:jE o u):o.isSome=u.isSome:=by
 cases o with
 |none=>cases u with
  |none=>rfl
  |some _=>exact(show False from r).elim
 |some _=>cases u with
  |none=>exact(show False from r).elim
  |some _=>rfl
theorem jE.getD{o:Option V}{u:yA}(r:jE o u)(eQ:RelV d d'):RelV (o.getD d) (u.getD d'):=by
 cases o with
 |none=>cases u with
  |none=>exact eQ
  |some _=>exact(show False from r).elim
 |some _=>cases u with
  |none=>exact(show False from r).elim
  |some _=>exact r
theorem gV.val{kvs:List (κ×V)}{vs:List (κ×Value)}(r:gV kvs vs)(k:κ):jE (b_ kvs k) (z8 vs k):=by
 unfold gV at r
 induction r with
 |nil=>exact lJ
 |@cons p q ps o3 h t a5=>
  obtain⟨ai,aj⟩:=h;by_cases e:p.1=k
  .have bB:q.1=k:=ai.symm.trans e;have b:z8 (q::o3) k=some q.2:=by simp[z8,AK,bB]
   rw[lb e,b];exact aj
  .have bB:¬q.1=k:=λz=>e (ai.trans z);have b:z8 (q::o3) k=z8 o3 k:=by simp[z8,AK,bB]
   rw[kx e,b];exact a5
theorem gV.any{kvs:List (κ×V)}{vs:List (κ×Value)}(r:gV kvs vs)(k:κ):(kvs.any λbN=>decide (bN.1=k))=vs.any λbN=>decide (bN.1=k):=by
 unfold gV at r
 induction r with
 |nil=>rfl
 |cons h t a5=>rw[Ej,Ej,a5,h.1]
theorem gV.NI{kvs:List (κ×V)}{vs:List (κ×Value)}(r:gV kvs vs)(k:κ)(bD:RelV y u):
  gV (kvs.map λbN=>if bN.1=k then(bN.1,y)else bN) (vs.map λbN=>if bN.1=k then(bN.1,u)else bN):=by
 unfold gV at r⊢
 induction r with
 |nil=>exact .nil
 |@cons p q ps o3 h t a5=>
  rw[il,il];refine .cons ?_ a5;obtain⟨ai,aj⟩:=h;by_cases e:p.1=k
  .rw[bO e,bO (ai.symm.trans e)];exact⟨ai,bD⟩
  .rw[bz e,bz (λz=>e (ai.trans z))];exact⟨ai,aj⟩
theorem gV.put{kvs:List (κ×V)}{vs:List (κ×Value)}(r:gV kvs vs)(k:κ)(bD:RelV y u):gV (fv kvs k y) (stored vs k u):=by
 unfold fv stored;rw[r.any k];by_cases e:(vs.any λbN=>decide (bN.1=k))=true
 .rw[bO e,bO e];exact r.NI k bD
 .rw[bz e,bz e];exact Paired.snoc r ⟨rfl,bD⟩
theorem gV.length{kvs:List (κ×V)}{vs:List (κ×Value)}(r:gV kvs vs):kvs.length=vs.length:=tv r
theorem u0{k:bb}(r:RelV (c0 k) u):(h1 P w).is k u=true:=by
 cases k with
 |inl i=>obtain⟨t,e⟩:=(show∃t,u=oB i t from r);subst e;exact akq P w i t
 |inr x=>obtain⟨t,e⟩:=(show∃t,u=tG x t from r);subst e;exact akr P w x t
theorem XP:∀{eD:List bb}{us:dk},cX (eD.map c0) us->ItemsAre (h1 P w) eD us
 |[],_,r=>by rw[I1]at r;cases r;exact .nil
 |k::eD,_,r=>by
  rw[il]at r;cases r with
  |cons h t=>exact .cons (u0 h) (XP t)
noncomputable abbrev KT(H:af):List (List bb×V)->List (List bb×Addr×Value)->Prop:=fH λp q=>p.1=q.1/\H q.2.1=some (.tup (p.1.map c0))/\RelV p.2 q.2.2
theorem KT.val{kvs:List (List bb×V)}{xs:List (List bb×Addr×Value)}(r:KT H kvs xs)(k:List bb):jE (b_ kvs k) ((tK xs k).map (·.2)):=by
 induction r with
 |nil=>exact lJ
 |@cons p q ps o3 h t a5=>
  obtain⟨ai,_,aj⟩:=h;by_cases e:p.1=k
  .have bB:q.1=k:=ai.symm.trans e;have b:tK (q::o3) k=some q.2:=by simp[tK,AK,bB]
   rw[lb e,b];exact aj
  .have bB:¬q.1=k:=λz=>e (ai.trans z);have b:tK (q::o3) k=tK o3 k:=by simp[tK,AK,bB]
   rw[kx e,b];exact a5
theorem KT.NI{kvs:List (List bb×V)}{xs:List (List bb×Addr×Value)}(r:KT H kvs xs)(k:List bb)(bD:RelV y u):
  KT H (kvs.map λbN=>if bN.1=k then(bN.1,y)else bN) (xs.map (putAt k u)):=by
 induction r with
 |nil=>exact .nil
 |@cons p q ps o3 h t a5=>
  rw[il,il];refine .cons ?_ a5;obtain⟨ai,aj,bC⟩:=h;unfold putAt;by_cases e:p.1=k
  .rw[bO e,bO (ai.symm.trans e)];exact⟨ai,aj,bD⟩
  .rw[bz e,bz (λz=>e (ai.trans z))];exact⟨ai,aj,bC⟩
theorem KT.put{H:af}{kvs:List (List bb×V)}{xs:List (List bb×Addr×Value)}(r:KT H kvs xs)(k:List bb)(ae:H b=some (.tup (k.map c0)))(bD:RelV y u):
  KT H (fv kvs k y) (storedH xs k b u):=by
 have e:(kvs.any λbN=>decide (bN.1=k))=(tK xs k).isSome:=by rw[oM,(r.val k).Cc,Sp]
 unfold fv storedH;rw[e];by_cases q:(tK xs k).isSome=true
 .rw[bO q,bO q];exact r.NI k bD
 .rw[bz q,bz q];exact Paired.snoc r ⟨rfl,ae,bD⟩
theorem KT.keeps{H H':af}{kvs:List (List bb×V)}{xs:List (List bb×Addr×Value)}(r:KT H kvs xs)(cO:∀b ys,H b=some (.tup ys)->H' b=some (.tup ys)):KT H' kvs xs:=
 fH.oW r λ_ _ z=>⟨z.1,cO _ _ z.2.1,z.2.2⟩
end
section
variable{P:cA}{w:bU}{H:af}{h:Heap}{a:Addr}
theorem SW(ok:fj P w H h)(e:fm H a u):er P w H h a u:=e.ok ok
theorem u1{kvs:List (bb×V)}(ok:fj P w H h)(e:fm H a (.cF kvs)):kvs.length<=sizeLine/\(a==kg)=false/\∃vs,gV kvs vs/\h.DictOf (h1 P w) a vs:=
 show er P w H h a (.cF kvs)from SW ok e
theorem SX{kvs:List (bb×V)}(ok:fj P w H h)(e:H a=some (.cF kvs)):kvs.length<=sizeLine/\(a==kg)=false/\∃vs,gV kvs vs/\h.DictOf (h1 P w) a vs:=u1 ok (.inl e)
theorem uK{eD:List bb}(ok:fj P w H h)(e:H a=some (.tup (eD.map c0))):(sT (h1 P w)).is h eD a:=by
 obtain⟨_,its,r,o,ai,aj,n,bC⟩:=(show er P w H h a (.tup (eD.map c0))from ok a _ e)
 exact⟨o,its.toArray,n,ai,aj,bC,by simpa using XP r⟩
theorem ul{kvs:List (List bb×V)}(ok:fj P w H h)(e:fm H a (.bV kvs)):kvs.length<=sizeLine/\(a==kg)=false/\
  ∃xs,KT H kvs xs/\h.DictOfH (sT (h1 P w)) a xs:=by
 obtain⟨z,y,xs,r,o,es,ep,ai,aj,bC,c5,fq⟩:=(show er P w H h a (.bV kvs)from SW ok e)
 refine⟨z,y,xs,r,o,es,ep,ai,aj,bC,c5,λx ax=>?_,fq⟩;have all:∀{l:List (List bb×V)}{m:List (List bb×Addr×Value)},KT H l m->∀x∈m,(sT (h1 P w)).is h x.1 x.2.1:=by
  intro l m q
  induction q with
  |nil=>intro x ax;exact nomatch ax
  |@cons p q ps o3 bo t a5=>
   intro x ax;rcases dX.mp ax with e|ax
   .subst e;exact uK ok (by rw[<-bo.1];exact bo.2.1)
   .exact a5 x ax
 exact all r x ax
theorem IP{kvs:List (List bb×V)}(ok:fj P w H h)(e:H a=some (.bV kvs)):kvs.length<=sizeLine/\(a==kg)=false/\
  ∃xs,KT H kvs xs/\h.DictOfH (sT (h1 P w)) a xs:=ul ok (.inl e)
end
noncomputable def gu(H:af)(a:Addr)(y:V)(r:Option V):Prop:=
 (∃kvs k,fm H a (.cF kvs)/\y=c0 k/\r=b_ kvs k)\/∃kvs k b,fm H a (.bV kvs)/\y=.ref b/\H b=some (.tup (k.map c0))/\r=b_ kvs k
noncomputable def n_(H:af)(a:Addr)(y v:V)(H':af):Prop:=
 (∃kvs k,H a=some (.cF kvs)/\y=c0 k/\kvs.length<sizeLine/\H'=upd H a (.cF (fv kvs k v)))\/
 ∃kvs k b,H a=some (.bV kvs)/\y=.ref b/\H b=some (.tup (k.map c0))/\kvs.length<sizeLine/\H'=upd H a (.bV (fv kvs k v))
theorem gu.k{H:af}{kvs:List (bb×V)}{k:bb}(e:H a=some (.cF kvs)):gu H a (c0 k) (b_ kvs k):=.inl ⟨kvs,k,.inl e,rfl,rfl⟩
theorem gu.t{H:af}{kvs:List (List bb×V)}{k:List bb}(e:H a=some (.bV kvs))(dq:H b=some (.tup (k.map c0))):gu H a (.ref b) (b_ kvs k):=.inr ⟨kvs,k,b,.inl e,rfl,dq,rfl⟩
theorem n_.k{H:af}{kvs:List (bb×V)}{k:bb}(e:H a=some (.cF kvs))(au:kvs.length<sizeLine):n_ H a (c0 k) v (upd H a (.cF (fv kvs k v))):=.inl ⟨kvs,k,e,rfl,au,rfl⟩
theorem n_.t{H:af}{kvs:List (List bb×V)}{k:List bb}(e:H a=some (.bV kvs))(dq:H b=some (.tup (k.map c0)))(au:kvs.length<sizeLine):
  n_ H a (.ref b) v (upd H a (.bV (fv kvs k v))):=.inr ⟨kvs,k,b,e,rfl,dq,au,rfl⟩
section
variable{X:bx}{pins:dD}{σ:St}{H:af}{s:aO}{a:Addr}{y v:V}{u r:Value}{o:Option V}{A:dn}{E:b6}
theorem Inv.big(I:Inv X pins σ H s):kg<s.heap.objs.size:=by have h:p2<s.heap.objs.size:=(I.mod.glob.keeps I.ho).lt;exact A3 (by decide) h
theorem ZY{Q:b6}(bL:A.units+1<cLine)(I:Inv X pins σ H s)(g:gu H a y (some v))(bD:RelV y u)(h:∀d8 s',Inv X pins σ H s'->RelV v d8->Q d8 s'):
  aN (a_ X.prog X.w) A (BL (.ref a) u) Q E s:=by
 rcases g with⟨kvs,k,e,dU,l⟩|⟨kvs,k,b,e,dU,dq,l⟩
 .subst dU;obtain⟨z,hd,vs,rel,dd⟩:=u1 I.bj e;obtain⟨d8,hw,dS⟩:=jE.NX (v:=v) (o:=z8 vs k) (by rw[l];exact rel.val k);exact ajQ (u0 bD) dd.mapOf hw (h d8 _ (I.tok _) dS)
 .subst dU;cases(show u=cg b from bD);obtain⟨z,hd,xs,rel,dd⟩:=ul I.bj e;obtain⟨d8,hw,dS⟩:=jE.NX (v:=v) (o:=(tK xs k).map (·.2)) (by rw[l];exact rel.val k);obtain⟨p,ay,B'⟩:=iq.mp hw;refine wpAny_getItem_heap (z4 bL) (uK I.bj dq) dd ay ?_;rw[B'];exact h d8 _ (I.tok _) dS
theorem adX{Q:b6}(bL:A.units+1<cLine)(I:Inv X pins σ H s)(g:gu H a y o)(bD:RelV y u)(h:∀s',Inv X pins σ H s'->Q (.bool o.isSome) s'):
  aN (a_ X.prog X.w) A (i5 .In u (.ref a)) Q E s:=by
 rcases g with⟨kvs,k,e,dU,l⟩|⟨kvs,k,b,e,dU,dq,l⟩
 .subst dU;obtain⟨z,hd,vs,rel,dd⟩:=u1 I.bj e;refine wpAny_in_of (u0 bD) hd dd.mapOf ?_;rw[<-(rel.val k).Cc,<-l];exact h _ (I.tok _)
 .subst dU;cases(show u=cg b from bD);obtain⟨z,hd,xs,rel,dd⟩:=ul I.bj e;refine wpAny_in_heap (z4 bL) (uK I.bj dq) hd dd ?_;have q:=(rel.val k).Cc;rw[Sp]at q;rw[<-q,<-l];exact h _ (I.tok _)
theorem Ľ{Q:b6}(bL:A.units+1<cLine)(I:Inv X pins σ H s)(g:gu H a y o)(bD:RelV y u)(h:∀s',Inv X pins σ H s'->Q (.bool (!o.isSome)) s'):
  aN (a_ X.prog X.w) A (i5 .NotIn u (.ref a)) Q E s:=by
 rcases g with⟨kvs,k,e,dU,l⟩|⟨kvs,k,b,e,dU,dq,l⟩
 .subst dU;obtain⟨z,hd,vs,rel,dd⟩:=u1 I.bj e;refine ajX (u0 bD) hd dd.mapOf ?_;rw[<-(rel.val k).Cc,<-l];exact h _ (I.tok _)
 .subst dU;cases(show u=cg b from bD);obtain⟨z,hd,xs,rel,dd⟩:=ul I.bj e;refine wpAny_notIn_heap (z4 bL) (uK I.bj dq) hd dd ?_;have q:=(rel.val k).Cc;rw[Sp]at q;rw[<-q,<-l];exact h _ (I.tok _)
theorem De{h':Heap}{t':Nat}(I:Inv X pins σ H s)(iY:AZ (H a))(hs:iK a s.heap h')(he:∃q,h'.get? a=some q)(new:er X.prog X.w (upd H a ob) h' a ob):
  Inv X pins σ (upd H a ob) {s with heap:=h',toks:=t'}:=
 I.write (x:=a) (e:=a) iY (.inl rfl) (λb q ae z=>(hs.2 b ae).trans z) he new
theorem Rv{h':Heap}{kvs:List (bb×V)}{vs:List (bb×Value)}(z:kvs.length<=sizeLine)(hd:(a==kg)=false)(rel:gV kvs vs)(dd:h'.DictOf (h1 P w) a vs):
  er P w H' h' a (.cF kvs):=⟨z,hd,vs,rel,dd⟩
theorem Zx{Q:Unit->aO->Prop}(bL:A.units+1<cLine)(I:Inv X pins σ H s)(g:n_ H a y v H')(bD:RelV y u)(cc:RelV v r)(h:∀s',Inv X pins σ H' s'->Q () s'):
  aN (a_ X.prog X.w) A (setItem (.ref a) u r) Q E s:=by
 rcases g with⟨kvs,k,e,dU,l,Kt⟩|⟨kvs,k,b,e,dU,dq,l,Kt⟩
 .subst dU Kt;obtain⟨z,hd,vs,rel,dd⟩:=SX I.bj e;have hz:vs.length<=sizeLine:=by rw[<-rel.length];exact z
  have au:(fv kvs k v).length<=sizeLine:=by have:=Nt kvs k v;omega
  refine wpAny_setItem_pairs (hsz:=hz) (u0 bD) dd λh' oD hs=>h _ ?_;have he:∃q,h'.get? a=some q:=let⟨q,_,_,bo,_⟩:=oD;⟨q,bo⟩
  exact De I (by rw[e];exact lJ) hs he (Rv au hd (rel.put k cc) oD)
 .subst dU Kt;cases(show u=cg b from bD);obtain⟨z,hd,xs,rel,dd⟩:=IP I.bj e;have hz:xs.length<=sizeLine:=by rw[<-tv rel];exact z
  have au:(fv kvs k v).length<=sizeLine:=by have:=Nt kvs k v;omega
  refine wpAny_setItem_heap (hsz:=hz) (z4 bL) (uK I.bj dq) dd λh' oD hs=>h _ ?_;obtain⟨q,es,ep,bo,aj,bC,c5,_,fq⟩:=oD;refine De I (by rw[e];exact lJ) hs ⟨q,bo⟩ ⟨au,hd,_,(rel.put k dq cc).keeps λc ys hp=>?_,q,es,ep,bo,aj,bC,c5,fq⟩;rw[aV (f9 hp e (λz=>nomatch z))];exact hp
noncomputable def JE(i:Expr):Prop:=∀fT kE,N9 i false fT kE=operate [fT,kE] (BL fT kE)
end
theorem Qw{E:b6}{env:Env}{id:String}{Q:b6}(au:typeLookup (.type T) "__getitem__"=pure (some (.builtin id)))(hs:JE slice)(h:aN (a_ prog w) A (eval value env) (λo dI=>aN (a_ prog w) A (eval slice env) (λi uV=>uV.TypeIs o T/\aN (a_ prog w) A (BL o i) Q E uV) E dI) E s):
  aN (a_ prog w) A (eval (.Subscript value slice pos) env) Q E s:=by
 refine S2 (hf h (λo dI Mg=>hf Mg (λi uV Mh=>?_) λ_ _ x=>x) λ_ _ x=>x);obtain⟨hH,Mh⟩:=Mh;unfold WX;refine aq ?_;rw[getitemInPython_of_ne hH.not_modules];refine aq (aj1 hH au ?_);have fin:aN (a_ prog w) A (N9 slice false o i) (λr WY=>aN (a_ prog w) A (letTemporaryGo value o r >>=λ_=>pure r) Q E WY) E uV:=by rw[hs o i];exact wpAny_operating (hf Mh (λr WY aht=>aq (wpAny_letTemporaryGo (ba aht))) λ_ _ x=>x)
 first
  |exact ba (aq fin)
  |exact aq (ba (aq fin))
  |exact aq fin
theorem Ym{s:aO}{o:Option V}(I:Inv X pins σ H s)(g:gu H a y o):s.TypeIs (.ref a) "dict":=by
 rcases g with⟨kvs,k,e,_,_⟩|⟨kvs,k,b,e,_,_,_⟩
 .obtain⟨_,_,vs,_,dd⟩:=u1 I.bj e;exact dd.typeIs
 .obtain⟨_,_,xs,_,dd⟩:=ul I.bj e;exact dd.typeIs
noncomputable def acx(c1 ty:TE):TE:=λσ H Q=>c1 σ H λx H1=>ty σ H1 λy ah=>∃a v,x=.ref a/\gu ah a y (some v)/\Q v ah
noncomputable def adY(ty c1:TE):TE:=λσ H Q=>ty σ H λy H1=>c1 σ H1 λx ah=>∃a o,x=.ref a/\gu ah a y o/\Q (.aM o.isSome) ah
noncomputable def ľ(ty c1:TE):TE:=λσ H Q=>ty σ H λy H1=>c1 σ H1 λx ah=>∃a o,x=.ref a/\gu ah a y o/\Q (.aM (!o.isSome)) ah
noncomputable def ac0(c1 ty kh:TE):e_:=λD σ H=>kh σ H λv H1=>c1 σ H1 λx ah=>ty σ ah λy aU=>∃a dx,x=.ref a/\n_ aU a y v dx/\D.cp σ dx
section
variable{X:bx}{o i e value:Expr}{pos pos' xu:Pos}{c1 ty kh:TE}
theorem nS(bL:X.A.units+1<cLine)(aI:bl X o c1)(hi:bl X i ty)(hs:JE i):bl X (.Subscript o i pos) (acx c1 ty):=by intro pins s σ H Q I h;refine Qw ś.lookup hs (bA (aI pins s σ H _ I h) λu s1⟨x,H1,aL,bf,bw⟩=>bA (hi pins s1 σ H1 _ aL bw) λkE s2 hz=>?_);obtain⟨y,ah,br,bD,a,v,ex,g,cH⟩:=hz;subst ex;obtain rfl:u=cg a:=bf;exact⟨Ym br g,ZY bL br g bD λd8 aW dg dS=>⟨v,ah,dg,dS,cH⟩⟩
theorem Il(bL:X.A.units+1<cLine)(hi:bl X i ty)(aI:bl X o c1):ym X .In i o (adY ty c1):=by intro pins s σ H Q I h;refine bA (hi pins s σ H _ I h) λkE s1⟨y,H1,aL,bD,bw⟩=>bA (aI pins s1 σ H1 _ aL bw) λu s2 hz=>?_;obtain⟨x,ah,br,bf,a,fT,ex,g,cH⟩:=hz;subst ex;obtain rfl:u=cg a:=bf;exact adX bL br g bD λaW dg=>⟨.aM fT.isSome,ah,dg,rfl,cH⟩
theorem GG(bL:X.A.units+1<cLine)(hi:bl X i ty)(aI:bl X o c1):ym X .NotIn i o (ľ ty c1):=by intro pins s σ H Q I h;refine bA (hi pins s σ H _ I h) λkE s1⟨y,H1,aL,bD,bw⟩=>bA (aI pins s1 σ H1 _ aL bw) λu s2 hz=>?_;obtain⟨x,ah,br,bf,a,fT,ex,g,cH⟩:=hz;subst ex;obtain rfl:u=cg a:=bf;exact Ľ bL br g bD λaW dg=>⟨.aM (!fT.isSome),ah,dg,rfl,cH⟩
theorem zM(bL:X.A.units+1<cLine)(aI:bl X o c1)(hi:bl X i ty)(a7:bl X value kh)(hs:zZ value (some (.Subscript o i pos')) pos.line X.env=pure false):
  fM X (.Assign [.Subscript o i pos'] value pos) (ac0 c1 ty kh):=by intro pins s σ H D I h;refine wpAny_Assign_Subscript (bA (a7 pins s σ H _ I h) λr s1⟨v,H1,aL,cc,bw⟩=>bA (aI pins s1 σ H1 _ aL bw) λu s2⟨x,ah,br,bf,cH⟩=>bA (hi pins s2 σ ah _ br cH) λkE aW hz=>?_) hs;obtain⟨y,aU,dg,bD,a,dx,ex,g,hJ⟩:=hz;subst ex;obtain rfl:u=cg a:=bf;exact Zx bL dg g bD cc λcK ko=>⟨σ,dx,ko,hJ⟩
theorem Pz(h:Heap)(ae:kg<h.objs.size):er P w H (h.push {cls:=.type "dict",data:=.dict #[]}) h.objs.size (.cF []):=
 ⟨ej _,yE.mpr (d3 (eA ae)),[],.nil,Heap.DictOf.new h⟩
theorem Ñ(h:Heap)(ae:kg<h.objs.size):er P w H (h.push {cls:=.type "dict",data:=.dict #[]}) h.objs.size (.bV []):=
 ⟨ej _,yE.mpr (d3 (eA ae)),[],.nil,_,#[],0,eY _ rfl,⟨rfl,rfl,rfl⟩,rfl,rfl,oq⟩
noncomputable def abe:TE:=λ_ H Q=>∀p,H p=none->Q (.ref p) (upd H p (.cF []))
noncomputable def abf:TE:=λ_ H Q=>∀p,H p=none->Q (.ref p) (upd H p (.bV []))
end
section
variable{X:bx}{pos:Pos}
theorem Ò:bl X (.Dict [] [] pos) abe:=λpins s σ H Q I h=>
 ajO ⟨.ref s.heap.objs.size,_,I.laid (a:=s.heap.objs.size) (o:=.cF []) (t':=s.toks) (λ_ _ q=>c9 _ q) (cL _) (Pz s.heap I.big),rfl,h _ (I.bj.fresh (cL _))⟩
theorem PA:bl X (.Dict [] [] pos) abf:=λpins s σ H Q I h=>
 ajO ⟨.ref s.heap.objs.size,_,I.laid (a:=s.heap.objs.size) (o:=.bV []) (t':=s.toks) (λ_ _ q=>c9 _ q) (cL _) (Ñ s.heap I.big),rfl,h _ (I.bj.fresh (cL _))⟩
noncomputable def Im:List (TE×TE)->St->af->(List (V×V)->af->Prop)->Prop
 |[],_,H,Q=>Q [] H
 | (aH,kh)::r,σ,H,Q=>aH σ H λx H1=>kh σ H1 λy ah=>Im r σ ah λps aU=>Q ((x,y)::ps) aU
noncomputable abbrev TF:List (V×V)->List (Value×Value)->Prop:=fH λp q=>RelV p.1 q.1/\RelV p.2 q.2
end
noncomputable def EB(X:bx)(pos:Pos)(keys:List (Option Expr))(values:hB)(sS:List (TE×TE)):Prop:=
 ∀(pins:dD)(s:aO)(σ:St)(H:af)(Q:List (V×V)->af->Prop),Inv X pins σ H s->Im sS σ H Q->
  aN (a_ X.prog X.w) X.A (evalPairs (pairTrees keys values X.env pos)) (λvs s'=>∃ps H',Inv X pins σ H' s'/\TF ps vs/\Q ps H') X.dT s
theorem Qx:EB X pos [] [] []:=λpins s σ H Q I h=>pairTrees_nil_walk ⟨[],H,I,.nil,h⟩
theorem PB{k v:Expr}{eD:List (Option Expr)}{vs:hB}{sS:List (TE×TE)}(aD:bl X k aH)(a7:bl X v kh)(al:EB X pos eD vs sS):
  EB X pos (some k::eD) (v::vs) ((aH,kh)::sS):=λpins s σ H Q I h=>
 pairTrees_cons_walk (bA (aD pins s σ H _ I h) λu s1⟨x,H1,aL,bf,bw⟩=>bA (a7 pins s1 σ H1 _ aL bw) λm9 s2⟨y,ah,br,bD,cH⟩=>
  bA (al pins s2 σ ah _ br cH) λws aW⟨ps,aU,dg,rel,hJ⟩=>⟨(x,y)::ps,aU,dg,.cons ⟨bf,bD⟩ rel,hJ⟩)
noncomputable def xh(kvs more:List (bb×V)):List (bb×V):=more.foldl (λacc bN=>fv acc bN.1 bN.2) kvs
theorem gV.merge:∀{more:List (bb×V)}{rs:List (bb×Value)}{kvs:List (bb×V)}{vs:List (bb×Value)},gV more rs->gV kvs vs->gV (xh kvs more) (merged vs rs):=by
 intro more rs kvs vs r;unfold gV at r
 induction r generalizing kvs vs with
 |nil=>intro q;exact q
 |@cons p q ps o3 h t a5=>
  intro h8;have e:gV (fv kvs p.1 p.2) (stored vs q.1 q.2):=by have:=h8.put p.1 h.2;rw[<-h.1];exact this
  exact a5 e
theorem Ww:∀(more kvs:List (bb×V)),(xh kvs more).length<=kvs.length+more.length
 |[],kvs=>by show kvs.length<=kvs.length+0;omega
 |p::r,kvs=>by have ai:=Ww r (fv kvs p.1 p.2);have aj:=Nt kvs p.1 p.2;show(xh (fv kvs p.1 p.2) r).length<=_;rw[fV];omega
theorem Xm:∀{kvs:List (bb×V)}{ws:List (Value×Value)},TF (kvs.map λbN=>(c0 bN.1,bN.2)) ws->∃rs,Carries (h1 P w) ws rs/\gV kvs rs
 |[],_,r=>by rw[I1]at r;cases r;exact⟨[],lJ,.nil⟩
 |p::kvs,_,r=>by
  rw[il]at r;cases r with
  |@cons a b as bs h t=>
   obtain⟨rs,c,q⟩:=Xm (P:=P) (w:=w) t;obtain⟨iP,fW⟩:=b;exact⟨(p.1,fW)::rs,⟨u0 h.1,rfl,c⟩,.cons ⟨rfl,h.2⟩ q⟩
noncomputable def ac1(sS:List (TE×TE)):TE:=λσ H Q=>∀p,H p=none->Im sS σ (upd H p (.cF [])) λps ah=>ah p=some (.cF [])/\∃kvs:List (bb×V),ps=kvs.map (λbN=>(c0 bN.1,bN.2))/\kvs.length<=15/\Q (.ref p) (upd ah p (.cF (xh [] kvs)))
theorem Qy{keys:List (Option Expr)}{values:hB}{sS:List (TE×TE)}(h:EB X pos keys values sS)(pQ:keys.all (·.isSome)=true)(au:keys.length=values.length)(a8:keys≠[])(af7:keys.length<=15):bl X (.Dict keys values pos) (ac1 sS):=by
 intro pins s σ H Q I q;have aX:=I.bj.fresh (cL s.heap.objs.size);have aL:=I.laid (a:=s.heap.objs.size) (o:=.cF []) (h':=s.heap.push {cls:=.type "dict",data:=.dict #[]}) (t':=s.toks) (λ_ _ q=>c9 _ q) (cL _) (Pz s.heap I.big);refine wpAny_Dict_walk (knd:=h1 X.prog X.w) pQ au a8 af7 (bA (h pins _ σ _ _ aL (q _ aX)) λws s2 hz=>?_);obtain⟨ps,ah,br,rel,e,kvs,ep,lk,cH⟩:=hz;subst ep;obtain⟨rs,c,uN⟩:=Xm (P:=X.prog) (w:=X.w) rel;obtain⟨z,hd,ao2,h8,dd⟩:=SX br.bj e;cases h8;refine⟨rs,c,dd,λh' oD hs=>⟨.ref s.heap.objs.size,_,?_,rfl,cH⟩⟩;have hz:(xh [] kvs).length<=sizeLine:=by have ai:=Ww kvs [];rw[x_]at ai;rw[uR];omega
 have he:∃q,h'.get? s.heap.objs.size=some q:=let⟨q,_,_,bo,_⟩:=oD;⟨q,bo⟩
 exact De br (by rw[e];exact lJ) hs he (Rv hz hd (uN.merge .nil) oD)
structure cQ(X:bx)(o:Expr)(m:Str)(fb:Pos)(e:Expr)(e5:Pos):Prop where
 base:yD o m X.env (eval o X.env)=eval o X.env
 cN:((gX e5 (dt [e] X.env)).all (λx=>!x.1)&&(kv e5 (kI [] X.env)).all (λx=>x.1.isSome)
  && decide (([e]:hB).length+([]:List vG).length+(if([]:List vG).isEmpty then 0 else 1)<30))=true
 line:(fb.endLine==e5.line)=true
 trees:gX e5 (dt [e] X.env)=[(false,eval e X.env)]
structure M2(X:bx)(o:Expr)(m:Str)(fb:Pos)(e f:Expr)(e5:Pos):Prop where
 base:yD o m X.env (eval o X.env)=eval o X.env
 cN:((gX e5 (dt [e,f] X.env)).all (λx=>!x.1)&&(kv e5 (kI [] X.env)).all (λx=>x.1.isSome)
  && decide (([e,f]:hB).length+([]:List vG).length+(if([]:List vG).isEmpty then 0 else 1)<30))=true
 line:(fb.endLine==e5.line)=true
 trees:gX e5 (dt [e,f] X.env)=[(false,eval e X.env),(false,eval f X.env)]
noncomputable def Ax(H:af)(a:Addr):Prop:=(∃kvs,fm H a (.cF kvs))\/∃kvs,fm H a (.bV kvs)
theorem Do{s:aO}(I:Inv X pins σ H s)(d:Ax H a):
  s.TypeIs (.ref a) "dict"/\(∀b,cg a=.ref b->∃ob,s.heap.get? b=some ob/\ob.dict=none)/\(a==kg)=false:=by
 rcases d with⟨kvs,e⟩|⟨kvs,e⟩
 .obtain⟨_,hd,vs,_,dd⟩:=u1 I.bj e;refine⟨dd.typeIs,λb q=>?_,hd⟩;cases q;obtain⟨ob,_,_,ai,aj,_⟩:=dd;exact⟨ob,ai,aj.2.1⟩
 .obtain⟨_,hd,xs,_,dd⟩:=ul I.bj e;refine⟨dd.typeIs,λb q=>?_,hd⟩;cases q;obtain⟨ob,_,_,ai,aj,_⟩:=dd;exact⟨ob,ai,aj.2.1⟩
section
variable{X:bx}{pins:dD}{σ:St}{H:af}{s:aO}{a:Addr}{y d:V}{u r:Value}{o:Option V}{A:dn}{E:b6}
theorem abH{Q:b6}(bL:A.units+1<cLine)(I:Inv X pins σ H s)(g:gu H a y o)(bD:RelV y u)(h:∀d8 s',Inv X pins σ H s'->RelV (o.getD .bJ) d8->Q d8 s'):
  aN (a_ X.prog X.w) A (call (.builtin "dict.get") [.ref a,u]) Q E s:=by
 rcases g with⟨kvs,k,e,dU,l⟩|⟨kvs,k,b,e,dU,dq,l⟩
 .subst dU;obtain⟨z,hd,vs,rel,dd⟩:=u1 I.bj e;refine Ki Bc dd.typeIs Jq (œ _ _) (meets_dict_get (h1 X.prog X.w) a (u0 bD) hd) ⟨_,dd.mapOf,h _ _ (I.tok _) ?_⟩;rw[l];exact(rel.val k).getD rfl
 .subst dU;cases(show u=cg b from bD);obtain⟨z,hd,xs,rel,dd⟩:=ul I.bj e;refine Ki Bc dd.typeIs Jq (œ _ _) (meetsH_dict_get (sT (h1 X.prog X.w)) a b hd) ⟨z4 bL,k,xs,uK I.bj dq,dd,h _ _ (I.tok _) ?_⟩;rw[l];exact(rel.val k).getD rfl
theorem abI{Q:b6}(bL:A.units+1<cLine)(I:Inv X pins σ H s)(g:gu H a y o)(bD:RelV y u)(eQ:RelV d r)(h:∀d8 s',Inv X pins σ H s'->RelV (o.getD d) d8->Q d8 s'):
  aN (a_ X.prog X.w) A (call (.builtin "dict.get") [.ref a,u,r]) Q E s:=by
 rcases g with⟨kvs,k,e,dU,l⟩|⟨kvs,k,b,e,dU,dq,l⟩
 .subst dU;obtain⟨z,hd,vs,rel,dd⟩:=u1 I.bj e;refine Ki Bc dd.typeIs Jq (Ŕ _ _ _) (meets_dict_get_default (h1 X.prog X.w) a (u0 bD) hd r) ⟨_,dd.mapOf,h _ _ (I.tok _) ?_⟩;rw[l];exact(rel.val k).getD eQ
 .subst dU;cases(show u=cg b from bD);obtain⟨z,hd,xs,rel,dd⟩:=ul I.bj e;refine Ki Bc dd.typeIs Jq (Ŕ _ _ _) (meetsH_dict_get_default (sT (h1 X.prog X.w)) a b hd r) ⟨z4 bL,k,xs,uK I.bj dq,dd,h _ _ (I.tok _) ?_⟩;rw[l];exact(rel.val k).getD eQ
end
noncomputable def abJ(c1 ty:TE):TE:=λσ H Q=>c1 σ H λx H1=>∃a,x=.ref a/\Ax H1 a/\ty σ H1 λy ah=>∃o,gu ah a y o/\Q (o.getD .bJ) ah
noncomputable def abK(c1 ty o6:TE):TE:=λσ H Q=>c1 σ H λx H1=>∃a,x=.ref a/\Ax H1 a/\ty σ H1 λy ah=>o6 σ ah λz aU=>∃o,gu aU a y o/\Q (o.getD z) aU
section
variable{X:bx}{o e f:Expr}{fb e5:Pos}{c1 ty o6:TE}
theorem Ot(bL:X.A.units+1<cLine)(aI:bl X o c1)(he:bl X e ty)(m:cQ X o "get" fb e e5):bl X (.Call (.Attribute o "get" fb) [e] [] e5) (abJ c1 ty):=by intro pins s σ H Q I h;refine Xv m.base m.cN m.line ED Bc Ş (bA (aI pins s σ H _ I h) λu s1 hz=>?_);obtain⟨x,H1,aL,bf,a,ex,d,bw⟩:=hz;subst ex;obtain rfl:u=cg a:=bf;obtain⟨t1,fh,_⟩:=Do aL d;refine⟨t1,fh,?_⟩;rw[m.trees];refine Aq rfl (D1 (xP (bA (he pins s1 σ H1 _ aL bw) λkE s2⟨y,ah,br,bD,fT,g,cH⟩=>D2 ?_)));exact abH bL br g bD λd8 aW dg dS=>⟨_,ah,dg,dS,cH⟩
theorem Å(bL:X.A.units+1<cLine)(aI:bl X o c1)(he:bl X e ty)(bE:bl X f o6)(m:M2 X o "get" fb e f e5):bl X (.Call (.Attribute o "get" fb) [e,f] [] e5) (abK c1 ty o6):=by
 intro pins s σ H Q I h;refine Xv m.base m.cN m.line ED Bc Ş (bA (aI pins s σ H _ I h) λu s1 hz=>?_);obtain⟨x,H1,aL,bf,a,ex,d,bw⟩:=hz;subst ex;obtain rfl:u=cg a:=bf;obtain⟨t1,fh,_⟩:=Do aL d;refine⟨t1,fh,?_⟩;rw[m.trees];refine Aq rfl (D1 (xP (bA (he pins s1 σ H1 _ aL bw) λkE s2⟨y,ah,br,bD,cH⟩=>
  xP (bA (bE pins s2 σ ah _ br cH) λaf0 aW⟨z,aU,dg,xp,fT,g,hJ⟩=>D2 ?_))))
 exact abI bL dg g bD xp λd8 cK ko dS=>⟨_,aU,ko,dS,hJ⟩
end
section
variable{κ:Type}[DecidableEq κ]
theorem PC{kvs:List (κ×V)}{k:κ}(h:b_ kvs k=none):¬k∈kvs.map (·.1):=by intro m;obtain⟨p,ay,e⟩:=cw.mp m;have q:(kvs.any λbN=>decide (bN.1=k))=true:=pg.mpr ⟨p,ay,b4 e⟩;rw[oM,h]at q;exact bk q (by simp)
theorem OJ{kvs:List (κ×V)}{k:κ}(h:b_ kvs k=some v):k∈kvs.map (·.1):=by
 have q:(kvs.any λbN=>decide (bN.1=k))=true:=by
  rw[oM,h]
  all_goals rfl
 obtain⟨p,ay,e⟩:=pg.mp q;exact cw.mpr ⟨p,ay,rl e⟩
theorem Qi:∀{l:List κ}{k:κ},l.Nodup->¬k∈l->(l++[k]).Nodup
 |[],k,_,_=>by simp
 |a::r,k,h,aD=>by
  obtain⟨ai,aj⟩:=nu.mp h;show(a::(r++[k])).Nodup;refine nu.mpr ⟨λm=>?_,Qi aj λm=>aD (dX.mpr (qE m))⟩;rcases ip.mp m with q|q
  .exact ai q
  .exact aD (dX.mpr (ct (gW.mp q).symm))
theorem PP{kvs:List (κ×V)}{k:κ}(v:V)(aX:(kvs.map (·.1)).Nodup)(h:b_ kvs k=none):((fv kvs k v).map (·.1)).Nodup:=by rw[zy v h,fk];exact Qi aX (PC h)
end
end ao
namespace b5
section
open PySem PySem.Spec PyProof.Rows
open PySem.Builtin PySem.Builtin.Getset_descriptor
structure oa(K:aQ)(C:Addr):Prop where
 ga:c_ K (.ref C) "__getattribute__"=some (some (.builtin "BaseException.__getattribute__"))
 no:c_ K (.ref C) "__getattr__"=some none
 av:c_ K (.ref C) "__class__"=some (some (.builtin "object.__class__"))
 aX:qG K (.builtin "object.__class__") "__get__"=some (some (.builtin "getset_descriptor.__get__"))
 F3:vT K (.builtin "object.__class__")=some true
 hm:kY K C (.type "object")=some true
 ae:kY K C (.type "BaseException")=some true
noncomputable def s8(h:Heap)(x C:Addr):Prop:=∃o,h.get? x=some o/\o.cls=.ref C
theorem s8.type{M:mC}(I:s8 h x C):rU M h (typeOf (.ref x)) (.ref C):=by obtain⟨o,e,c⟩:=I;rw[<-c];exact(Sy e).andThen .now
section
variable{prog:cA}{w:bU}{A:dn}{E:b6}{s:aO}{K:aQ}{x C:Addr}{name:Str}
theorem Zy{M:mC}{V3:Value}{Q:Unit->aO->Prop}(X:K.In s.heap)(c:oa K C)(I:s8 s.heap x C)(bo:Q () s):
  aN M A (Uk "BaseException.__getattribute__" ⟨[.ref x,V3],[]⟩) Q E s:=by
 have aD:builtinKind "BaseException.__getattribute__"=some .slot:=by decide+kernel
 have ahd:splitId "BaseException.__getattribute__"=some ("BaseException","__getattribute__"):=by decide+kernel
 have av:=F.args_bexc_ga (.ref x) V3;have Õ:rU M s.heap (F4 (.ref x) (.type "BaseException")) true:=I.type.andThen (ŭ X c.ae);obtain⟨h,g,d,t,os⟩:=s;simp only[Uk,aD,ahd];refine aq (Õ.at ?_)
 repeat (first|assumption|wp_step)
theorem abL{fill:Bool}{Q:b6}(X:K.In s.heap)(c:oa K C)(I:s8 s.heap x C)(h:∀eh:dn,jv (a_ prog w) eh (.call (.builtin "BaseException.__getattribute__") ⟨[.ref x,.str name aH],[]⟩) (λr s'=>match r with|.ok (.ret v)=>aN (a_ prog w) A (handedOut v) Q E s'|_=>False) s):
  aN (a_ prog w) A (UP (.ref x) (.str name aH) fill expr) Q E s:=by
 have Eh:=I.type (M:=a_ prog w);have AI:=tC (M:=a_ prog w) X c.ga;have ao:=tC (M:=a_ prog w) X c.no;have cS:=F.excAttr_ValueError.ga.bind (.ref x);have ahn:(expr&&Wm (qI "BaseException.__getattribute__"))=false:=by cases expr<;>rfl
 have aho:(qI "BaseException.__getattribute__"==qI "object.__getattribute__")=false:=by decide+kernel
 have L':(Wm (cg C)&&qI "BaseException.__getattribute__"==qI "object.__getattribute__")=false:=by rw[aho];rfl
 obtain⟨dh,g,d,t,os⟩:=s;unfold UP;refine jH (aq (Eh.at (aq (AI.at ?_))));dsimp only;rw[bz (by rw[L'];exact ei)];unfold getAttrByItsOwn hookBefore;rw[bO (show Wm (cg C)=true from rfl)];refine aq (ao.at ?_);refine aq (xI (jH ?_));unfold callGetattribute;rw[bz (by rw[ahn];exact ei)];unfold boundAndCalled;rw[cS];refine aq (ba ?_);refine rB (pK (h _) λr s' al=>?_);rcases r with e|(_|_|_|v)<;>first|exact al|exact al.elim
theorem Æ{R:nz->aO->Prop}{dv:Value}(X:K.In s.heap)(I:s8 s.heap x C)(hm:kY K C (.type "object")=some true)(h:R (.ok (.ret (.ref C))) s):
  jv (a_ prog w) A (.call (.builtin "getset_descriptor.__get__") ⟨[.builtin "object.__class__",.ref x,dv],[]⟩) R s:=by
 have Eh:=I.type (M:=a_ prog w);have akK:=ŭ (M:=a_ prog w) X hm;obtain⟨a8,g,d,t,os⟩:=s;refine Bu Š.plain alf ?_;refine Š.check _ _ _ _ _ _ _ _ alh (ald _ _ _) ?_;unfold Builtin.«getset_descriptor.__get__» descrGet;rw[PySem.W.dga_obj];refine aq (ba ?_);unfold descrGetter descrCheckInstance descrNameAndClass F4;simp only[alg]
 repeat lk
 refine⟨Ig _ (by decide+kernel),k_ ale ?_⟩;unfold Builtin.«object.__class__» shownTypeOf
 repeat lk
 exact h
theorem Zz{M:mC}(X:K.In h)(av:c_ K (.ref C) name=some (some a))(bp:qG K a "__get__"=some (some g))(cO:vT K a=some true):
  rU M h (YK (.ref x) (.ref C) name) (.bind g a):=by
 have AI:=tC (M:=M) X av;have ao:rU M h (akE (some a)) (some g):=PySem.W.looks_specialIn X bp;have b5:=PySem.W.looks_takesIn (M:=M) X cO;unfold YK;refine AI.andThen (ao.andThen ?_);have Ô:rU M h (YJ (some a) (some g)) (some (g,a)):=by unfold YJ;refine b5.andThen ?_;exact .now
 exact Ô.andThen (PySem.W.Looks.tag .now)
theorem oa.some(c:oa K C):(tA K C).isSome=true:=by have h:=c.hm;unfold kY at h;obtain⟨d1,a,_⟩:=Option.bind_eq_some_iff.mp h;rw[a];rfl
theorem ZA{fill:Bool}{aH:Tok}{Q:b6}(X:K.In s.heap)(c:oa K C)(I:s8 s.heap x C)(h:Q (.ref C) s):
  aN (a_ prog w) A (UP (.ref x) (.str "__class__" aH) fill expr) Q E s:=by refine abL X c I λeh=>Bu F.excAttr_ValueError.ga.plain F.entry_bexc_ga (Zy X c I ?_);have Eh:=I.type (M:=a_ prog w);have AI:=Zz (M:=a_ prog w) (x:=x) X c.av c.aX c.F3;obtain⟨dh,g,d,t,os⟩:=s;unfold Builtin.«object.__getattribute__»;have mc:slotArgs "__getattribute__" 1 ⟨[.ref x,.str (bK "__class__") aH],[]⟩=pure (.ref x,[.str (bK "__class__") aH]):=rfl;rw[mc];refine aq (ba ?_);dsimp only;have an:akC (.str (bK "__class__") aH)=pure (bK "__class__"):=rfl;rw[an];refine aq (ba (aq (Eh.at (aq (AI.at ?_)))));dsimp only;unfold akD;show aN _ _ (oO [qI "object.__class__"] (call (qI "getset_descriptor.__get__") [qI "object.__class__",cg x,cg C]) >>=ret) _ _ _;refine aq (jH (rB (Æ X I c.hm ?_)));refine ba ?_;show aN _ _ (handedOut (.ref C)) _ _ _;exact ba h
theorem Ł{Q:Option Value->aO->Prop}(X:K.In s.heap)(c:oa K C)(I:s8 s.heap x C)(h:Q (some (.ref C)) {s with toks:=s.toks+1}):aN (a_ prog w) A (getAttr? (.ref x) "__class__") Q E s:=by unfold getAttr? getAttrBy?;refine aq (wpAny_mkText (aq (xI ?_)));refine ZA (s:={s with toks:=s.toks+1}) X c I ?_;exact ba h
end
end
open PySem PySem.Spec PyProof.Rows ao
theorem Ç{K:aQ}{M:mC}(c:oa K C)(X:K.In h):rU M h (isType (.ref C)) true:=by
 obtain⟨d1,ar⟩:=pq.mp c.some;unfold tA at ar;split at ar
 .rename_i fJ fy wb afq aI;intro A Q E s k q;unfold isType loadHead;exact aq (ajT (k _ _ (X _ _ aI)) (ba q))
 .cases ar
theorem Ou{K:aQ}(c:oa K C):PySem.W.KitX K (.ref aS) (.ref C) (λh=>s8 h aS C)where
 ty:=λ_ _ _ I=>I.type
 it:=λ_ _ X _=>Ç c X
 ne:=λh dv dd its n bZ X pU=>by
  refine kk.mpr λq=>?_;have e:C=dv:=Value.ref.inj (pE.mp q);subst e;obtain⟨d1,ar⟩:=pq.mp c.some;unfold tA at ar;split at ar
  .rename_i fJ fy wb afq aI;have z:=(X _ _ aI).symm.trans pU;cases z
  .cases ar
 ca:=λX I k=>Ł X c I k
section
variable{X:bx}
theorem alp:jc X (.builtin "isinstance") (λxs H Q=>∃(aS C p:Addr)(cs:c7)(b:Bool),xs=[.ref aS,.ref p]/\H aS=some (vp aS C)/\H p=some (.tup (cs.map V.ref))/\oa X.K C/\PySem.W.kitAny X.K (.ref C) (cs.map cg)=some b/\Q (.aM b) H):=by
 intro pins s σ H xs us Q I r h;obtain⟨aS,C,p,cs,b,rfl,y1,ay,c,zg,q⟩:=h;obtain⟨u,d8,rfl,dF,dS⟩:=vals2 r;cases dF;cases dS;obtain⟨ty,_,_⟩:=(show er X.prog X.w H s.heap aS (vp aS C)from I.bj aS _ y1)
 obtain⟨o_,its,cc,⟨jX,d2,aik,lx⟩,aI,ar,n,hd⟩:=(show er X.prog X.w H s.heap p (.tup (cs.map V.ref))from I.bj p _ ay)
 simp only at ar hd;subst ar hd;have oF:its=cs.map cg:=by
  clear aI ay zg o_
  induction cs generalizing its with
  |nil=>cases cc;rfl
  |cons nD cT a5=>
   cases cc with
   |cons cq dV=>
    cases cq;rw[a5 _ dV];rfl
 rw[oF]at aI;exact PySem.W.kia_tup (Ou c) I.ef ty aI zg (λz=>nomatch z) λaH=>⟨.aM b,H,I.tok aH,rfl,q⟩
theorem nF:jc X (.builtin "isinstance") (λxs H Q=>∃(aS C:Addr)(b:Bool),H aS=some (vp aS C)/\oa X.K C/\((∃R,xs=[.ref aS,.ref R]/\jr X.K (.ref C) (.ref R)=some b)\/∃T,xs=[.ref aS,.ty T]/\jr X.K (.ref C) (.type T)=some b)/\Q (.aM b) H):=by
 intro pins s σ H xs us Q I r h;obtain⟨aS,C,b,y1,c,lZ,q⟩:=h;obtain⟨ty,_,_⟩:=(show er X.prog X.w H s.heap aS (vp aS C)from I.bj aS _ y1)
 rcases lZ with⟨R,rfl,zg⟩|⟨T,rfl,zg⟩
 .obtain⟨u,d8,rfl,dF,dS⟩:=vals2 r;cases dF;cases dS;exact oy (Ou c) I.ef ty zg (λz=>nomatch z) λaH=>⟨.aM b,H,I.tok aH,rfl,q⟩
 .obtain⟨u,d8,rfl,dF,dS⟩:=vals2 r;cases dF;cases dS;exact oy (Ou c) I.ef ty zg (λz=>nomatch z) λaH=>⟨.aM b,H,I.tok aH,rfl,q⟩
theorem TU{k:Nat}{A:dn}(r:f3 k A):A.units+65<cLine:=by have:=r.un;omega
inductive adZ(K:aQ)(neg:Bool)(x:ao.V)(y:ao.V)(H:af)(Q:a4):Prop where
 |mk (d:_) (ds:_) (aT:mu K H x d) (aP:mu K H y (.list ds)) (bh:rW d=true) (cf:rS ds=true) (cP:Q (.aM (if neg then !(ds.any λz=>i2 z d)else ds.any λz=>i2 z d)) H)
theorem È{A:dn}{d:PyData}(dO:rW d=true)(bL:A.units+65<cLine):A.units+1+min (ow ds) d.depth<cLine:=by have ai:=SeqAt.depth_of_shaped dO;have aj:min (ow ds) d.depth<=d.depth:=Ew _ _;omega
theorem Ro(bL:X.A.units+65<cLine):gC X (i5 .In) (adZ X.K false):=by intro pins s σ H x y v u Q I bf bD h;obtain⟨d,ds,hd,he,dO,h_,q⟩:=h;obtain⟨as,n3⟩:=w6 I hd bf;obtain⟨bs,xo⟩:=w6 I he bD;exact SeqAt.in_list_reads xo n3 h_ (SeqAt.canLay_of_shaped dO) (È dO bL) ⟨.aM _,H,I,rfl,q⟩
end
end b5
namespace c2
open PySem ao b5
theorem g7:h0 "len"=some (.builtin "len"):=by decide+kernel
theorem hC:h0 "isinstance"=some (.builtin "isinstance"):=by decide+kernel
theorem xi:h0 "all"=some (.builtin "all"):=by decide+kernel
theorem Du:h0 "int"=some (.type "int"):=by decide+kernel
theorem Qj:h0 "bool"=some (.type "bool"):=by decide+kernel
theorem mZ:h0 "str"=some (.type "str"):=by decide+kernel
theorem q6:h0 "list"=some (.type "list"):=by decide+kernel
theorem Ov:h0 "tuple"=some (.type "tuple"):=by decide+kernel
theorem Rp:h0 "set"=some (.type "set"):=by decide+kernel
theorem ajH:h0 "ValueError"=some (.type "ValueError"):=by decide+kernel
structure eR(mg:b9):Prop where
 len:mg "len"=none
 range:mg "range"=none
 isinstance:mg "isinstance"=none
 v3:mg "all"=none
 int:mg "int"=none
 bool:mg "bool"=none
 str:mg "str"=none
 list:mg "list"=none
 tuple:mg "tuple"=none
 WL:mg "set"=none
 ValueError:mg "ValueError"=none
 enumerate:mg "enumerate"=none
 max:mg "max"=none
 min:mg "min"=none
 sum:mg "sum"=none
 alu:mg "any"=none
 dict:mg "dict"=none
 sorted:mg "sorted"=none
 zip:mg "zip"=none
structure bX(K:aQ)(mg:b9)(x:Str)(st:Stmt)(ps:ck)(f:Addr)(fd:ni):Prop where
 fn:cz K x x st f fd
 at_:mg x=some (.ref f)
 bd:Binds K fd ps []
structure d_(K:aQ)(C:Addr)(m qual:Str)(st:Stmt)(ps:ck)(f:Addr)(fd:ni):Prop where
 fn:cz K m qual st f fd
 gi:Meth K C m f
 bd:Binds K fd ps []
structure nk(K:aQ)(C:Addr)(qual:Str)(st:Stmt)(ps:ck)(f:Addr)(fd:ni):Prop where
 fn:cz K "__init__" qual st f fd
 made:ou K C f
 bd:Binds K fd ps []
noncomputable def rG(mg:b9)(x:Str)(i:Int):Prop:=∃t,mg x=some (.int i t)
theorem nK{X:bx}{i:Int}(bp:ij X x)(h:rG X.mg x i)(hd:(x==("__debug__":Str))=false:=by decide):bl X (.Name x pos) (sQ (.int i)):=by obtain⟨t,e⟩:=h;exact Qo bp e ⟨t,rfl⟩ hd
theorem m1{X:bx}(bp:ij X x)(hm:X.mg x=none)(a7:h0 x=some (.type T))(aX:x≠"__name__":=by decide)(hd:(x==("__debug__":Str))=false:=by decide):bl X (.Name x pos) (sQ (.ty T)):=
 ĩ (v:=.ty T) bp hm a7 rfl aX hd
theorem lp{X:bx}(bp:ij X x)(hm:X.mg x=some (.ref C))(hd:(x==("__debug__":Str))=false:=by decide):bl X (.Name x pos) (sQ (.ref C)):=
 Qo (v:=.ref C) bp hm rfl hd
theorem q2{wi:el}{te:TE}{rest:ao.St}{H1:af}{Q:a4}{J:gm}{xs:aR}(hw:∀R:gm->af->Prop,R J H1->wi σ H R)(g0:h5 cs σ=none::rest)(qm:rY J H1 xs)(au:xs.length<sizeLine)(f:ao.V->ao.V)(elt:∀(i:Nat)(x:ao.V)(ah:af)(R:a4),xs[i]?=some x->aB H1 ah->(∀b1,aB ah b1->R (f x) b1)->te (some x::rest) ah R)(fin:∀(D:Addr)(H':af),H1 D=none->H' D=some (.lst (xs.map f))->aB H1 H'->Q (.ref D) H'):o5 wi cs (jD 0) sY te σ H Q:=hw _ (UV g0 qm au f elt fin)
theorem Dv(K:aQ)(t:String):jr K (.type t) (.type t)=some true:=by unfold jr;exact bO (by simp)
theorem IM{X:bx}:nU (eW X.prog X.w) X mv:=by rintro pins σ H s e s' I ⟨_,_,_,_,_,_,_,z⟩;exact z.elim
theorem jy{cl big:List (Str×Addr)}(h:∀p∈cl,big.lookup p.1=some p.2)(x:Str)(c:Addr)(e:cl.lookup x=some c):big.lookup x=some c:=by
 induction cl with
 |nil=>cases e
 |cons p r a5=>
  obtain⟨y,d⟩:=p;rw[List.lookup_cons]at e;by_cases ae:(x==y)=true
  .rw[ae]at e;cases e;have:=h (y,c) (ts ..);rw[show x=y from eq_of_beq ae];exact this
  .rw[Bool.not_eq_true]at ae;rw[ae]at e;exact a5 (λp ay=>h p (mz _ ay)) e
end c2
namespace cQ
open PySem
noncomputable def fF(l:cx):Prop:=1<=l.length/\l.length<=8/\∀x∈l,97<=x/\x<=122
structure fm where
 a:Nat
 b:Nat
 t:Int
 m:Int
abbrev dc:= List fm
structure fm.Ok(r:fm)(n:Nat):Prop where
 a:r.a<n
 b:r.b<n
 ne:r.a≠r.b
 t:1<=r.t/\r.t<=9
 m:1<=r.m/\r.m<=1000000000
end cQ
namespace c2
open PySem ao b5 cQ
section
variable{P:cA}{w:bU}{K:aQ}{mg:b9}{base:Heap}
noncomputable abbrev S(l:cx):Str:=⟨l.toArray⟩
theorem ł{ns:jM}{k:Int}(a8:0<=k)(ai:k<(ns.map V.int).length):hD (ns.map V.int) k=some (V.int (ns.getD k.toNat 0)):=by
 have aj:k.toNat < ns.length:=by rw[cj]at ai;omega
 have e:(ns.map V.int)[k.toNat]?=some (V.int (ns.getD k.toNat 0)):=by rw[d0,dW aj];simp[eb,aj]
 have:=mV e
 rwa [vE a8]at this
inductive TV(K:aQ)(vs:aR)(H:af)(Q:a4)(gK:bP):Prop where
 |mk (a:Addr) (ns:jM) (k:Int) (aT:vs=[.ref a,.int k]) (aP:aJ K H a (ns.map V.int)) (bh:0<=k) (cf:Q (.int (ns.getD k.toNat 0)) H)
theorem Yn:(bK "abcdefghijklmnopqrstuvwxyz").cps.toList=(gN 26).map (97+·):=by decide+kernel
theorem É{i:Int}(a8:0<=i)(ai:i<26):hD (bK "abcdefghijklmnopqrstuvwxyz").cps.toList i=some (97+i.toNat):=by
 have e:(bK "abcdefghijklmnopqrstuvwxyz").cps.toList[i.toNat]?=some (97+i.toNat):=by rw[Yn,d0,ë (by omega)];rfl
 have:=mV e
 rwa [vE a8]at this
theorem sM(a b:cx):S a++S b=S (a++b):=by show Jw _ _=_;simp[Jw,S]
theorem dR(a:cx):(S a).length=a.length:=by simp[S,Jy]
noncomputable def bY(hs:bt):List ao.V:=hs.map λl=>V.str (S l)
theorem q3(hs:bt):bY hs=(hs.map S).map V.str:=by simp[bY]
theorem HA(l:cx):signs (S l)=l.map λc=>V.str (S [c]):=by simp[signs,S]
noncomputable def lA(hs:bt)(r:cQ.fm):List ao.V:=[.str (S (hs.getD r.a [])),.str (S (hs.getD r.b [])),.int r.t,.int r.m]
noncomputable def ha(H:af):List Addr->List aR->Prop:=fH λr d=>H r=some (.tup d)
theorem ha.same(az:aB H H'){rs ds}(h:ha H rs ds):ha H' rs ds:=fH.oW h λ_ _ e=>az _ _ e
noncomputable def bM(rs:c7):List ao.V:=rs.map V.ref
theorem Paired.snoc{α β:Type}{F:α->β->Prop}{x:α}{y:β}(q:F x y):∀{l:List α}{m:List β},fH F l m->fH F (l++[x]) (m++[y])
 |_,_,.nil=>.cons q .nil
 |_,_,.cons r t=>.cons r (Paired.snoc q t)
theorem q4(hs:bt):(bY hs).length=hs.length:=cj ..
theorem fO{H:af}(ay:H p=none)(az:aB H H'):aB H (upd H' p o):=λb u e=>by rw[aV (cI e ay)];exact az b u e
theorem ha.upd{H:af}{rs ds}(h:ha H rs ds)(e:H p=some u)(bL:∀d,u≠.tup d):ha (upd H p o) rs ds:=fH.oW h λr d q=>by
 rw[aV]
 .exact q
 .rintro rfl;rw[e]at q;exact bL d (fG q)
theorem ZB(rs:c7)(t:Addr):bM rs++[V.ref t]=bM (rs++[t]):=by simp[bM]
theorem i4(rs:c7):(bM rs).length=rs.length:=cj ..
theorem ha.len{H rs ds}(h:ha H rs ds):rs.length=ds.length:=tv h
theorem aZ{H:af}{t:Addr}(cO:H t=none):aB H (upd H t o):=λb u e=>by rw[aV (cI e cO)];exact e
theorem cY{A B:Prop}(h:b=true)(q:A):if b=true then A else B:=by rw[bO h];exact q
theorem c3{A B:Prop}(h:b=false)(q:B):if b=true then A else B:=by subst h;exact q
theorem sN{R:a4}(e:b=true)(h:R (.aM true) H):R (.aM b) H:=by rw[e];exact h
theorem GP(xs:aR):xs.map (λ_=>V.aM true)=(yc xs.length true).map V.aM:=by
 induction xs with
 |nil=>rfl
 |cons x r a5=>simp[List.replicate_succ,a5]
theorem GQ(n:Nat):(yc n true).all id=true:=by rw[rL];intro x ax;exact(List.mem_replicate.mp ax).2
structure Rt(K:aQ):Prop where
 jS:jr K (.type "int") (.type "bool")=some false
inductive Qk(vs:aR)(H:af)(Q:a4)(gK:bP):Prop where
 |mk (i:Int) (aT:vs=[.int i]) (aP:Q (.aM true) H)
inductive PD(vs:aR)(H:af)(Q:a4)(gK:bP):Prop where
 |mk (i a b:Int) (aT:vs=[.int i,.int a,.int b]) (aP:a<=i) (bh:i<=b) (cf:Q (.aM true) H)
inductive Ql(vs:aR)(H:af)(Q:a4)(gK:bP):Prop where
 |mk (r:Addr) (xs:aR) (n:Int) (aT:vs=[.ref r,.int n]) (aP:H r=some (.tup xs)) (bh:(xs.length:Int)=n) (cf:Q (.aM true) H)
theorem uy(ys:ck):(ys.map V.str).all nX=true:=by rw[rL];intro x ax;obtain⟨y,_,rfl⟩:=cw.mp ax;rfl
theorem xc{ys:ck}{x:Str}(h:x∈ys):iD (.str x) (ys.map V.str)=true:=by unfold iD;rw[pg];exact⟨.str x,cw.mpr ⟨x,h,rfl⟩,by show(x==x)=true;exact beq_self_eq_true x⟩
inductive PE(K:aQ)(vs:aR)(H:af)(Q:a4)(gK:bP):Prop where
 |mk (a:Addr) (ys:ck) (x y:Str) (aT:vs=[.ref a,.str x,.str y]) (aP:aJ K H a (ys.map V.str)) (bh:x∈ys) (cf:y∈ys) (cP:x≠y) (dM:Q (.aM true) H)
theorem aiN:bK "a"=⟨#[97]⟩:=by decide+kernel
theorem aiS:bK "z"=⟨#[122]⟩:=by decide+kernel
inductive Rk(vs:aR)(H:af)(Q:a4)(gK:bP):Prop where
 |mk (l:cx) (aT:vs=[.str (S l)]) (aP:fF l) (bh:∀H',aB H H'->Q (.aM true) H')
structure sZ(mg:b9):Prop where
 RU:rG mg "MOST_HOUSES" 12
 RV:rG mg "MOST_ROADS" 40
 RX:rG mg "MOST_SIGNS" 8
 RY:rG mg "MOST_TURNS" 9
 RW:rG mg "MOST_ROOM" 1000000000
theorem m2{b:cx}(h:S a=S b):a=b:=by have:=ek (λx=>x.cps.toList) h;simpa[S]using this
theorem aak{hs:bt}(h:hs.Nodup):∀i j,i<j->j<(hs.map S).length->(hs.map S).getD i iN≠(hs.map S).getD j iN:=by
 intro i j qV bu e;rw[cj]at bu;have hi:i<hs.length:=by omega
 rw[eb,eb,d0,d0,dW hi,dW bu]at e;have aG:=m2 (show S hs[i]=S hs[j]from e);exact AM.mp h i j hi bu qV aG
structure Good(hs:bt):Prop where
 nm:∀x∈hs,fF x
 aC:hs.Nodup
 cN:hs.length<=12
inductive Rl(vs:aR)(H:af)(Q:a4)(gK:bP):Prop where
 |mk (a:Addr) (hs:bt) (aT:vs=[.ref a]) (aP:H a=some (.lst (bY hs))) (bh:Good hs) (cf:∀H',aB H H'->Q (.aM true) H')
theorem fH.get{α β:Type}{F:α->β->Prop}:∀{l:List α}{m:List β}{i:Nat}{x:α},fH F l m->l[i]?=some x->∃y,m[i]?=some y/\F x y
 |_,_,_,_,.nil,e=>by simp at e
 |_,_,0,_,.cons r _,e=>by simp at e;subst e;exact⟨_,rfl,r⟩
 |_,_,i+1,x,.cons _ t,e=>by obtain⟨y,ai,aj⟩:=fH.get (i:=i) (x:=x) t (by simpa using e);exact⟨y,by simpa using ai,aj⟩
structure gE(H:af)(hs:bt)(rs:c7)(ds:dc):Prop where
 fi:ha H rs (ds.map (lA hs))
 ok:∀d∈ds,d.Ok hs.length
theorem gE.same{hs rs ds}(r:gE H hs rs ds)(az:aB H H'):gE H' hs rs ds:=⟨r.fi.same az,r.ok⟩
theorem gE.get{H:af}{hs rs ds}{i:Nat}(q:gE H hs rs ds)(e:rs[i]?=some r):∃d,ds[i]?=some d/\d.Ok hs.length/\H r=some (.tup (lA hs d)):=by obtain⟨y,ai,aj⟩:=fH.get q.fi e;rw[d0]at ai;obtain⟨d,hd,rfl⟩:=iq.mp ai;exact⟨d,hd,q.ok d (f_ hd),aj⟩
theorem gE.len{hs rs ds}(q:gE H hs rs ds):rs.length=ds.length:=by
 have:=q.fi.len
 rwa [cj]at this
theorem ra{hs:bt}{a:Nat}(h:a<hs.length):S (hs.getD a [])∈hs.map S:=by refine cw.mpr ⟨hs.getD a [],?_,rfl⟩;rw[eb,dW h];exact qy h
theorem ac2{hs:bt}{a b:Nat}(aC:hs.Nodup)(av:a<hs.length)(ae:b<hs.length)(ne:a≠b):S (hs.getD a [])≠S (hs.getD b []):=by
 intro e;have aG:=m2 e;rw[eb,eb,dW av,dW ae]at aG;rcases Nat.lt_or_gt_of_ne ne with h|h
 .exact AM.mp aC a b av ae h aG
 .exact AM.mp aC b a ae av h aG.symm
inductive Rm(K:aQ)(vs:aR)(H:af)(Q:a4)(gK:bP):Prop where
 |mk (a r:Addr) (hs:bt) (d:cQ.fm) (aT:vs=[.ref a,.ref r]) (aP:aJ K H a (bY hs)) (bh:hs.Nodup) (cf:d.Ok hs.length) (cP:H r=some (.tup (lA hs d))) (dM:Q (.aM true) H)
inductive Rn(K:aQ)(vs:aR)(H:af)(Q:a4)(gK:bP):Prop where
 |mk (a b:Addr) (hs:bt) (rs:c7) (ds:dc) (aT:vs=[.ref a,.ref b]) (aP:aJ K H a (bY hs)) (bh:hs.Nodup) (cf:H b=some (.lst (bM rs))) (cP:gE H hs rs ds) (dM:rs.length<=40) (gk:∀H',aB H H'->Q (.aM true) H')
noncomputable def SameBut(x:Addr)(H H':af):Prop:=∀b o,b≠x->H b=some o->H' b=some o
noncomputable def JQ(a b:Addr):List (Str×ao.V):=[("kept_houses",.ref a),("kept_roads",.ref b)]
structure s3(K:aQ)(C:Addr):Prop where
 cl:fw K C
 CJ:uM K C "kept_houses"
 fS:uM K C "kept_roads"
inductive HR(K:aQ)(C:Addr)(vs:aR)(H:af)(Q:a4)(gK:bP):Prop where
 |mk (x ak a b:Addr) (hs:bt) (rs:c7) (ds:dc) (aT:vs=[.ref x,.ref a,.ref b]) (aP:H x=some (.ins C ak [])) (bh:H a=some (.lst (bY hs))) (cf:Good hs) (cP:H b=some (.lst (bM rs))) (dM:gE H hs rs ds) (gk:rs.length<=40) (ic:∀(H':af)(bR bI:Addr),SameBut x H H'->H' x=some (.ins C ak (JQ bR bI))->H' bR=some (.lst (bY hs))->H' bI=some (.lst (bM rs))->H bR=none->H bI=none->Q .bJ H')
structure ka(C:Addr)(H:af)(x bR bI:Addr)(xs ys:aR):Prop where
 ins:∃ak,H x=some (.ins C ak (JQ bR bI))
 wH:H bR=some (.lst xs)
 p_:H bI=some (.lst ys)
theorem ka.same(n:ka C H x bR bI xs ys)(az:aB H H'):ka C H' x bR bI xs ys:=
 let⟨ak,h⟩:=n.ins
 ⟨⟨ak,az _ _ h⟩,az _ _ n.wH,az _ _ n.p_⟩
inductive zk(C:Addr)(vs:aR)(H:af)(Q:a4)(gK:bP):Prop where
 |mk (x bR bI:Addr) (xs ys:aR) (aT:vs=[.ref x]) (aP:ka C H x bR bI xs ys) (bh:∀l,H l=none->Q (.ref l) (upd H l (.lst xs)))
inductive GR(C:Addr)(vs:aR)(H:af)(Q:a4)(gK:bP):Prop where
 |mk (x bR bI:Addr) (xs ys:aR) (aT:vs=[.ref x]) (aP:ka C H x bR bI xs ys) (bh:∀l,H l=none->Q (.ref l) (upd H l (.lst ys)))
inductive Qm(C R:Addr)(vs:aR)(H:af)(Q:a4)(E:bP):Prop where
 |mk (x bR bI:Addr) (xs ys:aR) (k:Int) (aT:vs=[.ref x,.int k]) (aP:ka C H x bR bI xs ys) (bh:(0<=k/\k<ys.length->∃v,hD ys k=some v/\Q v H)) (cf:(¬(0<=k/\k<ys.length)->E (.ref R) none H))
noncomputable def bF(hs:bt):List PyData:=(hs.map S).map PyData.str
noncomputable def xm(hs:bt)(d:cQ.fm):PyData:=.tuple [.str (S (hs.getD d.a [])),.str (S (hs.getD d.b [])),.int d.t,.int d.m]
theorem GS(h:fF l):yn (.str (S l))=true:=by simp only[yn,ox,S];rw[PH];intro x ax;have:=h.2.2 x (by simpa using ax);exact b4 (by omega)
theorem GH{ds:fa}{n:Nat}(h:∀d∈ds,d.depth<=n):ow ds<=n:=by
 induction ds with
 |nil=>exact ej _
 |cons d r a5=>
  simp only[ow];exact Nat.max_le.mpr ⟨h d (ts ..),a5 λe he=>h e (mz _ he)⟩
theorem Good.at{hs:bt}(G:Good hs){a:Nat}(h:a<hs.length):fF (hs.getD a []):=by refine G.nm _ ?_;rw[eb,dW h];exact qy h
theorem PF(hs:bt)(d:cQ.fm):(xm hs d).depth<=1:=by
 unfold xm;simp only[pv];exact Ja (GH λe he=>by
  rcases dX.mp he with rfl|he
  .exact cL _
  rcases dX.mp he with rfl|he
  .exact cL _
  rcases dX.mp he with rfl|he
  .exact cL _
  rcases dX.mp he with rfl|he
  .exact cL _
  .exact bk he di)
theorem ZC(hs:bt)(ds:dc):(PyData.list (ds.map (xm hs))).depth<=2:=by
 simp only[pv];exact Ja (GH λe he=>by
  obtain⟨x,_,rfl⟩:=cw.mp he;exact PF hs x)
theorem XQ{d:PyData}{n:Nat}(ai:d.canLay0=true)(aj:d.depth<=n)(bC:n<=64):rW d=true:=by unfold rW;rw[ai,b4 (e1 aj bC)];rfl
theorem Ow(hs:bt):gE H hs [] []:=⟨.nil,λ_ h=>bk h di⟩
inductive D6(K:aQ)(vs:aR)(H:af)(Q:a4)(gK:bP):Prop where
 |mk (a:Addr) (ns:jM) (aT:vs=[.ref a]) (aP:aJ K H a (ns.map V.int)) (bh:ns.length<=63) (cf:∀H',Q (.aM true) H')
noncomputable def xj(d1:xQ)(bZ:k6)(C R:Addr):Bool:=match d1.mro,bZ.toList with
  |.ref Ap::bm,[_,_,_,_,some (.builtin _),_]=>Ap==C&&!d1.hasDel&&bm.contains (.type "BaseException")&&(cg C::bm).contains (.ref R)
  |_,_=>false
theorem zl{K:aQ}{dd:Option Addr}{d1:xQ}(l:K.lookup C=some ⟨.type "type",dd,.cls d1,bZ⟩)(h:xj d1 bZ C R=true):pY K C R=true:=by unfold pY;rw[l];exact h
theorem abM(K:aQ):jr K (.type "int") (.type "bool")=some false:=by show(if(tH "int"==tH "bool")=true then some true else if Jr "bool"=true then(afN "int").map (·.contains (.type "bool"))else none)=some false;decide+kernel
theorem ne_int{i j:Int}(h:i≠j):decide (V.int i=V.int j)=false:=cM λz=>h (V.int.inj z)
theorem Zb{dd fy:Option Addr}{d1 gY:xQ}{bZ s2:k6}(wX:K.lookup C=some ⟨.type "type",dd,.cls d1,bZ⟩)(lo:K.lookup o=some ⟨.type "type",fy,.cls gY,s2⟩)(a8:d1.mro.isEmpty=false)(ai:(cg C==cg o)=false)(aj:d1.mro.contains (.ref o)=false):jr K (.ref C) (.ref o)=some false:=by
 unfold jr SF;rw[bz (by rw[ai];exact ei)];have aF:tA K o=some gY:=by unfold tA;rw[lo]
 have aG:yq K (.ref o)=some (.type "type"):=by show(K.lookup o).map (·.cls)=some (.type "type");rw[lo];rfl
 have cR:tA K C=some d1:=by unfold tA;rw[wX]
 dsimp only;rw[aF,aG,bO (by simp)];show kY K C (.ref o)=some false;unfold kY;rw[cR];show(if d1.mro.isEmpty=true then none else some (d1.mro.contains (.ref o)))=some false;rw[a8,aj];rfl
end
end c2
namespace ao
open PySem
section
variable{CX:mn}{P:cA}{w:bU}{K:aQ}{mg:b9}{base:Heap}{N:ck}{qual:Str}{scope:Scope}{f:Addr}{d1:Value}{A:dn}{outer:List Env}{s:aO}{H:af}{E:bP}
theorem gR:(je CX P w K mg base N qual scope f d1 A outer s H E).K=K:=rfl
theorem gQ:(je CX P w K mg base N qual scope f d1 A outer s H E).w_.K=K:=rfl
end
theorem cut{b:e_}{D:Ends}(h:∀R:e_,R=b->ht a R D σ H):ht a b D σ H:=h b rfl
theorem f7(SR:e_){b:e_}{D:Ends}(e:SR=ht a b)(h:∀R:e_,R=b->ht a R D σ H):SR D σ H:=by subst e;exact h b rfl
end ao
namespace c2
open PySem ao b5 cQ
section
variable{P:cA}{w:bU}{K:aQ}{mg:b9}{base:Heap}
noncomputable def top(i:Nat):Stmt:=akN.main.body.getD i (.Pass ⟨0,0,0,0⟩)
mutual
inductive cW(H:af):ao.V->PyData->Prop
 |bJ:cW H .bJ .none
 |aM (b:Bool):cW H (.aM b) (.bool b)
 |int (i:Int):cW H (.int i) (.int i)
 |str (x:Str) (z:x.length<=100) (ok:ox x=true):cW H (.str x) (.str x)
 |lst {a:Addr} {xs:aR} {ds:fa}:H a=some (.lst xs)->xs.length<=100->dQ H xs ds->cW H (.ref a) (.list ds)
 |tup {a:Addr} {xs:aR} {ds:fa}:H a=some (.tup xs)->xs.length<=100->dQ H xs ds->cW H (.ref a) (.tuple ds)
inductive dQ(H:af):List ao.V->List PyData->Prop
 |nil:dQ H [] []
 |cons {v:ao.V} {d:PyData} {vs:aR} {ds:fa}:cW H v d->dQ H vs ds->dQ H (v::vs) (d::ds)
end
mutual
theorem cW.same(az:aB H H'):∀{v:ao.V}{d:PyData},cW H v d->cW H' v d
 |_,_,.bJ=>.bJ
 |_,_,.aM b=>.aM b
 |_,_,.int i=>.int i
 |_,_,.str x z ok=>.str x z ok
 |_,_,.lst h z t=>.lst (az _ _ h) z (dQ.same az t)
 |_,_,.tup h z t=>.tup (az _ _ h) z (dQ.same az t)
theorem dQ.same(az:aB H H'):∀{vs:aR}{ds:fa},dQ H vs ds->dQ H' vs ds
 |_,_,.nil=>.nil
 |_,_,.cons a b=>.cons (cW.same az a) (dQ.same az b)
end
end
mutual
theorem cW.nG{K:aQ}:∀{v:ao.V}{d:PyData},cW H v d->mu K H v d
 |_,_,.bJ=>.bJ
 |_,_,.aM b=>.aM b
 |_,_,.int i=>.int i
 |_,_,.str x z ok=>.str x
 |_,_,.lst h z t=>.lst (aJ.of h) (dQ.nG t)
 |_,_,.tup h z t=>.tup (cG.of h) (dQ.nG t)
theorem dQ.nG{K:aQ}:∀{vs:aR}{ds:fa},dQ H vs ds->vr K H vs ds
 |_,_,.nil=>.nil
 |_,_,.cons a b=>.cons (cW.nG a) (dQ.nG b)
end
mutual
theorem cW.pI:∀{v:ao.V}{d:PyData},cW H v d->d.canLay0=true
 |_,_,.bJ=>rfl
 |_,_,.aM b=>rfl
 |_,_,.int i=>rfl
 |_,_,.str x z ok=>ok
 |_,_,.lst h z t=>dQ.pI t
 |_,_,.tup h z t=>dQ.pI t
theorem dQ.pI:∀{vs:aR}{ds:fa},dQ H vs ds->rS ds=true
 |_,_,.nil=>rfl
 |_,_,.cons a b=>by simp only[rS,ie];exact⟨cW.pI a,dQ.pI b⟩
end
mutual
theorem cW.inj:∀{v:ao.V}{d e:PyData},cW H v d->cW H v e->d=e
 |_,_,_,.bJ,.bJ=>rfl
 |_,_,_,.aM b,.aM _=>rfl
 |_,_,_,.int i,.int _=>rfl
 |_,_,_,.str x _ _,.str _ _ _=>rfl
 |_,_,_,.lst h _ t,.lst h' _ t'=>by rw[h]at h';cases h';rw[dQ.inj t t']
 |_,_,_,.tup h _ t,.tup h' _ t'=>by rw[h]at h';cases h';rw[dQ.inj t t']
 |_,_,_,.lst h _ _,.tup h' _ _=>by rw[h]at h';cases h'
 |_,_,_,.tup h _ _,.lst h' _ _=>by rw[h]at h';cases h'
theorem dQ.inj:∀{vs:aR}{ds es:fa},dQ H vs ds->dQ H vs es->ds=es
 |_,_,_,.nil,.nil=>rfl
 |_,_,_,.cons a b,.cons bR bI=>by rw[cW.inj a bR,dQ.inj b bI]
end
theorem dQ.len:∀{vs:aR}{ds:fa},dQ H vs ds->vs.length=ds.length
 |_,_,.nil=>rfl
 |_,_,.cons _ b=>by simp[dQ.len b]
theorem dQ.get:∀{vs:aR}{ds:fa}{i:Nat}{v:ao.V},dQ H vs ds->vs[i]?=some v->∃d,ds[i]?=some d/\cW H v d
 |_,_,_,_,.nil,e=>by simp at e
 |_,_,0,_,.cons a _,e=>by simp at e;subst e;exact⟨_,rfl,a⟩
 |_,_,i+1,v,.cons _ b,e=>by obtain⟨d,ai,aj⟩:=dQ.get (i:=i) (v:=v) b (by simpa using e);exact⟨d,by simpa using ai,aj⟩
theorem dQ.append:∀{vs ws:aR}{ds es:fa},dQ H vs ds->dQ H ws es->dQ H (vs++ws) (ds++es)
 |_,_,_,_,.nil,h=>h
 |_,_,_,_,.cons a b,h=>.cons a (dQ.append b h)
open Classical in
noncomputable def r3(H:af)(v:ao.V):PyData:=if h:∃d,cW H v d then YZ h else .none
theorem C0{d:PyData}(h:cW H v d):r3 H v=d:=by
 have q:∃d,cW H v d:=⟨d,h⟩
 unfold r3;rw[dif_pos q];exact cW.inj (Ie q) h
theorem Oe(f:PyData->Bool):∀{vs:aR}{ds:fa},dQ H vs ds->vs.map (λv=>V.aM (f (r3 H v)))=(ds.map f).map V.aM
 |_,_,.nil=>rfl
 |_,_,.cons a b=>by simp only[il];rw[C0 a,Oe f b]
noncomputable def qe:PyData->String
 |.none=>"NoneType"
 |.bool _=>"bool"
 |.int _=>"int"
 |.str _=>"str"
 |.list _=>"list"
 |.tuple _=>"tuple"
 |.dict _=>"dict"
theorem cW.ty{K:aQ}{d:PyData}(h:cW H v d):m6 K H v (.type (qe d)):=by
 cases h with
 |bJ=>exact .bJ
 |aM b=>exact .aM b
 |int i=>exact .int i
 |str x _ _=>exact .str x
 |lst h _ _=>exact .lst h
 |tup h _ _=>exact .tup h
noncomputable def o8(t c:String):Option Bool:=if(tH t==tH c)=true then some true else if Jr c=true then(afN t).map (·.contains (.type c))else none
theorem u2(K:aQ){t:String}(h:o8 t c=some b):jr K (.type t) (.type c)=some b:=h
noncomputable def isStr:PyData->Bool|.str _=>true|_=>false
noncomputable def isList:PyData->Bool|.list _=>true|_=>false
noncomputable def isTup:PyData->Bool|.tuple _=>true|_=>false
noncomputable def isBool:PyData->Bool|.bool _=>true|_=>false
noncomputable def Rx:PyData->Bool|.int _=>true|.bool _=>true|_=>false
theorem abN(d:PyData):o8 (qe d) "str"=some (isStr d):=by cases d<;>(show o8 _ _=some _;simp only[qe,isStr];decide+kernel)
theorem Qn(d:PyData):o8 (qe d) "list"=some (isList d):=by cases d<;>(show o8 _ _=some _;simp only[qe,isList];decide+kernel)
theorem Ú(d:PyData):o8 (qe d) "tuple"=some (isTup d):=by cases d<;>(show o8 _ _=some _;simp only[qe,isTup];decide+kernel)
theorem QH(d:PyData):o8 (qe d) "bool"=some (isBool d):=by cases d<;>(show o8 _ _=some _;simp only[qe,isBool];decide+kernel)
theorem abO(d:PyData):o8 (qe d) "int"=some (Rx d):=by cases d<;>(show o8 _ _=some _;simp only[qe,Rx];decide+kernel)
noncomputable def vq(c:Nat):Bool:=decide (97<=c)&&decide (c<=122)
noncomputable def nT:PyData->Bool
 |.str x=>decide (1<=x.length)&&decide (x.length<=8)&&x.cps.toList.all vq
 |_=>false
noncomputable def i8:List PyData->List Str
 |[]=>[]
 |.str x::r=>x::i8 r
 |_::r=>i8 r
noncomputable def wO:PyData->Bool
 |.list ds=>decide (ds.length<=12)&&ds.all nT&&decide (i8 ds).Nodup
 |_=>false
noncomputable def Û:PyData->Bool
 |.int _=>true
 |_=>false
noncomputable def uA(lo hi:Int):PyData->Bool
 |.int i=>decide (lo<=i)&&decide (i<=hi)
 |_=>false
noncomputable def inD(d:PyData)(ds:fa):Bool:=ds.any λz=>i2 z d
noncomputable def fX(hs:fa)(a b:PyData):Bool:=inD a hs&&inD b hs&&!i2 a b
noncomputable def pX(hs:fa):PyData->Bool
 |.tuple [a,b,t,m]=>fX hs a b&&uA 1 9 t&&uA 1 1000000000 m
 |_=>false
noncomputable def C1(hs:fa):PyData->Bool
 |.list ds=>decide (ds.length<=40)&&ds.all (pX hs)
 |_=>false
end c2
namespace c2
open PySem PySem.Spec PyProof.Rows ao b5 cQ
structure Jo where
 p:af->ao.V->Prop
 up:∀{H H':af}{v:ao.V},aB H H'->p H v->p H' v
noncomputable def afr(d:PyData):Jo:=⟨λH v=>cW H v d,λaz h=>h.same az⟩
section
variable{X:bx}{e a b:Expr}{es:hB}{pos ey:Pos}{xO:List (Option Jo)}{A B R:Jo}
theorem abP{H v i}(h:cW H v (.int i)):v=.int i:=by cases h;rfl
theorem Ry{H v ds}(h:cW H v (.list ds)):∃a xs,v=.ref a/\H a=some (.lst xs)/\xs.length<=100/\dQ H xs ds:=by cases h;exact⟨_,_,rfl,by assumption,by assumption,by assumption⟩
theorem abQ{H v ds}(h:cW H v (.tuple ds)):∃a xs,v=.ref a/\H a=some (.tup xs)/\xs.length<=100/\dQ H xs ds:=by cases h;exact⟨_,_,rfl,by assumption,by assumption,by assumption⟩
end
theorem aal{ys:ck}:∀{us:dk},cX (ys.map V.str) us->StrsAre us ys:=by
 induction ys with
 |nil=>intro us r;rw[I1]at r;cases r;exact .nil
 |cons n ns a5=>
  intro us r;rw[il]at r;cases r with
  |cons cq dV=>
   obtain⟨t,e⟩:=cq;subst e;exact .cons n t (a5 dV)
inductive rJoin(K:aQ)(x:ao.V)(xs:aR)(H:af)(Q:a4):Prop where
 |mk (z:_) (a:_) (ys:_) (aT:x=.str z) (aP:xs=[.ref a]) (bh:aJ K H a (ys.map V.str)) (cf:(ys.map (·.length)).sum+ys.length*z.length<=16777216) (cP:Q (.str (Txt.join z ys)) H)
theorem Ph{X:bx}:yj X "str.join" (rJoin X.K):=by intro pins s σ H x xs v us Q I bf rs h;obtain⟨z,a,ys,rfl,rfl,av,hz,q⟩:=h;obtain⟨t,rfl⟩:=bf;obtain⟨u,rfl,dF⟩:=vals1 rs;cases dF;obtain⟨its,r,pl,_⟩:=I.list av;exact join_list pl.isList (aal r) hz λt' k=>⟨.str _,H,I.tok k,⟨t',rfl⟩,q⟩
end c2
namespace b5
open PySem PySem.Spec PyProof.Rows ao Builtin Builtin.Str
theorem XR:∀l:List (Str×Tok),cX ((l.map (·.1)).map V.str) (strValues l)
 |[]=>.nil
 | (x,t)::r=>.cons ⟨t,rfl⟩ (XR r)
section
variable{X:bx}
noncomputable def abR:ao.V->List ao.V->af->a4->Prop:=λx xs H Q=>∃z y,x=.str z/\xs=[.str y]/\(y.length==0)=false/\z.length+2<=sizeLine/\∀p,H p=none->Q (.ref p) (upd H p (.lst ((Bm z y).map V.str)))
theorem Ü:yj X "str.split" abR:=by
 intro pins s σ H x xs v us Q I bf rs h;obtain⟨z,y,rfl,rfl,cb,hz,q⟩:=h;obtain⟨t,rfl⟩:=bf;obtain⟨u,rfl,t',rfl⟩:=vals1 rs;have fin:∀{l:List (Str×Tok)}{k:Nat},l.map (·.1)=Bm z y->l.length<=sizeLine->ih X pins σ Q (.ref s.heap.objs.size) {s with heap:=s.heap.push {cls:=.type "list",data:=.seq (strValues l).toArray},toks:=k}:=λ{l k}e au=>by refine⟨.ref _,_,I.MI (ys:=(Bm z y).map V.str) (by rw[<-e];exact XR l) ?_,rfl,q _ I.fresh⟩;rw[cj,<-e,cj];exact au
 have one:∀{a:Str×Tok},[a].length<=sizeLine:=λ{a}=>by show 1<=sizeLine;decide
 cases ai:(decide (z.length<y.length)||decide (strKind z<strKind y))
 .cases bE:(occurrences z y 0 z.length (z.length+1)).isEmpty
  .have aX:(partsBetween z (occurrences z y 0 z.length (z.length+1)) y.length).length<=sizeLine:=by rw[length_partsBetween];have aF:=StrLaws.occ_length_le_len z y 0 z.length (z.length+1);omega
   refine yH F.slot_str_split (Ds _ _ _) F.entry_str_split (F.args_str_split_2 _ _) (meets_str_split_sep z y t t' ai cb bE (by omega) aX) ?_;show wants _ _ _ {s with toks:=_,heap:=s.heap.push {cls:=.type "list",data:=.seq (strsFrom s.toks (partsBetween z (occurrences z y 0 z.length (z.length+1)) y.length)).toArray}};rw[strsFrom_eq];refine fin ((aif _ _).trans ((bz (ne_true_of_eq_false ai)).trans (bz (ne_true_of_eq_false bE))).symm) ?_;have:=ek tq (aif s.toks (partsBetween z (occurrences z y 0 z.length (z.length+1)) y.length));rw[cj]at this;omega
  .exact yH F.slot_str_split (Ds _ _ _) F.entry_str_split (F.args_str_split_2 _ _) (meets_str_split_not_found z y t t' ai cb bE)
    (fin (l:=[(z,t)]) ((bz (ne_true_of_eq_false ai)).trans (bO bE)).symm one)
 .exact yH F.slot_str_split (Ds _ _ _) F.entry_str_split (F.args_str_split_2 _ _) (meets_str_split_cannot_occur z y t t' ai)
   (fin (l:=[(z,t)]) (bO ai).symm one)
theorem ZD:jc X (.type "int") (λxs H Q=>∃z n,xs=[.str z]/\Ŵ z=some n/\z.length<=640/\Q (.int n) H):=by intro pins s σ H xs us Q I r h;obtain⟨z,n,rfl,aX,au,q⟩:=h;obtain⟨u,rfl,t,rfl⟩:=vals1 r;exact ali aX au ⟨.int n,H,I.tok _,⟨_,rfl⟩,q⟩
end
end b5
namespace c2
open PySem ao b5 Builtin Builtin.Str StrLaws
noncomputable def eO(y:cx):List cx->List Nat
 |[]=>[]
 |[p]=>p
 |p::r=>p++y++eO y r
noncomputable def xC(w:Nat):Nat->List cx->List Nat
 |_,[]=>[]
 |_,[_]=>[]
 |a,p::r=>(a+p.length)::xC w (a+p.length+w) r
section
variable{x y:cx}{c:Nat}
theorem GU{sub:Str}{hi limit:Nat}:∀(l:cx)(st:Array Nat×Nat),(∀i∈l,st.2<=i->i+sub.length<=hi->subAt s sub i=false)->∀r,(forIn (l++r) st (occBody s sub hi limit)).run=(forIn r st (occBody s sub hi limit)).run
 |[],_,_,_=>rfl
 |a::l,st,h,r=>by
  rw[â,IY];unfold occBody;rw[bz (λz=>by
   have:=h a (.head _) z.1.1.2 z.1.2;rw[this]at z;exact ei z.2)]
  exact GU l st (λi sf=>h i (.tail _ sf)) r
theorem aam{sub:Str}{hi limit a:Nat}{r:cx}{st:Array Nat×Nat}(ai:st.1.size<limit)(aj:st.2<=a)(bC:a+sub.length<=hi)(c5:subAt s sub a=true):
  (forIn (a::r) st (occBody s sub hi limit)).run=(forIn r (st.1.push a,a+sub.length) (occBody s sub hi limit)).run:=by rw[IY];unfold occBody;rw[bO ⟨⟨⟨ai,aj⟩,bC⟩,c5⟩];rfl
theorem Ox(x y:cx)(i:Nat):subAt (S x) (S y) i=((x.drop i).take y.length==y):=by rw[subAt_eq];simp[S,Jy]
theorem XS{d:Nat}{y:cx}:∀(ps:bt),ps≠[]->(∀p∈ps,d∉p)->∀(x:cx)(a:Nat)(st:Array Nat×Nat)(limit:Nat),a<=x.length->x.drop a=eO (d::y) ps->st.2<=a->st.1.size+x.length+1-a<=limit->
  (forIn (AN a (x.length+1-a)) st (occBody (S x) (S (d::y)) x.length limit)).run.1.toList=st.1.toList++xC (y.length+1) a ps
 |[],h,_,_,_,_,_,_,_,_,_=>bk rfl h
 |[p],_,ay,x,a,st,limit,av,e,hs,au=>by
  have dm:=GU (s:=S x) (sub:=S (d::y)) (hi:=x.length) (limit:=limit) (AN a (x.length+1-a)) st (λi sf ai aj=>?_) []
  .rw[vH]at dm;rw[dm];show st.1.toList=st.1.toList++[];rw[vH]
  .rw[dR,fV]at aj;rw[RL]at sf;rw[Ox];refine kk.mpr λz=>?_;have aT:=eq_of_beq z;have aP:x[i]?=some d:=by have:=ek (λl=>l[0]?) aT;simpa using this
   have bh:(x.drop a)[i-a]?=some d:=by rw[é];rw[show a+(i-a)=i by omega];exact aP
   rw[e]at bh;exact ay p (.head _) (f_ bh)
 |p::q::r,_,ay,x,a,st,limit,av,e,hs,au=>by
  have bB:x.drop a=p++(d::y)++eO (d::y) (q::r):=e;have Gb:x.length-a=p.length+(y.length+1)+(eO (d::y) (q::r)).length:=by have:=ek tq bB;simp only[RJ,eS,fV]at this;exact this
  have aiK:AN a (x.length+1-a)=AN a p.length++(a+p.length)::(AN (a+p.length+1) y.length++AN (a+p.length+(y.length+1)) (x.length+1-(a+p.length+(y.length+1)))):=by
   have aF:x.length+1-a=p.length+((y.length+(x.length+1-(a+p.length+(y.length+1))))+1):=by omega
   rw[aF,<-ó,List.range'_succ,<-ó];congr 4;omega
  have af4:∀i,a<=i->i<a+p.length->x[i]?≠some d:=λi ai aj z=>by
   have bh:(x.drop a)[i-a]?=some d:=by rw[é];rw[show a+(i-a)=i by omega];exact z
   rw[bB,qx,El (by omega)]at bh;exact ay p (.head _) (f_ bh)
  have oE:x.drop (a+p.length)=(d::y)++eO (d::y) (q::r):=by rw[<-IU,bB,qx,IV]
  have Kq:x.drop (a+p.length+(y.length+1))=eO (d::y) (q::r):=by rw[<-IU,oE];exact IV
  rw[aiK,GU _ _ (λi sf ai aj=>?_),aam (by omega) (by omega) (by rw[dR,fV];omega) ?_,GU _ _ (λi sf ai aj=>?_)]
  .rw[dR,fV];have a5:=XS (d:=d) (y:=y) (q::r) (by simp) (λgJ h'=>ay gJ (.tail _ h')) x (a+p.length+(y.length+1)) (st.1.push (a+p.length),a+p.length+(y.length+1)) limit (by omega) Kq (cL _) (by simp;omega);rw[a5];show(st.1.push (a+p.length)).toList++_=st.1.toList++(a+p.length)::xC (y.length+1) (a+p.length+(y.length+1)) (q::r);rw[Array.toList_push,qx];rfl
  .-- within aji glue
   rw[dR,fV]at ai;rw[RL]at sf;exfalso;have ai:a+p.length+(y.length+1)<=i:=ai;omega
  .rw[Ox,oE];simp
  .rw[RL]at sf;rw[Ox];refine kk.mpr λz=>?_;have aT:=eq_of_beq z;have aP:x[i]?=some d:=by have:=ek (λl=>l[0]?) aT;simpa using this
   exact af4 i sf.1 sf.2 aP
theorem Xe{d:Nat}{y:cx}:∀(ps:bt),ps≠[]->∀(x:cx)(a:Nat),a<=x.length->x.drop a=eO (d::y) ps->partsFrom (S x) (y.length+1) a (xC (y.length+1) a ps)=ps.map S
 |[],h,_,_,_,_=>bk rfl h
 |[p],_,x,a,av,e=>by have e:x.drop a=p:=e;show[strSub (S x) a (S x).length]=[S p];congr 1;apply Jx;apply DX.mp;rw[strSub_toList,dR];show(x.drop a).take (x.length-a)=p;rw[RO (by simp),e]
 |p::q::r,_,x,a,av,e=>by
  have bB:x.drop a=p++(d::y)++eO (d::y) (q::r):=e;have Gb:x.length-a=p.length+(y.length+1)+(eO (d::y) (q::r)).length:=by have:=ek tq bB;simp only[RJ,eS,fV]at this;exact this
  have Kq:x.drop (a+p.length+(y.length+1))=eO (d::y) (q::r):=by
   have oE:x.drop (a+p.length)=(d::y)++eO (d::y) (q::r):=by rw[<-IU,bB,qx,IV]
   rw[<-IU,oE];exact IV
  show strSub (S x) a (a+p.length)::partsFrom (S x) (y.length+1) (a+p.length+(y.length+1)) (xC (y.length+1) (a+p.length+(y.length+1)) (q::r))=S p::(q::r).map S;rw[Xe (q::r) (by simp) x _ (by omega) Kq];congr 1;apply Jx;apply DX.mp;rw[strSub_toList];show(x.drop a).take (a+p.length-a)=p;rw[show a+p.length-a=p.length by omega,bB,qx];exact List.take_left
theorem aan{d:Nat}{y:cx}{p q:cx}{r:bt}:y.length+1<=(eO (d::y) (p::q::r)).length:=by show _<=(p++(d::y)++eO (d::y) (q::r)).length;rw[eS,eS,fV];omega
theorem SY{l:cx}(h:∀c∈l,c<256):Str.strKind (S l)=1:=by
 unfold Str.strKind;rw[bO];show l.toArray.all (λc=>decide (c<256))=true;rw[List.all_toArray,rL]
 exactλc ar=>b4 (h c ar)
theorem Yo{d:Nat}{y:cx}{ps:bt}(hI:ps≠[])(ay:∀p∈ps,d∉p)(af8:∀c∈eO (d::y) ps,c<256)(cb:∀c∈d::y,c<256):Bm (S (eO (d::y) ps)) (S (d::y))=ps.map S:=by
 have a8:=XS (d:=d) (y:=y) ps hI ay (eO (d::y) ps) 0 (#[],0) ((eO (d::y) ps).length+1) (ej _) rfl (cL _) (by simp);have ai:=Xe (d:=d) (y:=y) ps hI (eO (d::y) ps) 0 (ej _) rfl;have aF:occurrences (S (eO (d::y) ps)) (S (d::y)) 0 (S (eO (d::y) ps)).length ((S (eO (d::y) ps)).length+1)=xC (y.length+1) 0 ps:=by rw[occ_eq,dR];exact a8
 unfold Bm;rw[aF,partsBetween_eq,dR,dR];cases ps with
 |nil=>exact bk rfl hI
 |cons p r=>
  cases r with
  |nil=>
   split
   .rfl
   .rfl
  |cons q r=>
   have:=aan (d:=d) (y:=y) (p:=p) (q:=q) (r:=r);rw[bz,bz]
   .exact ai
   .show¬(xC (y.length+1) 0 (p::q::r)).isEmpty=true;exact ei
   .rw[SY af8,SY cb,fV];simp;omega
theorem PL(y:cx):∀ps:List cx,Txt.join (S y) (ps.map S)=S (eO y ps):=by
 have h:∀ps:List cx,Str.join (S y) (ps.map S)=S (eO y ps):=λps=>by
  induction ps with
  |nil=>rfl
  |cons p r a5=>
   cases r with
   |nil=>rfl
   |cons q r=>
    show S p++S y++Str.join (S y) ((q::r).map S)=S (p++y++eO y (q::r));rw[a5];apply Jx;apply DX.mp;simp only[Str.cps_append,Array.toList_append]
 exactλps=>(glued_eq_join _ _).trans (h ps)
noncomputable def cB(m:Nat):List Nat:=(vP 10 m).map YX
theorem nW(m:Nat):bK (toString ((m:Nat):Int))=S (cB m):=by apply Jx;apply DX.mp;exact alk m
theorem xk{m c:Nat}(h:c∈cB m):48<=c/\c<=57:=by obtain⟨ch,iA,rfl⟩:=cw.mp h;have:=Nat.isDigit_of_mem_toDigits (b:=10) (by decide) (by decide) iA;unfold Char.isDigit at this;simp only[ge_iff_le,ie,decide_eq_true_eq]at this;exact⟨this.1,this.2⟩
theorem Ec(m:Nat):cB m≠[]:=λe=>by
 have h:=List.map_eq_nil_iff.mp e;by_cases hm:m<10
 .rw[R' hm]at h;cases h
 .have t:vP 10 (m/10)++vP 10 (m%10)=vP 10 (10*(m/10)+m%10):=Ĝ (by decide) (by omega) (by omega);rw[ĕ,h]at t;have:=ek tq t;rw[R' (Nat.mod_lt m (by decide)),eS]at this;simp at this
theorem sI{m:Nat}(h:m<10 ^ 10):(cB m).length<=10:=by have:=alm (n:=(m:Int)) (by omega) (by omega);rw[nW,dR]at this;exact this
theorem aao(m:Nat):∀r,cB m=48::r->m=0:=by
 induction m using R8 with
 |_ m a5=>
  intro r e;by_cases hm:m<10
  .have:m=0\/m=1\/m=2\/m=3\/m=4\/m=5\/m=6\/m=7\/m=8\/m=9:=by omega
   unfold cB at e;rw[R' hm]at e;rcases this with rfl|rfl|rfl|rfl|rfl|rfl|rfl|rfl|rfl|rfl
   .rfl
   all_goals (simp at e)
   all_goals (exact bk e.1 (by decide))
  .have t:vP 10 (m/10)++vP 10 (m%10)=vP 10 (10*(m/10)+m%10):=Ĝ (by decide) (by omega) (by omega);rw[ĕ]at t;unfold cB at e;rw[<-t,fk]at e;have aX:=Ec (m/10);have aG:cB (m/10)++(vP 10 (m%10)).map YX=48::r:=e;cases hd:cB (m/10)with
   |nil=>exact bk hd aX
   |cons a s=>
    rw[hd]at aG;have aS:a=48:=(à aG).1;subst aS;have:=a5 (m/10) (by omega) s hd;omega
theorem aap:cB 0=[48]:=by decide
theorem Ý{m:Nat}(h:m<10 ^ 10):Ŵ (S (cB m))=some (m:Int):=by rw[<-nW];exact alj (by omega) (by omega)
end
end c2
namespace b5
open PySem PySem.Spec PyProof.Rows ao
theorem abS{K:aQ}(h:cG K H1 a xs)(k:∀H',aB H1 H'->cG K H' a xs):rY (AA K a) H1 xs:=λH' az=>
 ⟨⟨xs,k H' az,cL _⟩,λi hi=>⟨xs,xs[i],k H' az,by simp[hi]⟩,λi x ah _ y=>⟨y.1,y.2 xs (k H' az)⟩⟩
section
variable{X:bx}{e:Expr}{te:TE}{pos ey:Pos}{lo hi:Option Expr}{du z3:e2}
theorem Gg(is:jM):∀j,GC (λi=>is.getD i 0) j=(is.take j).sum
 |0=>rfl
 |j+1=>by
  show GC _ j+is.getD j 0=_;rw[Gg is j,yd,ô];congr 1;rw[eb];cases is[j]? with
  |none=>rfl
  |some x=>show x=x+0;omega
theorem abT:h0 "sum"=some (.builtin "sum"):=by decide+kernel
theorem I5:h0 "min"=some (.builtin "min"):=by decide+kernel
theorem Ta:h0 "max"=some (.builtin "max"):=by decide+kernel
theorem ù(ar:X.calm=true):jc X (.builtin "sum") (λxs H Q=>∃(p:Addr)(is:jM),xs=[.ref p]/\aJ X.K H p (is.map V.int)/\(∀x∈is,0<=x)/\is.sum<2 ^ 63/\Q (.int is.sum) H):=by
 intro pins s σ H xs us Q I r h;obtain⟨p,is,rfl,bo,a8,hm,q⟩:=h;obtain⟨u,rfl,dF⟩:=vals1 r;cases dF;obtain⟨its,cc,pl,hz⟩:=I.list bo;have hlen:is.length=its.length:=by have:=cc.length;rwa [cj]at this
 obtain⟨o,n,oH,_⟩:=id pl;have hI:p≠s.heap.objs.size:=eA (c' oH);have dh:X.A.in1.handled=none:=I.ok.hd ar;have Ws:∀(l:jM),(∀x∈l,0<=x)->0<=l.sum:=λl=>by
  induction l with
  |nil=>intro _;exact nq _
  |cons a r a5=>
   intro h;rw[Er];have:=h a (.head _);have:=a5 λx ax=>h x (.tail _ ax);omega
 have W7:∀j,0<=(is.take j).sum/\(is.take j).sum<=is.sum:=λj=>by
  have e:is.sum=(is.take j).sum+(is.drop j).sum:=by rw[<-ô,List.take_append_drop]
  have:=Ws (is.take j) λx ax=>a8 x (ñ ax);have:=Ws (is.drop j) λx ax=>a8 x (ð ax);omega
 refine call_sum_walk (u9 pl.isList ?_);refine⟨s.heap.objs.size,[s.heap.objs.size,p],[s.heap.objs.size],its.toArray.size,_,_,λi=>is.getD i 0,rfl,yB dh _ p hI its.toArray,⟨⟨_,eY _ rfl,rfl,rfl⟩,pl.isList.push _⟩,?_,?_,?_,λh' aH t' k=>?_⟩
 .intro b ae;have dr:p<s.heap.objs.size:=c' oH;have eu:(s.heap.push ({cls:=.type "list_iterator",data:=.fields #[cg p,jg 0]}:Obj)).objs.size=s.heap.objs.size+1:=by simp[Heap.push]
  simp only[dX,di,or_false]at ae;have kK:b<s.heap.objs.size+1:=by
   rcases ae with h|h<;>rw[h]
   .exact vO _
   .exact vN dr
  refine Nat.lt_of_lt_of_eq kK ?_;simp[Heap.push]
 .intro i v eV;have BR:its[i]?=some v:=by simpa using eV
  have hi:i<its.length:=(gn.mp BR).1;have ae:(is.map V.int)[i]?=some (V.int (is.getD i 0)):=by rw[d0,dW (by omega:i<is.length)];simp[eb,hlen▸hi]
  obtain⟨u',bB,cT⟩:=cc.get ae;rw[BR]at bB;cases bB;exact cT
 .intro j bu;rw[gp,<-hlen]at bu;have t1:=W7 j;have fh:=W7 (j+1);have aF:=Gg is j;have aG:=Gg is (j+1);have cR:GC (λi=>is.getD i 0) (j+1)=GC (λi=>is.getD i 0) j+is.getD j 0:=rfl;have ai:0<=is.getD j 0:=by rw[eb,dW bu];exact a8 _ (qy bu)
  refine⟨⟨?_,?_⟩,?_,?_⟩
  .show -(2 ^ 63)<=is.getD j 0;omega
  .show is.getD j 0<2 ^ 63;omega
  .rw[aG];omega
  .rw[aG];omega
 .have e:GC (λi=>is.getD i 0) its.toArray.size=is.sum:=by rw[Gg,gp,<-hlen,ye]
  rw[e];exact⟨.int is.sum,H,I.kept λb ob z=>k b ob (by simpa using eA (c' z)) (c9 _ z),⟨_,rfl⟩,q⟩
noncomputable abbrev rC(n:Nat):List Addr:=[n+4,n+2,n+3,n,n+1]
theorem Dw{n b:Nat}:b∈rC n↔b=n+4\/b=n+2\/b=n+3\/b=n\/b=n+1:=by simp[rC]
theorem aaq:h0 "zip"=some (.type "zip"):=by decide+kernel
end
structure qs(prog:cA)(w:bU)(i l:Addr)(S:Nat->Heap->Prop)(xs:ks):Prop where
 ext:∀{k:Nat}{h h':Heap},S k h->(∀o,h.get? i=some o->h'.get? i=some o)->(∀o,h.get? l=some o->h'.get? l=some o)->S k h'
 lt:∀{k:Nat}{h:Heap},S k h->i<h.objs.size
 item:∀{A:dn}{E:b6}{s:aO}{k:Nat}{x:Value}{Q:b6},S k s.heap->xs[k]?=some x->(∀h',S (k+1) h'->iK i s.heap h'->Q x {s with heap:=h'})->aN (a_ prog w) A (tf (.ref i)) Q E s
 stop:∀{A:dn}{E:b6}{s:aO}{k:Nat}{Q:b6},A.handled=none->S k s.heap->xs[k]?=none->(∀h' e,ID i s.heap h'->(∃o,h'.get? e=some o/\o.cls=.type "StopIteration")->E (.ref e) {s with heap:=h'})->aN (a_ prog w) A (tf (.ref i)) Q E s
theorem ú(ne:l≠i):qs prog w i l (λk h=>h.IsListIter i l k/\h.IsList l xs) xs where
 ext:=λ⟨a,b⟩ai aj=>⟨a.at λo e=>ai o e,let⟨o,e,r⟩:=b;⟨o,aj o e,r⟩⟩
 lt:=λ⟨⟨_,e,_⟩,_⟩=>c' e
 item:=λ⟨a,b⟩ax q=>wpAny_nextOf_list_item a b ax λh' bR eE=>q h' ⟨bR,b.extBut eE.extBut ne⟩ eE
 stop:=λdh⟨a,b⟩ax q=>wpAny_nextOf_list_end dh a b ax q
section
variable{prog:cA}{w:bU}
theorem abU{E:b6}{s:aO}{t:Addr}{i:Nat}{items:ks}{Q:b6}(hit:Ay s.heap it t i)(cO:tn s.heap t items)(ax:items[i]?=some x)(et:∀h',Ay h' it t (i+1)->iK it s.heap h'->Q x {s with heap:=h'}):aN (a_ prog w) A (tf (.ref it)) Q E s:=by obtain⟨o,aI,ar,hd⟩:=id hit;obtain⟨ol,iV,_,nl,ui⟩:=cO;unfold tf;refine aq (xJ (name:=bK "__next__") hit.typeIs NW (m_ NW hit.typeIs afC ?_ (afd _)));change aN _ _ (r8 (.ref it) 0 >>=_) _ _ s;refine aq (mf aI hd (x:=.ref t) rfl ?_);change aN _ _ (if(cg t==eT)=true then _ else _) _ _ s;rw[bz (λz:(cg t==eT)=true=>ei z)];change aN _ _ (r8 (.ref it) 1 >>=_) _ _ s;refine aq (mf aI hd (x:=.int i 0) rfl ?_);change aN _ _ (n6 (.ref t) >>=_) _ _ s;refine aq (kj iV ui ?_);simp only[qw,ax];refine aq (HJ aI hd (by simp) (ba ⟨x,rfl,ba (et _ ⟨_,nj _ aI (ĭ (Jf hd _)),(ī ..).trans ar,?_⟩ (tk ..))⟩));rw[Jf hd];simp[jg]
theorem aar{A:dn}{E:b6}{s:aO}{t:Addr}{i:Nat}{items:ks}{Q:b6}(dh:A.handled=none)(hit:Ay s.heap it t i)(cO:tn s.heap t items)(ax:items[i]?=none)(e9:∀h' e,ID it s.heap h'->(∃o,h'.get? e=some o/\o.cls=.type "StopIteration")->E (.ref e) {s with heap:=h'}):aN (a_ prog w) A (tf (.ref it)) Q E s:=by
 obtain⟨o,aI,ar,hd⟩:=id hit;obtain⟨ol,iV,_,nl,ui⟩:=cO;unfold tf;refine aq (xJ (name:=bK "__next__") hit.typeIs NW (m_ NW hit.typeIs afC ?_ (afd _)));change aN _ _ (r8 (.ref it) 0 >>=_) _ _ s;refine aq (mf aI hd (x:=.ref t) rfl ?_);change aN _ _ (if(cg t==eT)=true then _ else _) _ _ s;rw[bz (λz:(cg t==eT)=true=>ei z)];change aN _ _ (r8 (.ref it) 1 >>=_) _ _ s;refine aq (mf aI hd (x:=.int i 0) rfl ?_);change aN _ _ (n6 (.ref t) >>=_) _ _ s;refine aq (kj iV ui ?_);simp only[qw,ax];refine aq (u_ (aq (HJ aI hd (by simp) ?_)));change aN _ _ (CI (.type "StopIteration") [] >>=_) _ _ _;refine aq ?_;simp only[CI,newTuple];refine aq (og (aq (m:=BJ _ _) (oh (a:=eT) (by first|rfl|(simp only[BJ];rfl)) (og ?_ (by size_fits)))) (by size_fits));simp only[raiseNew];refine aq (Xy ?_)
 first|rw[show A.in1.handled=none from dh]|rw[dh]
 exact aq (ba (XF (e9 _ _ (((tk ..).extBut.push _).push _) ⟨_,eY _ rfl,rfl⟩)))
theorem QI{t:Addr}(ne:t≠i):qs prog w i t (λk h=>Ay h i t k/\tn h t xs) xs where
 ext:=λ⟨⟨o,e,r⟩,⟨rj,aG,dV⟩⟩ai aj=>⟨⟨o,ai o e,r⟩,⟨rj,aj rj aG,dV⟩⟩
 lt:=λ⟨⟨_,e,_⟩,_⟩=>c' e
 item:=λ⟨a,b⟩ax q=>abU a b ax λh' bR eE=>q h' ⟨bR,let⟨o,e,r⟩:=b;⟨o,eE.extBut _ _ ne e,r⟩⟩ eE
 stop:=λdh⟨a,b⟩ax q=>aar dh a b ax q
variable{A:dn}{E:b6}{s:aO}{z el e2 ja ll dr eu:Addr}{pw vV:Nat->Heap->Prop}{xs ys:ks}{k1 k2:Nat}{a b:Value}
theorem qs.out{S:Nat->Heap->Prop}{k:Nat}(D:qs prog w i l S eD)(st:S k h)(eE:iK c h h')(cn:i≠c)(cC:l≠c):S k h':=D.ext st (λo e=>eE.extBut _ _ cn e) λo e=>eE.extBut _ _ cC e
theorem aas{Q:b6}(Z:J8 z el e2 ja ll dr eu)(hh:qs prog w ja dr pw xs)(kl:qs prog w ll eu vV ys)(hz:mx s.heap z el e2 .none)(j8:jq s.heap el (.ref ja) (.ref ll))(lh:jq s.heap e2 a b)(ai:pw k1 s.heap)(aj:vV k2 s.heap)(ax:xs[k1]?=some x)(cb:ys[k2]?=some y)(et:∀h',mx h' z el e2 (jg s.heap.objs.size)->jq h' e2 x y->pw (k1+1) h'->vV (k2+1) h'->jq h' s.heap.objs.size x y->(∀c o,c≠z->c≠e2->c≠ja->c≠ll->s.heap.get? c=some o->h'.get? c=some o)->Q (.ref s.heap.objs.size) {s with heap:=h'}):
  aN (a_ prog w) A (Builtin.«zip.__next__» ⟨[.ref z],[]⟩) (λfin s'=>∃v,fin=.done (.ret v)/\Q v s') E s:=by
 change aN _ _ (r8 (.ref z) 2 >>=_) _ _ _;refine aq (mf hz rfl (x:=.bool false) rfl ?_);change aN _ _ (r8 (.ref z) 3 >>=_) _ _ _;refine aq (mf hz rfl (x:=.ref el) rfl (aq (kj j8 rfl ?_)));change aN _ _ (Ia (.ref z) >>=_) _ _ _;refine aq ?_;unfold Ia;refine aq (mf hz rfl (x:=.none) rfl (ba ?_));simp only[if_true];refine aq (u_ (aq (mf hz rfl (x:=.ref e2) rfl (aq (sW hz (by simp) λg1 aT s1=>aq ?_)))));have aT:mx g1 z el e2 .ellipsis:=aT;simp only[ö,ø,IY,ç];refine aq (aq (XC ?_));change aN _ _ (tf (.ref ja) >>=_) _ _ _;refine aq (hh.item (hh.out ai s1 Z.i1z Z.l1z) ax λg2 fJ s2=>ba ?_);have fh:jq g2 e2 a b:=s2.extBut _ _ Z.TOi1 (s1.extBut _ _ Z.TOz lh);refine aq (kj fh rfl (aq (aj3 fh λg3 t3 aW=>aq (jI (ba ?_)))));have t3:jq g3 e2 x b:=t3;refine aq (aq (XC ?_));change aN _ _ (tf (.ref ll) >>=_) _ _ _;refine aq (kl.item (kl.out (kl.out (kl.out aj s1 Z.i2z Z.l2z) s2 Z.i12.symm Z.l2i1) aW Z.TOi2.symm Z.l2TO) cb λyV fy cK=>ba ?_);have WZ:jq yV e2 x b:=cK.extBut _ _ Z.TOi2 t3;refine aq (kj WZ rfl (aq (aj3 WZ λjA Ho dY=>aq (jI (ba (ba ?_))))));have Ho:jq jA e2 x y:=Ho;refine aq (kj Ho rfl (aq (XB ?_)));have hY:jA.objs.size=s.heap.objs.size:=by rw[dY.1,cK.1,aW.1,s2.1,s1.1]
 have cP:mx jA z el e2 .ellipsis:=dY.extBut _ _ Z.TOz.symm (cK.extBut _ _ Z.i2z.symm (aW.extBut _ _ Z.TOz.symm (s2.extBut _ _ Z.i1z.symm aT)));have old:∀c o,c≠z->c≠e2->c≠ja->c≠ll->s.heap.get? c=some o->jA.get? c=some o:=λc o k9 gY pF Kg e=>dY.extBut _ _ gY (cK.extBut _ _ Kg (aW.extBut _ _ gY (s2.extBut _ _ pF (s1.extBut _ _ k9 e))));have aF:pw (k1+1) jA:=hh.out (hh.out (hh.out fJ aW Z.TOi1.symm Z.l1TO) cK Z.i12 Z.l1i2) dY Z.TOi1.symm Z.l1TO;have aG:vV (k2+1) jA:=kl.out fy dY Z.TOi2.symm Z.l2TO;have o_:z<jA.objs.size:=c' cP;change aN _ _ (YM (.ref z) (.ref jA.objs.size) >>=_) _ _ _;refine aq ?_;unfold YM;have dM:mx (jA.push {cls:=.type "tuple",data:=.seq #[x,y]}) z el e2 .ellipsis:=c9 _ cP;refine aq (sW dM (by simp) λaf2 gk ke=>?_);have gk:mx af2 z el e2 (jg jA.objs.size):=gk;refine sW gk (by simp) λFv ic jh=>?_;have ic:mx Fv z el e2 (jg jA.objs.size):=ic;have up:∀c o,c≠z->jA.get? c=some o->Fv.get? c=some o:=λc o n e=>jh.extBut _ _ n (ke.extBut _ _ n (c9 _ e));have W0:jq Fv jA.objs.size x y:=jh.extBut _ _ (tu o_) (ke.extBut _ _ (tu o_) (eY _ rfl));rw[hY]at ic W0;refine ba ⟨_,rfl,?_⟩;change Q (.ref jA.objs.size) _;rw[hY];exact et Fv ic (up _ _ Z.TOz Ho) (hh.ext aF (λo e=>up _ o Z.i1z e) λo e=>up _ o Z.l1z e) (kl.ext aG (λo e=>up _ o Z.i2z e) λo e=>up _ o Z.l2z e) W0 λc o k9 gY pF Kg e=>up c o k9 (old c o k9 gY pF Kg e)
theorem abV{Q:Fin->aO->Prop}(dh:A.handled=none)(Z:J8 z el e2 ja ll dr eu)(hh:qs prog w ja dr pw xs)(hz:mx s.heap z el e2 .none)(j8:jq s.heap el (.ref ja) (.ref ll))(lh:jq s.heap e2 a b)(ai:pw k1 s.heap)(ax:xs[k1]?=none)(e9:∀h' e,(∀c o,c≠z->c≠ja->s.heap.get? c=some o->h'.get? c=some o)->(∃o,h'.get? e=some o/\o.cls=.type "StopIteration")->E (.ref e) {s with heap:=h'}):
  aN (a_ prog w) A (Builtin.«zip.__next__» ⟨[.ref z],[]⟩) Q E s:=by
 change aN _ _ (r8 (.ref z) 2 >>=_) _ _ _;refine aq (mf hz rfl (x:=.bool false) rfl ?_);change aN _ _ (r8 (.ref z) 3 >>=_) _ _ _;refine aq (mf hz rfl (x:=.ref el) rfl (aq (kj j8 rfl ?_)));change aN _ _ (Ia (.ref z) >>=_) _ _ _;refine aq ?_;unfold Ia;refine aq (mf hz rfl (x:=.none) rfl (ba ?_));simp only[if_true];refine aq (u_ (aq (mf hz rfl (x:=.ref e2) rfl (aq (sW hz (by simp) λg1 aT s1=>aq ?_)))));have aT:mx g1 z el e2 .ellipsis:=aT;simp only[ö,ø,IY,ç];refine aq (aq (XC ?_));change aN _ _ (tf (.ref ja) >>=_) _ _ _;refine aq (hh.stop dh (hh.out ai s1 Z.i1z Z.l1z) ax λg2 e s2 he=>?_);obtain⟨rk,LW,Va⟩:=he;have aP:mx g2 z el e2 .ellipsis:=s2 _ _ Z.i1z.symm aT;have Gr:e≠z:=λx=>by subst x;rw[aP]at LW;cases LW;simp at Va
 exact sW aP (by simp) λg3 _ aW=>e9 g3 e (λc o k9 pF x=>aW.extBut _ _ k9 (s2 _ _ pF (s1.extBut _ _ k9 x))) ⟨rk,aW.extBut _ _ Gr LW,Va⟩
theorem aat{Q:Option Value->aO->Prop}(Z:J8 z el e2 ja ll dr eu)(hh:qs prog w ja dr pw xs)(kl:qs prog w ll eu vV ys)(hz:mx s.heap z el e2 .none)(j8:jq s.heap el (.ref ja) (.ref ll))(lh:jq s.heap e2 a b)(ai:pw k1 s.heap)(aj:vV k2 s.heap)(ax:xs[k1]?=some x)(cb:ys[k2]?=some y)(et:∀h',mx h' z el e2 (jg s.heap.objs.size)->jq h' e2 x y->pw (k1+1) h'->vV (k2+1) h'->jq h' s.heap.objs.size x y->(∀c o,c≠z->c≠e2->c≠ja->c≠ll->s.heap.get? c=some o->h'.get? c=some o)->Q (some (.ref s.heap.objs.size)) {s with heap:=h'}):
  aN (a_ prog w) A (gT (.ref z)) Q E s:=by
 have hH:s.TypeIs (.ref z) "zip":=⟨_,hz,rfl⟩
 unfold gT;exact aq (xI (xJ (name:=bK "__next__") hH F.slot_zip_next (m_ F.slot_zip_next hH F.entry_zip_next
   (aas Z hh kl hz j8 lh ai aj ax cb λh' a1 a2 fN hn pz adK=>ba (et h' a1 a2 fN hn pz adK)) (F.args_zip_next_1 _))))
theorem aau{Q:Option Value->aO->Prop}(dh:A.handled=none)(Z:J8 z el e2 ja ll dr eu)(hh:qs prog w ja dr pw xs)(hz:mx s.heap z el e2 .none)(j8:jq s.heap el (.ref ja) (.ref ll))(lh:jq s.heap e2 a b)(ai:pw k1 s.heap)(ax:xs[k1]?=none)(et:∀h',(∀c o,c≠z->c≠ja->s.heap.get? c=some o->h'.get? c=some o)->Q none {s with heap:=h'}):aN (a_ prog w) A (gT (.ref z)) Q E s:=by
 have hH:s.TypeIs (.ref z) "zip":=⟨_,hz,rfl⟩
 unfold gT;refine aq (xI (xJ (name:=bK "__next__") hH F.slot_zip_next (m_ F.slot_zip_next hH F.entry_zip_next (abV dh Z hh hz j8 lh ai ax λh' e aD he=>?_) (F.args_zip_next_1 _))));obtain⟨o,aI,ar⟩:=he;exact aq (Xz (T:="StopIteration") (b:=true) ⟨o,aI,ar⟩ VI (ba (et _ aD)))
noncomputable abbrev DV(t:Addr):Obj:={cls:=.type "tuple_iterator",data:=.fields #[.ref t,.int 0 0]}
noncomputable abbrev akt(l:Addr):Obj:={cls:=.type "list_iterator",data:=.fields #[.ref l,.int 0 0]}
noncomputable abbrev DS(h:Heap)(t l:Addr):Heap:=(h.push (DV t)).push (akt l)
noncomputable abbrev DT(h:Heap)(t l:Addr):Heap:=(DS h t l).push {cls:=.type "tuple",data:=.seq #[.ref h.objs.size,.ref (h.push (DV t)).objs.size]}
noncomputable abbrev DU(h:Heap)(t l:Addr):Heap:=(DT h t l).push {cls:=.type "tuple",data:=.seq #[.none,.none]}
noncomputable abbrev Ak(h:Heap)(t l:Addr):Heap:=(DU h t l).push {cls:=.type "zip",data:=.fields #[.none,.bool false,.bool false,.ref (DS h t l).objs.size,.ref (DT h t l).objs.size]}
end
theorem abW(t l:Addr)(xs ys:ks):
  Meets (Builtin.«zip.__new__» ⟨[.type "zip",.ref t,.ref l],[]⟩) (λ_ R s=>tn s.heap t xs/\s.heap.IsList l ys/\R (.ok (.ret (.ref (DU s.heap t l).objs.size))) {s with heap:=Ak s.heap t l}):=
 .of_wp λprog w A R s h=>by
  obtain⟨ay,g,d,aH,os⟩:=s;obtain⟨iB,wD,h⟩:=h;have nR:=sub_zip;have agg:tn (Shared.heap ⟨ay,g,d,aH,os⟩) t xs:=iB;have agh:Heap.IsList (Shared.heap ⟨ay.push (DV t),g,d,aH,os⟩) l ys:=Heap.IsList.push wD _
  wp_walk using iter_tuple agg,u9 agh
  exact⟨_,rfl,h⟩
section
variable{prog:cA}{w:bU}{A:dn}{E:b6}{s:aO}
theorem ZE{t:Addr}{Q:b6}(iB:tn s.heap t xs)(wD:s.heap.IsList l ys)(h:∀h',mx h' (s.heap.objs.size+4) (s.heap.objs.size+2) (s.heap.objs.size+3) .none->jq h' (s.heap.objs.size+2) (.ref s.heap.objs.size) (.ref (s.heap.objs.size+1))->
   jq h' (s.heap.objs.size+3) .none .none->Ay h' s.heap.objs.size t 0->h'.IsListIter (s.heap.objs.size+1) l 0->(∀c o,s.heap.get? c=some o->h'.get? c=some o)->Q (.ref (s.heap.objs.size+4)) {s with heap:=h'}):
  aN (a_ prog w) A (call (.type "zip") [.ref t,.ref l]) Q E s:=by
 refine callType_new F.called_zip (by decide) (F.typeCall_zip_2 _ _) (F.newCall_zip_2 _ _) (λobj=>F.args_object_init_3 obj _ _) F.entry_zip_new (abW t l xs ys) ⟨iB,wD,?_⟩;have aT:(s.heap.push (DV t)).objs.size=s.heap.objs.size+1:=pf ..;have aP:(DS s.heap t l).objs.size=s.heap.objs.size+2:=by rw[pf,aT]
 have bh:(DT s.heap t l).objs.size=s.heap.objs.size+3:=by rw[pf,aP]
 have cf:(DU s.heap t l).objs.size=s.heap.objs.size+4:=by rw[pf,bh]
 have uH:=λ{c:Addr}{o:Obj}(e:(DU s.heap t l).get? c=some o)=>c9 {cls:=.type "zip",data:=.fields #[.none,.bool false,.bool false,.ref (DS s.heap t l).objs.size,.ref (DT s.heap t l).objs.size]} e;have jA:(Ak s.heap t l).get? (DU s.heap t l).objs.size=some _:=eY _ rfl;have yV:(Ak s.heap t l).get? (DT s.heap t l).objs.size=some _:=uH (eY _ rfl);have g3:(Ak s.heap t l).get? (DS s.heap t l).objs.size=some _:=uH (c9 _ (eY _ rfl));have g2:(Ak s.heap t l).get? (s.heap.push (DV t)).objs.size=some _:=uH (c9 _ (c9 _ (eY _ rfl)));have g1:(Ak s.heap t l).get? s.heap.objs.size=some _:=uH (c9 _ (c9 _ (c9 _ (eY _ rfl))));show _/\_;rw[aP,bh,cf]at jA;rw[aT,aP]at g3;rw[bh]at yV;rw[aT]at g2;rw[cf];exact⟨⟨_,jA,rfl⟩,h _ jA g3 yV ⟨_,g1,rfl,rfl⟩ ⟨_,g2,rfl,rfl⟩ λc o x=>uH (c9 _ (c9 _ (c9 _ (c9 _ x))))⟩
structure Bp(n dr eu:Nat)(i:Nat)(f0:Value)(h:Heap):Prop where
 hz:mx h (n+4) (n+2) (n+3) f0
 j8:jq h (n+2) (.ref n) (.ref (n+1))
 lh:∃a b,jq h (n+3) a b
 ai:Ay h n dr i
 aj:h.IsListIter (n+1) eu i
theorem Bp.keep{n dr eu:Nat}{i:Nat}{h h':Heap}(z:Bp n dr eu i f0 h)(k:∀b∈rC n,∀o,h.get? b=some o->h'.get? b=some o):Bp n dr eu i f0 h':=by obtain⟨hz,j8,⟨a,b,lh⟩,ai,aj⟩:=z;exact⟨k _ (by simp) _ hz,k _ (by simp) _ j8,⟨a,b,k _ (by simp) _ lh⟩,(let⟨o,e,r⟩:=ai;⟨o,k _ (by simp) o e,r⟩),aj.at λo e=>k _ (by simp) o e⟩
noncomputable def Az(K:aQ)(a b:Nat):gm:=
 ⟨λi H=>∃xs ys x y,cG K H a xs/\aJ K H b ys/\xs[i]?=some x/\ys[i]?=some y,
 λi H u H'=>∃p x y,H p=none/\u=.ref p/\(∀xs,cG K H a xs->xs[i]?=some x)/\(∀ys,aJ K H b ys->ys[i]?=some y)/\H'=upd H p (.tup [x,y]),
 λi H=>∃xs ys,cG K H a xs/\aJ K H b ys/\xs.length<=i⟩
end
theorem ZF{K:aQ}{k:Nat}(n a b:Nat)(a1:a<n)(a2:b<n):
  Turn P w K (.Tuple elts k pos) (Az K a b) (rC n) (n+4) (λi h=>Bp n a b i .none h)where
 mem:=by simp
 obj:=λi h st d hd=>by
  obtain⟨hz,j8,⟨bW,aA,lh⟩,⟨iZ,aF,k9,fJ⟩,⟨rj,aG,gY,fy⟩⟩:=st;rcases Dw.mp hd with rfl|rfl|rfl|rfl|rfl
  .exact⟨_,hz,λv z=>by
    have cZ:D3 _=xR v:=z;cases cZ⟩
  .exact⟨_,j8,λv z=>by
    have cZ:Data.seq _=xR v:=z;cases cZ⟩
  .exact⟨_,lh,λv z=>by
    have cZ:Data.seq _=xR v:=z;cases cZ⟩
  .exact⟨iZ,aF,λv z=>by rw[fJ]at z;cases z⟩
  .exact⟨rj,aG,λv z=>by rw[fy]at z;cases z⟩
 keep:=λi h h' st bG=>st.keep bG
 item:=by
  intro X eV hw eP ar i pins s σ H E I bE st bp;subst eV hw eP;obtain⟨xs,ys,x,y,FY,qX,ax,cb⟩:=bp;obtain⟨ahx,WE,i0,_⟩:=I.tuple FY;obtain⟨q1,NM,ey,_⟩:=I.list qX;obtain⟨z5,L6,aiL⟩:=WE.get ax;obtain⟨z6,L7,aiM⟩:=NM.get cb;obtain⟨hz,j8,⟨bW,aA,lh⟩,g1,g2⟩:=id st;refine aat (zipApart_new a1 a2) (QI (eA a1)) (ú (eA (vN a2))) hz j8 lh ⟨g1,i0⟩ ⟨g2,ey.isList⟩ (x:=z5) (y:=z6) (by simpa using L6) (by simpa using L7) λai iP fW pA rZ hH aD=>⟨_,rfl,?_⟩
  have pA:=pA.1;have rZ:=rZ.1;refine wpAny_letOwnedTupleGo_zip (s:={s with heap:=ai}) iP λaj VE h4=>?_;have h4:iK (n+4) ai aj:=h4;have aX:H s.heap.objs.size=none:=I.fresh;have kM:∀d o,d∉rC n->s.heap.get? d=some o->aj.get? d=some o:=λd o hd q=>by have hd:=λz=>hd (Dw.mpr z);exact(h4.2 d (λz=>hd (.inl z))).trans (aD d o (λz=>hd (.inl z)) (λz=>hd (.inr (.inr (.inl z)))) (λz=>hd (.inr (.inr (.inr (.inl z))))) (λz=>hd (.inr (.inr (.inr (.inr z))))) q)
  have Yj:n+4<s.heap.objs.size:=c' hz;have BX:aj.get? s.heap.objs.size=some {cls:=.type "tuple",data:=.seq #[z5,z6]}:=(h4.2 _ (tu Yj)).trans hH;have zY:Bp n a b (i+1) .none aj:=⟨VE,(h4.2 _ (by show @Ne Nat _ _;omega)).trans (aD _ _ (by show @Ne Nat _ _;omega) (by show @Ne Nat _ _;omega) (by show @Ne Nat _ _;omega) (by show @Ne Nat _ _;omega) j8),⟨_,_,(h4.2 _ (by show @Ne Nat _ _;omega)).trans fW⟩,(let⟨o,e,r⟩:=pA;⟨o,(h4.2 _ (by show @Ne Nat _ _;omega)).trans e,r⟩),rZ.at λo q=>(h4.2 _ (by show @Ne Nat _ _;omega)).trans q⟩
  have m5:∀d q,H d=some q->d∉rC n:=λd q hd z=>by have:=(bE d z).1;rw[this]at hd;cases hd
  refine⟨.ref s.heap.objs.size,upd H s.heap.objs.size (.tup [x,y]),?_,rfl,⟨s.heap.objs.size,x,y,aX,rfl,(λys cb=>by rw[I.W9 cb FY];exact ax),(λHU Mb=>by rw[I.MH Mb qX];exact cb),rfl⟩,zY,λd hd=>?_⟩
  .show Inv X pins σ (upd H s.heap.objs.size (.tup [x,y])) {s with heap:=aj,gens:=s.gens,drawn:=s.drawn,toks:=s.toks};refine I.step (g':=s.gens) (d':=s.drawn) (t':=s.toks) (h':=aj) (ch:=rC n) (λd hd=>?_) (λd o _ _ ar q _=>kM d o ar q) (λd o _ _ ar q _=>⟨o.slots,kM d o ar q⟩) (λd o ar q nn=>?_)
    (λd o ar q=>⟨o,kM d o ar q⟩) (λd ys q=>?_) (λd o v q=>?_) (λd ps q=>⟨#[],?_⟩) (λm hm=>?_) (λd v q=>?_) I.bare
   .obtain⟨f0,f1,f2,cS,f4,d7⟩:=bE d hd;exact⟨cS,f1,f4,d7⟩
   .rw[aV (eA (c' q))];exact nn
   .rw[aV (cI q aX)];exact q
   .rw[aV (cI q aX)];exact q
   .rw[aV (cI q aX),q];simp
   .obtain⟨o,es,ep,i_,r⟩:=hm;exact⟨o,es,ep,kM _ o (λz=>(bE _ z).2.1 rfl) i_,r⟩
   .by_cases ae:d=s.heap.objs.size
    .subst ae;rw[aE]at q;cases q;exact⟨(by show 2<=sizeLine;decide),[z5,z6],.cons aiL (.cons aiM .nil),_,BX,rfl,_,rfl⟩
    .rw[aV ae]at q;refine(I.bj d v q).md (λc y ar z=>kM c y ?_ z) (λc z=>by rw[aV (cI z aX)];exact z) λc ys z=>by rw[aV (cI z aX)];exact z
     rcases ar with rfl|ar
     .exact m5 _ _ q
     .exact m5 _ _ ar
  .have dl:d≠s.heap.objs.size:=λz=>by
    have aft:d<s.heap.objs.size:=by
     rcases Dw.mp hd with rfl|rfl|rfl|rfl|rfl
     .exact Yj
     .exact c' j8
     .exact c' lh
     .obtain⟨_,q,_⟩:=g1;exact c' q
     .obtain⟨_,q,_⟩:=g2;exact c' q
    exact bk z (eA aft)
   rw[aV dl];exact(bE d hd).1
 done:=by
  intro X eV hw eP ar i pins s σ H E I bE st bp;subst eV hw eP;obtain⟨xs,ys,bo,qX,ax⟩:=bp;obtain⟨its,cc,p,hz⟩:=I.tuple bo;obtain⟨q1,NM,ey,_⟩:=I.list qX;have au:=cc.length;obtain⟨ahr,j8,⟨bW,aA,lh⟩,g1,g2⟩:=id st;refine aau (I.ok.hd ar) (zipApart_new a1 a2) (QI (eA a1)) ahr j8 lh ⟨g1,p⟩ (by simp;omega) λh' afz=>⟨rfl,?_⟩
  have dq:∀c o,c∉rC n->s.heap.get? c=some o->h'.get? c=some o:=λc o ar e=>by have ar:=λz=>ar (Dw.mpr z);exact afz c o (λz=>ar (.inl z)) (λz=>ar (.inr (.inr (.inr (.inl z))))) e
  show Inv X pins σ H {s with heap:=h',gens:=s.gens,drawn:=s.drawn,toks:=s.toks};refine I.step (g':=s.gens) (d':=s.drawn) (t':=s.toks) (h':=h') (ch:=rC n) (λd hd=>?_) (λd o _ _ ar q _=>dq d o ar q) (λd o _ _ ar q _=>⟨o.slots,dq d o ar q⟩) (λd o ar q nn=>nn)
    (λd o ar q=>⟨o,dq d o ar q⟩) (λd ys q=>q) (λd o v q=>q) (λd ps q=>⟨#[],?_⟩) (λm hm=>?_) (λd v q=>?_) I.bare
  .obtain⟨f0,f1,f2,cS,f4,d7⟩:=bE d hd;exact⟨cS,f1,f4,d7⟩
  .rw[q];simp
  .obtain⟨o,es,ep,i_,r⟩:=hm;exact⟨o,es,ep,dq _ o (λz=>(bE _ z).2.1 rfl) i_,r⟩
  .refine(I.bj d v q).md (λc y ar z=>dq c y (λw=>?_) z) (λc z=>z) λc ys z=>z;have:=(bE c w).1;rcases ar with rfl|ar
   .rw[this]at q;cases q
   .rw[this]at ar;cases ar
 self:=λ_ _ _ _ _ st h=>ajZ st.hz h
section
variable{X:bx}{elts:hB}{k:Nat}{xu:Pos}
noncomputable def ac3(K:aQ)(bW:fo):el:=λσ H R=>bW σ H λvs H1=>∃a b,vs=[.ref a,.ref b]/\(∃xs,cG K H1 a xs)/\(∃xs,aJ K H1 b xs)/\R (Az K a b) H1
theorem aav{aG:Expr}{bW:fo}{p:Pos}(bp:ij X "zip")(hm:X.mg "zip"=none)(av:fl X [aF,aG] bW)(he:dt [aF,aG] X.env=(false,eval aF X.env)::dt [aG] X.env:=by rfl)(fg:(gX pos (dt [aG] X.env)).any (·.1)=false:=by rfl):
  mE X (.Tuple elts k xu) (.Call (.Name "zip" p) [aF,aG] [] pos) (ac3 X.K bW):=by
 intro pins s σ H R I h;refine Call_ (rb I bp hm aaq (A_ (bA (av pos pins s σ H _ I h) λus s1 hz=>?_) he fg));obtain⟨vs,H1,aL,cq,bw⟩:=hz;obtain⟨a,b,e,⟨xs,FY⟩,⟨ys,qX⟩,q⟩:=bw;subst e;cases cq with
 |cons r lB=>
  cases lB with
  |cons cT lB=>
   cases lB;cases r;cases cT;obtain⟨ahx,WE,i0,aoi⟩:=aL.tuple FY;obtain⟨q1,NM,ey,VE⟩:=aL.list qX;have a1:a<s1.heap.objs.size:=by obtain⟨_,e,_⟩:=i0;exact c' e
   have a2:b<s1.heap.objs.size:=by obtain⟨_,e,_⟩:=ey.isList;exact c' e
   refine ZE i0 ey.isList λh' iP fW pA rZ aff bG=>?_;refine ajZ iP ?_;refine⟨s1.heap.objs.size+4,rC s1.heap.objs.size,_,_,H1,rfl,aL.kept (t':=s1.toks) λb o e=>bG b o e,ZF _ a b a1 a2,⟨iP,fW,⟨_,_,pA⟩,rZ,aff⟩,λd hd=>?_,q⟩;have le:s1.heap.objs.size<=d:=by rcases Dw.mp hd with rfl|rfl|rfl|rfl|rfl<;>first|exact cL _|exact R6 _ _
   exact aL.pN le (aL.bj.fresh le)
end
end b5
namespace c2
open PySem ao b5 cQ
noncomputable abbrev L(x:String):Str:=bK x
theorem XT:∀(xs ys:fa),i8 (xs++ys)=i8 xs++i8 ys
 |[],_=>rfl
 |d::xs,ys=>by cases d<;>simp[i8,XT xs ys]
theorem PM:∀hs:List cx,i8 (bF hs)=hs.map S
 |[]=>rfl
 |l::hs=>by show S l::i8 (bF hs)=S l::hs.map S;rw[PM hs]
theorem Yt{ds:fa}(h:wO (.list ds)=true):ds.length<=12/\(∀d∈ds,nT d=true)/\(i8 ds).Nodup:=by unfold wO at h;simp only[ie,decide_eq_true_eq,rL]at h;exact⟨h.1.1,h.1.2,h.2⟩
theorem RQ{hs:bt}{y:Str}(h:y∉hs.map S):inD (.str y) (bF hs)=false:=by unfold inD;rw[kk];intro z;obtain⟨v,a7,e⟩:=pg.mp z;obtain⟨u,bL,rfl⟩:=cw.mp a7;have bB:(u==y)=true:=e;exact h (eq_of_beq bB▸bL)
theorem Io{H:af}:∀{hs:bt},(∀x∈hs,fF x)->dQ H (bY hs) (bF hs)
 |[],_=>.nil
 |l::hs,h=>.cons (.str (S l) (by rw[dR];have:=(h l (ts ..)).2.1;omega) (GS (h l (ts ..)))) (Io λx ax=>h x (mz _ ax))
theorem I6{H:af}(G:Good hs)(h:H a=some (.lst (bY hs))):cW H (.ref a) (.list (bF hs)):=.lst h (by rw[q4];have:=G.cN;omega) (Io G.nm)
theorem ac4{H:af}{hs:bt}(G:Good hs){d:cQ.fm}(ok:d.Ok hs.length)(h:H r=some (.tup (lA hs d))):cW H (.ref r) (xm hs d):=
 .tup h (by show 4<=100;decide) (.cons (.str _ (by rw[dR];have:=(G.at ok.a).2.1;omega) (GS (G.at ok.a))) (.cons (.str _ (by rw[dR];have:=(G.at ok.b).2.1;omega) (GS (G.at ok.b))) (.cons (.int _) (.cons (.int _) .nil))))
theorem Ip{hs:bt}(G:Good hs):∀{rs:c7}{ds:dc},ha H rs (ds.map (lA hs))->(∀d∈ds,d.Ok hs.length)->dQ H (bM rs) (ds.map (xm hs))
 |[],[],_,_=>.nil
 |r::rs,d::ds,.cons h t,ok=>.cons (ac4 G (ok d (ts ..)) h) (Ip G t λe he=>ok e (mz _ he))
 |[],d::ds,h,_=>nomatch h
 |r::rs,[],h,_=>nomatch h
end c2
namespace b5
open PySem PySem.Spec PyProof.Rows ao
noncomputable def eX{α:Type}:Sem α->Prop
 |.pure _=>True
 |.raise _=>True
 |.unsupported _=>True
 |.finish _=>True
 |.register _ _=>True
 |.rule _ k=>eX (k ())
 |.at _ k=>eX (k ())
 |.load _ _ k=>∀o,eX (k o)
 |.update _ _ f k=>(∀o,(f o).dict=o.dict)/\eX (k ())
 |.alloc _ k=>∀a,eX (k a)
 |.loadIfAlive _ k=>∀o,eX (k o)
 |.point _ k=>eX (k ())
 |.fresh k=>∀t,eX (k t)
 |.ask k=>∀t,eX (k t)
 |.handled _ k=>∀t,eX (k t)
 |.stack k=>∀t,eX (k t)
 |.thread k=>∀n,eX (k n)
 |_=>False
noncomputable def iW(h h':Heap):Prop:=h.objs.size<=h'.objs.size/\∀e,e<h.objs.size->(h'.objs[e]?).map (·.dict)=(h.objs[e]?).map (·.dict)
theorem iW.refl(h:Heap):iW h h:=⟨cL _,λ_ _=>rfl⟩
theorem iW.trans(a:iW h ai)(b:iW ai aj):iW h aj:=⟨e1 a.1 b.1,λe he=>(b.2 e (i1 he a.1)).trans (a.2 e he)⟩
theorem iW.push(h:Heap)(o:Obj):iW h (h.push o):=by
 obtain⟨objs,l⟩:=h;refine⟨?_,λe he=>?_⟩
 .show objs.size<=(objs.push o).size;simp
 .show((objs.push o)[e]?).map _=_;rw[Array.getElem?_push_lt he];simp[he]
theorem iW.update(h:Heap)(a:Addr){f:Obj->Obj}(bE:∀o,(f o).dict=o.dict):iW h (h.update a f):=by
 obtain⟨objs,l⟩:=h;refine⟨?_,λe he=>?_⟩
 .show objs.size<=(objs.modify a f).size;simp
 .show((objs.modify a f)[e]?).map _=_;rw[Array.getElem?_modify];split
  .cases objs[e]? with
   |none=>rfl
   |some o=>show some (f o).dict=_;rw[bE];rfl
  .rfl
theorem iW.dict{h h':Heap}(s:iW h h'){o cD:Obj}(a:h.get? e=some o)(b:h'.get? e=some cD):cD.dict=o.dict:=by have ai:=(ZK.mp a).1;have aj:=(ZK.mp b).1;have:=s.2 e (c' a);rw[ai,aj]at this;exact fG this
theorem aaw{α:Type}{M:mC}{xO:PySem.Ctx}{Q:α->Pos->aO->Prop}{E:Value->Pos->aO->Prop}(t:Sem α)(ar:eX t)(p:Pos)(s:aO)(h:Sem.wp M xO t Q E p s):
  Sem.wp M xO t (λa gJ s'=>Q a gJ s'/\iW s.heap s'.heap) (λa gJ s'=>E a gJ s'/\iW s.heap s'.heap) p s:=by
 have key:∀(t:Sem α),eX t->∀(p:Pos)(s:aO)(a8:Heap),iW a8 s.heap->Sem.wp M xO t Q E p s->Sem.wp M xO t (λa gJ s'=>Q a gJ s'/\iW a8 s'.heap) (λa gJ s'=>E a gJ s'/\iW a8 s'.heap) p s:=by
  intro t
  induction t with
  |pure a=>exactλ_ p s a8 dO h=>⟨h,dO⟩
  |raise e=>exactλ_ p s a8 dO h=>⟨h,dO⟩
  |unsupported=>exactλ_ p s a8 dO h=>h
  |finish=>exactλ_ p s a8 dO h=>h
  |register=>exactλ_ p s a8 dO h=>h
  |rule _ k a5=>exactλc p s a8 dO h=>a5 () c p s a8 dO h
  |«at» _ k a5=>exactλc p s a8 dO h=>a5 () c _ s a8 dO h
  |load a _ k a5=>exactλc p s a8 dO⟨o,e,h⟩=>⟨o,e,a5 o (c o) p s a8 dO h⟩
  |update a _ f k a5=>exactλc p s a8 dO⟨e,h⟩=>⟨e,a5 () c.2 p _ a8 (dO.trans (iW.update _ _ c.1)) h⟩
  |alloc o k a5=>exactλc p s a8 dO h=>a5 _ (c _) p _ a8 (dO.trans (iW.push _ _)) h
  |loadIfAlive a k a5=>exactλc p s a8 dO h=>a5 _ (c _) p s a8 dO h
  |point _ k a5=>exactλc p s a8 dO h=>a5 () c p s a8 dO h
  |fresh k a5=>exactλc p s a8 dO h=>a5 _ (c _) p _ a8 dO h
  |ask k a5=>exactλc p s a8 dO h=>a5 _ (c _) p s a8 dO h
  |handled _ k a5=>exactλc p s a8 dO h=>a5 _ (c _) p s a8 dO h
  |stack k a5=>exactλc p s a8 dO h=>a5 _ (c _) p s a8 dO h
  |thread k a5=>exactλc p s a8 dO h=>a5 _ (c _) p s a8 dO h
  |choose=>exactλc=>c.elim
  |os=>exactλc=>c.elim
  |call=>exactλc=>c.elim
  |newGen=>exactλc=>c.elim
  |genState=>exactλc=>c.elim
  |resume=>exactλc=>c.elim
  |yield=>exactλc=>c.elim
  |fork=>exactλc=>c.elim
  |await=>exactλc=>c.elim
 exact key t ar p s s.heap (iW.refl _) h
theorem PN{α:Type}{M:mC}{Q:α->aO->Prop}{E:b6}{t:Sem α}{s:aO}(ar:eX t)(h:aN M A t Q E s):aN M A t (λa s'=>Q a s'/\iW s.heap s'.heap) (λa s'=>E a s'/\iW s.heap s'.heap) s:=
 λxO p ahs=>aaw t ar p s (h xO p ahs)
theorem hS{α β:Type}{t:Sem α}{f:α->Sem β}(h:eX t)(bE:∀a,eX (f a)):eX (t >>=f):=by
 show eX (t.bind f)
 induction t with
 |pure a=>exact bE a
 |raise e=>exact h
 |unsupported=>exact h
 |finish=>exact h
 |register=>exact h
 |rule _ k a5=>exact a5 () h
 |«at» _ k a5=>exact a5 () h
 |load a _ k a5=>exactλo=>a5 o (h o)
 |update a _ f k a5=>exact⟨h.1,a5 () h.2⟩
 |alloc o k a5=>exactλa=>a5 a (h a)
 |loadIfAlive a k a5=>exactλa=>a5 a (h a)
 |point _ k a5=>exact a5 () h
 |fresh k a5=>exactλa=>a5 a (h a)
 |ask k a5=>exactλa=>a5 a (h a)
 |handled _ k a5=>exactλa=>a5 a (h a)
 |stack k a5=>exactλa=>a5 a (h a)
 |thread k a5=>exactλa=>a5 a (h a)
 |choose=>exact h.elim
 |os=>exact h.elim
 |call=>exact h.elim
 |newGen=>exact h.elim
 |genState=>exact h.elim
 |resume=>exact h.elim
 |yield=>exact h.elim
 |fork=>exact h.elim
 |await=>exact h.elim
theorem j4{α:Type}{a:α}:eX (pure a:Sem α):=trivial
theorem qZ{α:Type}:eX (unsupported x:Sem α):=trivial
theorem sr{α:Type}{c:Prop}[Decidable c]{a b:Sem α}(av:eX a)(ae:eX b):eX (if c then a else b):=by split<;>assumption
theorem Of:eX (load a):=λ_=>trivial
theorem ajI:eX (fieldsOf v):=by
 unfold fieldsOf;cases v<;>first|exact qZ|skip
 refine hS Of λo=>?_;split<;>first|exact j4|exact qZ
theorem Gx{i:Nat}:eX (r8 v i):=by unfold r8;refine hS ajI λo=>?_;split<;>first|exact j4|exact qZ
theorem ML{i:Nat}:eX (zW v i x):=by
 unfold zW;cases v<;>first|exact qZ|skip
 refine hS Of λo=>?_;split
 .refine sr ⟨λo=>?_,trivial⟩ qZ;obtain⟨c,d,nG,bZ⟩:=o;cases nG<;>rfl
 .exact qZ
theorem ajy{f:Option Addr}:eX (setFlight v f):=by unfold setFlight;refine hS Gx λo=>sr ML j4
theorem NA:eX stack:=λ_=>trivial
theorem ajz{ty:String}:eX (newFields ty vs):=by
 have as:eX (newObjAsIs (.type ty) (.fields vs.toArray)):=by unfold newObjAsIs;exact hS (λ_=>trivial) λa=>j4
 unfold newFields newObj;exact sr (c:=vs.toArray.size>sizeLine+2) (hS qZ λ_=>as) as
theorem Zc{f:Addr}:eX (Uy f b):=by unfold Uy;refine hS NA λo=>?_;split<;>exact j4
theorem Yu{env:Env}:eX (afi env outer):=by unfold afi;exact sr j4 (sr j4 (hS Gx λ_=>j4))
theorem Z1{env:Env}:eX (keptBack env b l):=by
 unfold keptBack;split
 .refine sr j4 (hS ?_ λ_=>j4);exact hS NA λ_=>j4
 .exact j4
theorem Xn:∀l:List Env,eX (readyFrames l)
 |[]=>trivial
 |env::outer=>by
  unfold readyFrames;split
  .exact hS Of λo=>sr j4 (hS Yu λ_=>hS Z1 λ_=>hS ⟨λ_=>rfl,trivial⟩ λ_=>Xn outer)
  .exact qZ
theorem akc{env:Env}:eX (SQ env):=by
 unfold SQ frameEnvs;refine hS (hS NA λ_=>j4) λl=>hS ?_ λo=>?_
 .generalize List.dropWhile _ l=ea;cases ea with
  |nil=>exact j4
  |cons a b=>exact hS (Xn _) λ_=>j4
 .split<;>first|exact j4|exact qZ
theorem Z2{env:Env}:eX (Wc e env):=by
 unfold Wc;have last:∀(f:Addr)(head:Value),eX (do
   let a <-SQ env
   let b <-Uy f (head !=eT)
   let c <-akH head a eT (jg f) eT b
   zW e 1 c):=λf head=>hS akc λ_=>hS Zc λ_=>hS ajz λ_=>ML
 split
 .exact hS Gx λhead=>sr (hS Gx λ_=>sr j4 (hS ML λ_=>last _ _)) (last _ _)
 .exact qZ
theorem WB{env:Env}:eX (leaving env e):=hS Z2 λ_=>ajy
noncomputable def Dx(oC qL:xQ)(uP:k6)(C:Addr)(gI:String):Bool:=
 (oC.mro==cg C::qL.mro)&&!oC.hasDel&&(match uP.toList with|[_,_,_,_,some (.builtin n),_]=>n==gI|_=>false)
theorem û{K:aQ}{mg:b9}{h:Heap}{Fh:Option Addr}{oC qL:xQ}{Ha:k6}(X:K.In h)(O:Exc K mg y R bm gI)(wX:K.lookup C=some ⟨.type "type",la,.cls oC,uP⟩)(Mz:K.lookup R=some ⟨.type "type",Fh,.cls qL,Ha⟩)(Bt:Dx oC qL uP C gI=true):
  ∃nm q N bs du sn sub ab col k0 k1 k2 k3 k5,h.get? C=some (yR nm q C N bs du oC.hasDict sn sub ab col la k0 k1 k2 k3 k5 gI)/\yl h bm du:=by
 obtain⟨du,Sf,nm,q,bs,hdct,sn,sub,ab,col,dd,k0,k1,k2,k3,k5,mN,bQ,eH,y6,T⟩:=(O.own X).obj;have agj:=X _ _ Mz;have aF:=agj.symm.trans bQ;have aG:=fG aF;have hm:qL.mro=cg R::du:=by have cR:(Data.cls qL)=_:=ek Obj.data aG;injection cR with cR;rw[cR]
 unfold Dx at Bt;simp only[ie,pE,P1]at Bt;obtain⟨⟨k9,gY⟩,pF⟩:=Bt;split at pF
 .rename_i aom aon aoo aop n aoq hs;have pF:=pE.mp pF;subst pF;obtain⟨ahZ,afj,aoy,aoH,aiA,uh,ai1,ai3,aeF,afp,amw⟩:=oC;dsimp only at k9 gY;rw[hm]at k9;subst k9 gY;obtain⟨WS⟩:=uP;simp only at hs;subst hs;exact⟨_,_,_,_,_,_,_,_,_,_,_,_,_,_,X _ _ wX,.own bQ eH y6 T⟩
 .cases pF
section
variable{prog:cA}{w:bU}{A:dn}{E:b6}{s:aO}{K:aQ}
variable{nm q:Str}{C N nI:Addr}{bs bm du:dk}{hd:Bool}{sn:ck}{sub:dk}{ab:Bool}{col:Option Bool}{la:Option Addr}{k0 k1 k2 k3 k5:yA}{B gI sm:String}
theorem Z3(F:vA B gI sm bm){rest:dk}{Q:b6}(T:yl s.heap bm du)(X:K.In s.heap)(eC:s.heap.get? C=some (yR nm q C N bs du hd sn sub ab col la k0 k1 k2 k3 k5 gI))(hi:c_ K (.ref C) "__init__"=some (some (.ref nI)))(bE:yq K (.ref nI)=some (.type "function"))(Vu:rest.length<=sizeLine)(bo:∀h' e,s.heap.objs.size<=e->Q2 s.heap h' e (.ref C) rest->aN (a_ prog w) (A.under (.builtin "type.__call__" ⟨.ref C::rest,[]⟩)) (call (.ref nI) (.ref e::rest)) (λr s'=>r=.none/\Q (.ref e) s') E {s with heap:=h'}):
  aN (a_ prog w) A (call (.ref C) rest) Q E s:=by
 obtain⟨h,g,d,t,os⟩:=s;have f1:=tc_lookup;have f2:=tc_bind (.ref C);have hH:(⟨h,g,d,t,os⟩:aO).TypeIs (.ref C) "type":=⟨_,eC,rfl⟩
 refine rB (Un (show aN _ _ (callAny (.ref C) _) _ _ _ from ?_))
 repeat (any_goals (first|assumption|with_reducible refine ki eC ?_|wp_step))
 refine⟨rfl,codeAny_call_builtin_at (Ig _ (by decide+kernel)) entry_typeCall (wpAny_check_type_call_sub eC ?_)⟩
 repeat (first|with_reducible refine wpAny_madeBy_exc eC ?_|with_reducible refine ki eC ?_|wp_step)
 refine codeAny_call_builtin_code (Ig _ F.quiet) (wpAny_check_new_subT F T eC (codeAny_exc_new_subT F T eC (show aN _ _ _ _ _ _ from ?_) Vu));have wC:((h.push {cls:=.type "tuple",data:=.seq rest.toArray}).push {cls:=.ref C,data:=.fields #[.ref h.objs.size,.none,.none,.none,.bool false,.none]}).get? (h.objs.size+1)=some {cls:=.ref C,data:=.fields #[.ref h.objs.size,.none,.none,.none,.bool false,.none]}:=by heap_get
 have mk:Q2 h ((h.push {cls:=.type "tuple",data:=.seq rest.toArray}).push {cls:=.ref C,data:=.fields #[.ref h.objs.size,.none,.none,.none,.bool false,.none]}) (h.objs.size+1) (.ref C) rest:=
  ⟨λb o ae=>c9 _ (c9 _ ae),Q3 (A2 _),h.objs.size,wC,Q3 (cL _),c9 _ (ZJ rfl rfl)⟩
 have qX:=bo _ _ (A2 _) mk;have J6:=X.keeps mk.keeps;have Ld:=mk.keeps _ _ eC;have agu:(cg C::du).contains (.ref C)=true:=by simp
 show aN _ _ _ _ _ ⟨(h.push {cls:=.type "tuple",data:=.seq rest.toArray}).push {cls:=.ref C,data:=.fields #[.ref h.objs.size,.none,.none,.none,.bool false,.none]},g,d,t,os⟩;dsimp only;generalize(h.push {cls:=.type "tuple",data:=.seq rest.toArray}).push {cls:=.ref C,data:=.fields #[.ref h.objs.size,.none,.none,.none,.bool false,.none]}=aj at wC mk qX J6 Ld⊢;generalize h.objs.size=a0 at wC mk qX Ld⊢;unfold F4
 repeat (first|with_reducible refine ki wC ?_|(with_reducible refine OZ Ld ?_;rw[agu])|wp_step)
 refine(tC J6 hi).here ?_;refine jH (aq ((ţ J6 _ bE).here ?_));show aN _ _ (call (.ref nI) (.ref (a0+1)::rest) >>=λr=>pure (some r)) _ _ _;refine aq (hf qX (λr s' al=>?_) λ_ _ z=>z);obtain⟨rfl,et⟩:=al
 wp_walk
 exact et
theorem Z4(F:vA B gI sm bm){R:nz->aO->Prop}{e:Addr}{d2:Option Addr}{bZ:k6}{rest:dk}(T:yl s.heap bm du)(eC:s.heap.get? C=some (yR nm q C N bs du hd sn sub ab col la k0 k1 k2 k3 k5 gI))(he:s.heap.get? e=some ⟨.ref C,d2,.fields #[.ref t0,.none,.none,.none,.bool false,.none],bZ⟩)(Vu:rest.length<=sizeLine)(bo:∀h' t,(∀b o,b≠e->s.heap.get? b=some o->h'.get? b=some o)->h'.get? e=some ⟨.ref C,d2,.fields #[.ref t,.none,.none,.none,.bool false,.none],bZ⟩->R (.ok (.ret .none)) {s with heap:=h'}):
  jv (a_ prog w) A (.call (.builtin sm) ⟨.ref e::rest,[]⟩) R s:=by
 obtain⟨h,g,d,t,os⟩:=s;refine Bu F.init.plain F.initEntry (wpAny_check_init_subT F T eC he rfl ?_);dsimp only at he⊢
 wp_walk
 have agy:(h.push {cls:=.type "tuple",data:=.seq rest.toArray}).get? e=_:=c9 _ he;refine bo _ h.objs.size (λb o ae FI=>?_) ?_
 .show((h.push _).update e _).get? b=some o;rw[ik _ _ (d3 ae)];exact c9 _ FI
 .show((h.push _).update e _).get? e=_;rw[nj _ agy rfl];rfl
theorem Xf(T:yl h bm du)(self:Value)(Xs:Str):NH self Xs du=NH self Xs bm:=by
 induction T with
 |base=>rfl
 |own _ _ _ _ a5=>rw[WD,a5]
theorem QJ{M:mC}{mA:b9}{name:Str}{ns:ck}{Q:Fin->aO->Prop}(aX:s.heap.Ns1 d mA)(hw:yr mA ns)(hz:ns.length<=1000)(bo:∀h' kR,h'.Ns1 d (λy=>if y=name then some v else mA y)->iK d s.heap h'->Q (.done (.ret .none)) {s with heap:=h',toks:=kR}):
  aN M A (YL d (.str name aH) name v) Q E s:=by unfold YL akF;refine aq (ba (aq (wpAny_nsSet1 aX λh' jC hs=>?_)));obtain⟨aii,afG,afE,LS,Lu,Lr⟩:=jC.count (SO name v hw);refine aq (ajU LS (by rw[Lu];exact aip (e1 Lr (by rw[fV,uR];omega))) ?_);exact ba (bo _ _ jC hs)
theorem aax{name:Str}{bZ:k6}{Q:Unit->aO->Prop}(X:K.In s.heap)(lI:StoreFacts B bm mc owner)(T:yl s.heap bm du)(eC:s.heap.get? C=some (yR nm q C N bs du hd sn sub ab col la k0 k1 k2 k3 k5 gI))(hs:c_ K (.ref C) "__setattr__"=some (some (.builtin mc)))(aX:c_ K (.ref C) name=some none)(aI:kZ K (.ref C) (.type owner)=some true)(ax:s.heap.get? x=some ⟨.ref C,none,.fields vs,bZ⟩)(Lv:hd=true)(bo:∀h' kR,h'.get? x=some ⟨.ref C,some s.heap.objs.size,.fields vs,bZ⟩->h'.Ns1 s.heap.objs.size (λy=>if y=name then some v else none)->(∀b o,b≠x->s.heap.get? b=some o->h'.get? b=some o)->Q () {s with heap:=h',toks:=kR}):
  aN (a_ prog w) A (Dl (.ref x) name v) Q E s:=by
 obtain⟨h,g,d,t,os⟩:=s;dsimp only at X T eC ax;have ty:rU (a_ prog w) h (typeOf (.ref x)) (.ref C):=(Sy ax).andThen .now;have ob:rU (a_ prog w) h (F4 (.ref x) (.type owner)) true:=ty.andThen (Ů X aI);unfold Dl callSpecial? specialOf;have cS:=lI.slot.bind (.ref x)
 repeat (any_goals (first|assumption|with_reducible refine ki ax ?_|wp_step))
 refine(tC X hs).here (jH (aq (oh cS (aq (rB (Bu lI.slot.plain lI.entry (Ŧ lI.kind lI.split ob (lI.args _ _ _) ?_)))))));have ag3:=lI.passes (.ref x);have B':NH (.ref x) "__setattr__" du=pure ():=(Xf T _ _).trans ag3;unfold Builtin.«object.__setattr__»
 repeat (first|rw[refuse_eq]|(rw[WD,B'])|with_reducible refine ki ax ?_|with_reducible refine ajW eC ?_|wp_step)
 refine(tC X aX).here (aq (ba ?_));show aN _ _ (H_ _ _ _ _ _ _) _ _ _;unfold H_;refine aq (hf (Q:=λ_ s'=>s'=⟨h,g,d,t+1,os⟩) (E:=λ_ _=>False) ?_ (λ_ _ aF=>?_) (λ_ _ z=>z.elim))
 .repeat (first|with_reducible refine ki ax ?_|with_reducible refine ki eC ?_|wp_step)
  exact rfl
 .subst aF;have VB:x≠h.objs.size:=eA (c' ax);have L':(h.push {cls:=.type "dict",data:=.dict #[]}).get? x=_:=c9 _ ax;refine aq (hf (Q:=λr s'=>r=some h.objs.size/\s'=⟨(h.push {cls:=.type "dict",data:=.dict #[]}).update x λo=>{o with dict:=some h.objs.size},g,d,t+1,os⟩) (E:=λ_ _=>False) ?_ (λ_ _ aF=>?_) (λ_ _ z=>z.elim))
  .show aN _ _ (Mk x true) _ _ _;subst Lv;unfold Mk
   repeat (first|with_reducible refine ki ax ?_|with_reducible refine ki eC ?_|wp_step)
   exact⟨rfl,rfl⟩
  .obtain⟨rfl,rfl⟩:=aF;have agI:((h.push {cls:=.type "dict",data:=.dict #[]}).update x λo=>{o with dict:=some h.objs.size}).get? x=some ⟨.ref C,some h.objs.size,.fields vs,bZ⟩:=by rw[nj _ L' rfl]
   have LC:((h.push {cls:=.type "dict",data:=.dict #[]}).update x λo=>{o with dict:=some h.objs.size}).get? h.objs.size=some {cls:=.type "dict",data:=.dict #[]}:=
    (ik _ _ VB).trans (ZJ rfl rfl)
   have agU:((h.push {cls:=.type "dict",data:=.dict #[]}).update x λo=>{o with dict:=some h.objs.size}).Ns h.objs.size (λ_=>none):=⟨_,#[],_,LC,rfl,λe he=>bk he (by simp),λ_=>rfl⟩
   refine QJ (mA:=λ_=>none) (ns:=[]) (ZH agU) Ų (by decide) λh' kR jC eE=>?_;refine ba (ba (bo h' kR ?_ jC λb o ae FI=>?_))
   .exact(eE.2 x VB).trans agI
   .refine(eE.2 b (eA (c' FI))).trans ((ik _ _ (d3 ae)).trans (c9 _ FI))
theorem ü{name:Str}{bZ:k6}{mA:b9}{ns:ck}{Q:Unit->aO->Prop}(X:K.In s.heap)(lI:StoreFacts B bm mc owner)(T:yl s.heap bm du)(eC:s.heap.get? C=some (yR nm q C N bs du hd sn sub ab col la k0 k1 k2 k3 k5 gI))(hs:c_ K (.ref C) "__setattr__"=some (some (.builtin mc)))(aX:c_ K (.ref C) name=some none)(aI:kZ K (.ref C) (.type owner)=some true)(ax:s.heap.get? x=some ⟨.ref C,some ak,.fields vs,bZ⟩)(Lv:hd=true)(eH:s.heap.Ns1 ak mA)(hw:yr mA ns)(hz:ns.length<=1000)(bo:∀h' kR,h'.Ns1 ak (λy=>if y=name then some v else mA y)->iK ak s.heap h'->Q () {s with heap:=h',toks:=kR}):
  aN (a_ prog w) A (Dl (.ref x) name v) Q E s:=by
 obtain⟨h,g,d,t,os⟩:=s;dsimp only at X T eC ax eH;have ty:rU (a_ prog w) h (typeOf (.ref x)) (.ref C):=(Sy ax).andThen .now;have ob:rU (a_ prog w) h (F4 (.ref x) (.type owner)) true:=ty.andThen (Ů X aI);unfold Dl callSpecial? specialOf;have cS:=lI.slot.bind (.ref x)
 repeat (any_goals (first|assumption|with_reducible refine ki ax ?_|wp_step))
 refine(tC X hs).here (jH (aq (oh cS (aq (rB (Bu lI.slot.plain lI.entry (Ŧ lI.kind lI.split ob (lI.args _ _ _) ?_)))))));have B':NH (.ref x) "__setattr__" du=pure ():=(Xf T _ _).trans (lI.passes (.ref x));unfold Builtin.«object.__setattr__»
 repeat (first|rw[refuse_eq]|(rw[WD,B'])|with_reducible refine ki ax ?_|with_reducible refine ajW eC ?_|wp_step)
 refine(tC X aX).here (aq (ba ?_));show aN _ _ (H_ _ _ _ _ _ _) _ _ _;unfold H_;refine aq (hf (Q:=λ_ s'=>s'=⟨h,g,d,t+1,os⟩) (E:=λ_ _=>False) ?_ (λ_ _ aF=>?_) (λ_ _ z=>z.elim))
 .repeat (first|with_reducible refine ki ax ?_|with_reducible refine ki eC ?_|wp_step)
  exact rfl
 .subst aF;refine aq (hf (Q:=λr s'=>r=some ak/\s'=⟨h,g,d,t+1,os⟩) (E:=λ_ _=>False) ?_ (λ_ _ aF=>?_) (λ_ _ z=>z.elim))
  .show aN _ _ (Mk x true) _ _ _;subst Lv;unfold Mk
   repeat (first|with_reducible refine ki ax ?_|with_reducible refine ki eC ?_|wp_step)
   exact⟨rfl,rfl⟩
  .obtain⟨rfl,rfl⟩:=aF;refine QJ eH hw hz λh' kR jC eE=>?_;exact ba (ba (bo h' kR jC eE))
end
noncomputable def lU(e C:Addr):hN:=.ext λh=>∃t bZ,h.get? e=some ⟨.ref C,none,.fields #[.ref t,.none,.none,.none,.bool false,.none],bZ⟩
noncomputable def lT(e C ak:Addr):hN:=.ext λh=>∃t bZ,h.get? e=some ⟨.ref C,some ak,.fields #[.ref t,.none,.none,.none,.bool false,.none],bZ⟩
noncomputable def nf(d:Addr)(fs:List (Str×V)):hN:=.ext λh=>fs.length<=100/\∃mA,h.Ns1 d mA/\(∀f,jE (fs.lookup f) (mA f))/\yr mA (fs.map (·.1))
section
variable{P:cA}{w:bU}{H:af}{h:Heap}{e C ak d:Addr}
theorem RR{t:Addr}{bZ:k6}(q:h.get? e=some ⟨.ref C,none,.fields #[.ref t,.none,.none,.none,.bool false,.none],bZ⟩):er P w H h e (lU e C):=
 ⟨⟨t,bZ,q⟩,⟨_,q⟩,λ_ _⟨t,bZ,z⟩k=>⟨t,bZ,k _ z⟩⟩
theorem abX{t:Addr}{bZ:k6}(q:h.get? e=some ⟨.ref C,some ak,.fields #[.ref t,.none,.none,.none,.bool false,.none],bZ⟩):er P w H h e (lT e C ak):=
 ⟨⟨t,bZ,q⟩,⟨_,q⟩,λ_ _⟨t,bZ,z⟩k=>⟨t,bZ,k _ z⟩⟩
theorem RS{fs:List (Str×V)}{mA:b9}(z:fs.length<=100)(n:h.Ns1 d mA)(r:∀f,jE (fs.lookup f) (mA f))(wi:yr mA (fs.map (·.1))):er P w H h d (nf d fs):=by
 obtain⟨o,q⟩:∃o,h.get? d=some o:=by obtain⟨o,_,_,q,_⟩:=n.ns;exact⟨o,q⟩
 exact⟨⟨z,mA,n,r,wi⟩,⟨o,q⟩,λ_ _⟨z,mA,n,r,wi⟩k=>⟨z,mA,n.at k,r,wi⟩⟩
end
section
variable{X:bx}{pins:dD}{σ:ao.St}{H:af}{s:aO}
theorem Inv.put2{h':Heap}{t':Nat}{d:Addr}{rD:Heap->Prop}(I:Inv X pins σ H s)(he:H e=some (.ext rD))(hd:s.heap.objs.size<=d)(k:∀b o,b≠e->s.heap.get? b=some o->h'.get? b=some o)(agA:∃o,h'.get? e=some o)(cn:er X.prog X.w (upd (upd H d d2) e rk) h' e rk)(cC:er X.prog X.w (upd (upd H d d2) e rk) h' d d2):Inv X pins σ (upd (upd H d d2) e rk) {s with heap:=h',toks:=t'}:=by
 have agx:H d=none:=I.bj.fresh hd;have LC:∀o,s.heap.get? d≠some o:=λo z=>rQ _ (i1 (c' z) hd);have M5:∀b,H b=none->b≠e:=λb n z=>by rw[z,he]at n;cases n
 have old:∀{b:Addr}{u:hN},H b=some u->b≠e->upd (upd H d d2) e rk b=some u:=λ{b u}q n=>by rw[aV n,aV (cI q agx)];exact q
 have cp:∀{b:Addr}{u:hN},H b=some u->(∀mj,u≠.ext mj)->b≠e:=λ{b u}q n z=>by subst z;rw[he]at q;exact n rD (fG q).symm
 refine I.un ⟨λb o q n _ _=>k b o (M5 b n) q,λb o q n _ _=>⟨o.slots,k b o (M5 b n) q⟩,λb o q n _=>?_,λb o q _=>?_,λb xs q=>old q (cp q (by intro mj z;cases z)),λb o u q=>old q (cp q (by intro mj z;cases z)),λb ps q=>⟨#[],by rw[old q (cp q (by intro mj z;cases z))];simp⟩⟩ λb u q=>?_
 .rw[aV (M5 b n),aV (show b≠d fromλz=>LC o (by rw[<-z];exact q))];exact n
 .by_cases ae:b=e
  .subst ae;exact agA
  .exact⟨o,k b o ae q⟩
 .by_cases ae:b=e
  .subst ae;rw[aE]at q;cases q;exact cn
  .rw[aV ae]at q;by_cases pR:b=d
   .subst pR;rw[aE]at q;cases q;exact cC
   .rw[aV pR]at q;refine(I.bj b u q).md (λc v ar r=>k c v ?_ r) (λc r=>old r (cp r (by intro mj z;cases z))) λc xs r=>old r (cp r (by intro mj z;cases z));rcases ar with rfl|ar
    .exact ae
    .exact cp ar (by intro mj z;cases z)
theorem abY{H:af}(h:H a=some o):upd H a o=H:=by
 funext b;by_cases ae:b=a
 .subst ae;rw[aE,h]
 .rw[aV ae]
structure nA(K:aQ)(mg:b9)(y:Str)(C R:Addr):Prop where
 base:Exc K mg y R [.type "ValueError",.type "Exception",.type "BaseException",.type "object"] "ValueError.__new__"
 lk:∃la oC uP Fh qL Ha,K.lookup C=some ⟨.type "type",la,.cls oC,uP⟩/\K.lookup R=some ⟨.type "type",Fh,.cls qL,Ha⟩/\Dx oC qL uP C "ValueError.__new__"=true/\oC.hasDict=true
 mc:c_ K (.ref C) "__setattr__"=some (some (.builtin "object.__setattr__"))
 ob:kZ K (.ref C) (.type "object")=some true
 eQ:SM K R (.type "type")=true
 Fq:SA K (.ref R) (.type "type") "__init__"=some (.val (.builtin "ValueError.__init__"))
 Hh:qG K (.ref R) "__getattribute__"=some (some (.builtin "type.__getattribute__"))
 hp:oa K C
 hd:Bg K C=true
end
theorem nA.obj{K:aQ}{mg:b9}{h:Heap}(x:nA K mg y C R)(X:K.In h):
  ∃nm q N bs du sn sub ab col la k0 k1 k2 k3 k5,h.get? C=some (yR nm q C N bs du true sn sub ab col la k0 k1 k2 k3 k5 "ValueError.__new__")/\yl h [.type "ValueError",.type "Exception",.type "BaseException",.type "object"] du:=by obtain⟨la,oC,uP,Fh,qL,Ha,wX,Mz,Bt,hd⟩:=x.lk;obtain⟨nm,q,N,bs,du,sn,sub,ab,col,k0,k1,k2,k3,k5,eC,T⟩:=û X x.base wX Mz Bt;rw[hd]at eC;exact⟨nm,q,N,bs,du,sn,sub,ab,col,la,k0,k1,k2,k3,k5,eC,T⟩
section
variable{X:bx}{o e value:Expr}{es:hB}{f y:Str}{pos pos' fb np:Pos}{bW kh:TE}{t:fo}{R:Addr}
noncomputable def ai5(K:aQ)(mg:b9)(y:Str)(R:Addr)(t:fo):TE:=λσ H Q=>t σ H λvs H1=>∃e C rest,vs=.ref e::rest/\H1 e=some (lU e C)/\nA K mg y C R/\rest.length<=sizeLine/\Q .bJ H1
theorem PT{pl:Sem Bool}(bp:ij X y)(hm:X.mg y=some (.ref R))(eQ:SM X.K R (.type "type")=true)(Fq:SA X.K (.ref R) (.type "type") "__init__"=some (.val (.builtin "ValueError.__init__")))(Hh:qG X.K (.ref R) "__getattribute__"=some (some (.builtin "type.__getattribute__")))(av:fl X (e::es) t)(kC:(y==("__debug__":Str))=false:=by decide)(sj:dt (e::es) X.env=(false,eval e X.env)::dt es X.env:=by rfl)(fg:(gX pos (dt es X.env)).any (·.1)=false:=by rfl)(cO:eval (.Call (.Attribute (.Name y np) "__init__" fb) (e::es) [] pos) X.env=(do
   let fT <-eval (.Name y np) X.env
   uU fb.atName
   let(f,first) <-oO [fT] (yW fT "__init__" pl)
   yG pos f first (gX pos (dt (e::es) X.env)) (kv pos (kI [] X.env))):=by rfl):
  bl X (.Call (.Attribute (.Name y np) "__init__" fb) (e::es) [] pos) (ai5 X.K X.mg y R t):=by
 intro pins s σ H Q I h;refine EF (pl:=pl) (uz I bp hm ?_ kC) cO;refine PySem.W.method_cls I.ef Hh (PySem.W.cls_value I.ef eQ Fq (by decide+kernel) ?_);refine ő (bA (av pos pins _ σ H _ (I.tok _) h) λus s1 hz=>?_) sj fg;obtain⟨vs,H1,aL,cq,ex,C,rest,ev,hex,hv,hz,q⟩:=hz;subst ev;cases cq with
 |cons n3 lB=>
  cases n3;obtain⟨⟨t0,bZ,he⟩,_,_⟩:=(show er X.prog X.w H1 s1.heap ex (lU ex C)from aL.bj ex _ hex)
  obtain⟨nm,kP,N,bs,du,sn,sub,ab,col,la,k0,k1,k2,k3,k5,eC,T⟩:=hv.obj aL.ef;refine rB (Z4 yo T eC he (by rw[<-lB.length];exact hz) λh' t1 bG Vb=>?_);have br:=aL.write (t':=s1.toks) (x:=ex) (e:=ex) (o:=lU ex C) (by rw[hex];exact trivial) (.inl rfl) (λb u ae q=>bG b u ae q) ⟨_,Vb⟩ (RR Vb);rw[abY hex]at br;exact⟨.bJ,H1,br,rfl,q⟩
noncomputable def ac5(K:aQ)(mg:b9)(y:Str)(R:Addr)(to kh:TE)(f:Str):e_:=λD σ H=>kh σ H λv H1=>to σ H1 λx ah=>∃e C,x=.ref e/\nA K mg y C R/\c_ K (.ref C) f=some none/\
 ((ah e=some (lU e C)/\∀ak,ah ak=none->ak≠e->D.cp σ (upd (upd ah ak (nf ak [(f,v)])) e (lT e C ak)))\/
 ∃ak fs,ah e=some (lT e C ak)/\ah ak=some (nf ak fs)/\fs.length<100/\D.cp σ (upd ah ak (nf ak (jV f v fs))))
theorem Pj(av:bl X o bW)(a7:bl X value kh)(hs:zZ value (some (.Attribute o f pos')) pos.line X.env=pure false):fM X (.Assign [.Attribute o f pos'] value pos) (ac5 X.K X.mg y R bW kh f):=by
 intro pins s σ H D I h;refine air (bA (a7 pins s σ H _ I h) λu s1⟨v,H1,aL,cc,q⟩=>bA (av pins s1 σ H1 _ aL q) λfT s2 hz=>?_) hs;obtain⟨x,ah,br,bf,e,C,ex,hv,aX,cH⟩:=hz;subst ex;obtain rfl:fT=cg e:=bf;obtain⟨nm,kP,N,bs,du,sn,sub,ab,col,la,k0,k1,k2,k3,k5,eC,T⟩:=hv.obj br.ef;rcases cH with⟨he,cH⟩|⟨ak,fs,he,FK,hz,cH⟩
 .obtain⟨⟨t0,bZ,se⟩,_,_⟩:=(show er X.prog X.w ah s2.heap e (lU e C)from br.bj e _ he)
  refine aax br.ef ŝ T eC hv.mc aX hv.ob se rfl λh' kR fu FC bG=>?_;have rf:s2.heap.objs.size≠e:=tu (c' se);refine⟨σ,_,Inv.put2 br he (cL _) bG ⟨_,fu⟩ (abX fu) (RS (fs:=[(f,v)]) (show 1<=100 by decide) FC (λg=>?_) ?_),cH _ (br.bj.fresh (cL _)) rf⟩
  .by_cases bp:g=f
   .subst bp;have ae:(g==g)=true:=pE.mpr rfl;simp only[tr,ae,bO];exact cc
   .have ae:(g==f)=false:=yE.mpr bp;simp only[tr,ae,bz bp];exact trivial
  .exact SO f u Ų
 .obtain⟨⟨t0,bZ,se⟩,_,_⟩:=(show er X.prog X.w ah s2.heap e (lT e C ak)from br.bj e _ he)
  obtain⟨⟨aoh,mA,eH,ag8,VA⟩,⟨d2,aoa⟩,_⟩:=(show er X.prog X.w ah s2.heap ak (nf ak fs)from br.bj ak _ FK)
  refine ü br.ef ŝ T eC hv.mc aX hv.ob se rfl eH VA (by rw[cj];omega) λh' kR FC eE=>?_;refine⟨σ,_,br.write (x:=ak) (e:=ak) (o:=nf ak (jV f v fs)) (by rw[FK];exact trivial) (.inl rfl) (λb z ae q=>(eE.2 b ae).trans q) (by obtain⟨cD,_,_,q,_⟩:=FC.ns;exact⟨cD,q⟩) (RS ?_ FC (λg=>?_) ?_),cH⟩
  .have:=Nx f v fs;omega
  .rw[Nm];by_cases q:g=f
   .rw[bO q,bO q];exact cc
   .rw[bz q,bz q];exact ag8 g
  .intro g bp;by_cases q:g=f
   .rw[q];exact(CD f v fs).1
   .exact(CD f v fs).2 g (VA g λz=>bp (by show(if g=f then some u else mA g)=none;rw[bz q];exact z))
end
section
variable{X:bx}{k:Nat}{f C R:Addr}{fd:ni}{ps:ck}{sp:gD}{y:Str}
theorem Ó{H:af}{s:aO}{vs:aR}{Rr:Addr->Addr->af->Prop}(hv:nA X.K X.mg y C R)(hi:c_ X.K (.ref C) "__init__"=some (some (.ref f)))(bE:qF X.K (.ref f)=true)(F:aK X.prog X.w X.K X.mg X.base bq k f fd ps sp)(al:f3 (k+1) X.A)(ae:Binds X.K fd ps [])(I:Inv X pins σ H s)(r:cX vs us)(hz:vs.length<=sizeLine)(h:∀e,H e=none->sp (.ref e::vs) (upd H e (lU e C)) (λv ah=>v=.bJ/\∃ak,ah e=some (lT e C ak)/\Rr e ak ah) mv):
  aN (a_ X.prog X.w) X.A (call (.ref C) us) (λu s'=>∃e ak ah,u=.ref e/\s.heap.get? e=none/\Inv X pins σ ah s'/\ah e=some (lT e C ak)/\Rr e ak ah) X.dT s:=by
 obtain⟨nm,kP,N,bs,du,sn,sub,ab,col,la,k0,k1,k2,k3,k5,eC,T⟩:=hv.obj I.ef;refine Z3 yo T I.ef eC hi (pE.mp bE) (by rw[<-r.length];exact hz) λh' e hle mk=>?_;obtain⟨t,he,aof,cO⟩:=mk.there;have br:Inv X pins σ (upd H e (lU e C)) {s with heap:=h'}:=I.laid (a:=e) (o:=lU e C) (t':=s.toks) mk.keeps hle (RR he);have bo:=h e (I.bj.fresh hle);have dV:cX (V.ref e::vs) (cg e::us):=.cons rfl r;have au:(cg e::us++[]).length=ps.length:=by have aF:=dV.length;rw[F.len _ _ _ _ bo]at aF;rw[vH];exact aF.symm
 have c6:=ae {s with heap:=h'} (cg e::us) br.ef au;rw[vH]at c6;refine rB (pK (F.run _ X.stack _ _ ⟨cg e::us,[]⟩ (cg e::us) _ _ mv (al.make C us []) (br.Fn.make C us []) c6 dV bo) λlB s' pS=>?_);cases lB with
 |error x=>exact iJ pS
 |ok fz=>
  cases fz with
  |ret u=>
   obtain⟨v,H',dg,cc,ev,ak,bC,c5⟩:=br.after pS;subst ev;exact⟨cc,e,ak,H',rfl,mk.new,dg,bC,c5⟩
  |next=>exact iJ pS
  |brk=>exact iJ pS
  |cont=>exact iJ pS
end
section
variable{prog:cA}{w:bU}{A:dn}{E:b6}{s:aO}{env:Env}{K:aQ}{mg:b9}{y:Str}{C R:Addr}
theorem aay{x:Sem Value}{Q:Flow->aO->Prop}(hv:nA K mg y C R)(dh:A.handled=none)(h:aN (a_ prog w) A x (λv dI=>∃e ak t bZ,v=.ref e/\K.In dI.heap/\dI.heap.get? e=some ⟨.ref C,some ak,.fields #[.ref t,.none,.none,.none,.bool false,.none],bZ⟩/\E (.ref e) dI) E s):
  aN (a_ prog w) A (WC env (some x) none) Q E s:=by
 unfold WC;refine aq (hf h (λv dI Mg=>?_) λ_ _ x=>x);obtain⟨e,ak,t,bZ,rfl,X,he,e9⟩:=Mg;obtain⟨nm,kP,N,bs,du,sn,sub,ab,col,la,k0,k1,k2,k3,k5,eC,T⟩:=hv.obj X;have Lq:(cg C::du).contains (.type "BaseException")=true:=by rw[ã,T.hasType (b:=true) (by decide),YC]
 obtain⟨ay,g,d,aH,os⟩:=dI
 repeat (first|with_reducible refine ki he ?_|with_reducible refine ki eC ?_|(with_reducible refine OZ eC ?_;rw[Lq])|wp_step)
 exact wpAny_raiseNew_none dh e9
noncomputable def Þ(h:Heap)(aS:Addr)(d2:Option Addr):Prop:=∀ak,d2=some ak->∃o,h.get? aS=some o/\o.dict=some ak
end
noncomputable def mq(P:cA)(w:bU):mn:=λfr H s E e s'=>∃(aS:Addr)(cls a0:Value)(H':af)(B:Heap)(d2:Option Addr),e=.ref aS/\nV P w fr H s aS cls a0 H' B s'/\Þ s'.heap aS d2/\E cls d2 H'
theorem z_(h:eW P w fr H s E e s'):mq P w fr H s E e s':=by obtain⟨aS,cls,a0,H',B,rfl,T,q⟩:=h;exact⟨aS,cls,a0,H',B,none,rfl,T,(by intro ak z;cases z),q⟩
noncomputable def del(H:af)(a:Addr):af:=λb=>if b=a then none else H b
theorem PU:del H a a=none:=by unfold del;rw[bO rfl]
theorem p3{H:af}(h:b≠a):del H a b=H b:=by unfold del;rw[bz h]
section
variable{P:cA}{w:bU}{K:aQ}{mg:b9}{base:Heap}{N:ck}{qual:Str}{scope:Scope}{f:Addr}{cdv:Value}{A:dn}{outer:List Env}{s:aO}{H:af}{E:bP}
noncomputable abbrev iR(P:cA)(w:bU)(K:aQ)(mg:b9)(base:Heap)(N:ck)(qual:Str)(scope:Scope)(f:Addr)(cdv:Value)(A:dn)(outer:List Env)(s:aO)(H:af)(E:bP):bx:=
 je (mq P w) P w K mg base N qual scope f cdv A outer s H E
theorem W6(I:Inv (iR P w K mg base N qual scope f cdv A outer s H E) pins σ H1 s1):Inv (fI P w K mg base N qual scope f cdv A outer s H E) pins σ H1 s1:=I.m' _
theorem ad0(h:(fI P w K mg base N qual scope f cdv A outer s H E).dT e s'):(iR P w K mg base N qual scope f cdv A outer s H E).dT e s':=
 hf h (λ_ _ q=>z_ q) λ_ _ q=>z_ q
theorem OG:nU (eW P w) (iR P w K mg base N qual scope f cdv A outer s H E) E:=λpins σ cE sc e s' I h=>ad0 (oR pins σ cE sc e s' (W6 I) h)
theorem akd{H1:af}(I:Inv (iR P w K mg base N qual scope f cdv A outer s H E) pins σ H1 s1)(ax:H1 aS=some (lT aS C ak))(hold:s.heap.get? aS=none)(e9:E (.ref C) (some ak) (del H1 aS)):(iR P w K mg base N qual scope f cdv A outer s H E).dT (.ref aS) s1:=by
 obtain⟨⟨t,bZ,se⟩,_,_⟩:=(show er P w H1 s1.heap aS (lT aS C ak)from I.bj aS _ ax)
 obtain⟨S,ee⟩:∃S,S=ff (iR P w K mg base N qual scope f cdv A outer s H E).stack:=⟨_,rfl⟩
 have i9:∀env∈(iR P w K mg base N qual scope f cdv A outer s H E).stack,∀b,env.frame=some b->b∈aS::S:=λenv he b ae=>by rw[ee];exact mz _ (I2.mpr ⟨env,he,ae⟩)
 have B8:∀b o,H1 b=some o->b∉S:=λb o e z=>by rw[ee]at z;rw[I.Hl b z]at e;cases e
 have kD:∀b o,s1.heap.get? b=some o->b≠aS->b∉S->(vR s1.heap (aS::S)).get? b=some o:=λb o e n m=>SE _ e λz=>by
  rcases dX.mp z with z|z
  .exact n z
  .exact m z
 have Gz:∀b o,s.heap.get? b=some o->b≠aS:=λb o e z=>by rw[z,hold]at e;cases e
 have rr:∀b o,s.heap.get? b=some o->b∉ff outer->b∉S:=λb o e ae=>by rw[ee];exact zK (W6 I) e ae
 have zH:∀{b:Addr}{u:hN},H1 b=some u->(∀mj,u≠.ext mj)->b≠aS:=λ{b u}q n z=>by subst z;rw[ax]at q;exact n _ (fG q).symm
 have Vf:(vR s1.heap (aS::S)).get? aS=none:=ũ _ (.head _);refine hf (PN WB (wpAny_leaving_firstW (base:=vR s1.heap (aS::S)) (a0:=.ref t) (Q:=λ_ s'=>∃h',s'={s1 with heap:=h'}/\Heap.LeftW (vR s1.heap (aS::S)) _ aS (.ref C) (.ref t) s1.heap h') (E:=λ_ _=>False)
  I.ok.frames (ŧ I.stack i9) rfl se (λb o q=>SJ _ q) Vf rfl rfl rfl λh' hr=>⟨h',rfl,hr⟩)) (λ_ s'⟨⟨h',es,hr⟩,dO⟩=>?_) λ_ _ z=>z.1.elim
 subst es;obtain⟨k1,⟨_,_,k2⟩,k3,DL⟩:=hr;have eg:Q1 (vR s1.heap (aS::S)) outer aS (.ref C) (.ref t) h':=⟨k1,Vf,k2,k3⟩
 refine⟨aS,.ref C,.ref t,del H1 aS,_,some ak,rfl,⟨eg,I.os,I.bare,λb ob e=>?_,⟨λb o e n ae fu=>?_,λb o e n ae fu=>?_,λb o e n fu=>?_,λb o e fu=>?_,λb xs q=>?_,λb o u q=>?_,λb ps q=>?_⟩,λb o e ae=>?_⟩,?_,e9⟩
 .have ae:b≠aS:=λz=>by rw[z,PU]at e;cases e
  rw[p3 ae]at e;refine(I.bj b ob e).md (λc u ar q=>?_) (λc r=>by rw[p3 (zH r (by intro mj z;cases z))];exact r) λc xs r=>by rw[p3 (zH r (by intro mj z;cases z))];exact r
  rcases ar with rfl|ar
  .exact kD c u q ae (B8 c _ e)
  .exact kD c u q (zH ar (by intro mj z;cases z)) (B8 c _ ar)
 .exact eg.1 b o (kD b o (I.base.keep b o e n ae fu) (Gz b o e) (rr b o e ae))
 .obtain⟨n8,z⟩:=I.base.slot b o e n ae fu;obtain⟨_,ob,bB,gw⟩:=I.j5.mem ae;rw[z]at bB;cases bB;obtain⟨NV,cZ⟩:=DL b _ z gw;exact⟨NV,cZ⟩
 .rw[p3 (Gz b o e)];exact I.base.free b o e n fu
 .obtain⟨cD,z⟩:=I.base.there b o e fu;by_cases ae:b∈ff outer
  .obtain⟨_,ob,bB,gw⟩:=I.j5.mem ae;obtain⟨n8,cZ⟩:=DL b _ bB gw;exact⟨_,cZ⟩
  .exact⟨cD,eg.1 b cD (kD b cD z (Gz b o e) (rr b o e ae))⟩
 .have r:=I.base.fi b xs q;rw[p3 (zH r (by intro mj z;cases z))];exact r
 .have r:=I.base.iT b o u q;rw[p3 (zH r (by intro mj z;cases z))];exact r
 .obtain⟨m,r⟩:=I.base.ji b ps q;exact⟨m,by rw[p3 (zH r (by intro mj z;cases z))];exact r⟩
 .obtain⟨cD,z⟩:=I.base.there b o e (by simp[iR,je]);refine⟨cD,kD b cD z (Gz b o e) (rr b o e ae),λn=>?_⟩;have aP:=I.base.keep b o e n ae (by simp[iR,je]);rw[z]at aP;exact fG aP
 .intro am1 cV;cases cV;obtain⟨ob,wG,_⟩:=eg.there;exact⟨ob,wG,dO.dict se wG⟩
noncomputable def aaz(C:Addr)(sp:gD)(E:bP)(bW:fo):e_:=λ_ σ H=>bW σ H λvs H1=>vs.length<=sizeLine/\∀e,H1 e=none->sp (.ref e::vs) (upd H1 e (lU e C)) (λv ah=>v=.bJ/\∃ak,ah e=some (lT e C ak)/\E (.ref C) (some ak) (del ah e)) mv
theorem GI{k:Nat}{e5:Pos}{dm:Expr}{es:hB}{bW:fo}(hv:nA K mg y C R)(hm:mg x=some (.ref C))(agN:mF K (.ref C)=true)(hi:c_ K (.ref C) "__init__"=some (some (.ref nI)))(bE:qF K (.ref nI)=true)(F:aK P w K mg base bq k nI fd ps sp)(al:f3 (k+1) (iR P w K mg base N qual scope f cdv A outer s H E).A)(ae:Binds K fd ps [])(bp:ij (iR P w K mg base N qual scope f cdv A outer s H E) x)(av:fl (iR P w K mg base N qual scope f cdv A outer s H E) (dm::es) bW)(kC:(x==("__debug__":Str))=false:=by decide)(he:dt (dm::es) (iR P w K mg base N qual scope f cdv A outer s H E).env=(false,eval dm (iR P w K mg base N qual scope f cdv A outer s H E).env)::dt es (iR P w K mg base N qual scope f cdv A outer s H E).env:=by rfl)(fg:(gX e5 (dt es (iR P w K mg base N qual scope f cdv A outer s H E).env)).any (·.1)=false:=by rfl):
  fM (iR P w K mg base N qual scope f cdv A outer s H E) (.Raise (some (.Call (.Name x np) (dm::es) [] e5)) none pos) (aaz C sp E bW):=by
 intro pins s1 σ H1 D I h;rw[arm_exec_Raise];refine aq (HK ?_);show aN _ _ (WC _ (some (do
  let v <-eval (.Call (.Name x np) (dm::es) [] e5) (iR P w K mg base N qual scope f cdv A outer s H E).env
  uU pos
  pure v)) none) _ _ _
 refine aay hv (I.ok.hd rfl) (aq (xH (uz I bp hm ?_ kC)));refine Be (h₀:=base) I.ok.mod.su agN (bA (av e5 pins s1 σ H1 _ I h) λus s2⟨vs,ah,br,r,hz,q⟩=>⟨br.ef,?_⟩) he fg;refine bA (Ó (X:=iR P w K mg base N qual scope f cdv A outer s H E) (Rr:=λe ak ah=>E (.ref C) (some ak) (del ah e)) hv hi bE F al ae br r hz q) λu aW hz=>?_;obtain⟨e,ak,aU,lS,FV,dg,bC,e9⟩:=hz;subst lS;obtain⟨⟨t,bZ,se⟩,_,_⟩:=(show er P w aU aW.heap e (lT e C ak)from dg.bj e _ bC)
 refine aq (HK (ba ⟨e,ak,t,bZ,rfl,dg.ef,se,akd dg bC ?_ e9⟩));cases C6:s.heap.get? e with
 |none=>rfl
 |some o=>
  obtain⟨cD,z⟩:=br.base.there e o C6 (by simp[iR,je]);rw[FV]at z;cases z
theorem CY{st:Stmt}{ps:ck}{k:Nat}{sp:gD}(F:cz K x qual st f fd)(S:de N ps (cy st))(wB:∀(cdv:Value)(A:dn)(outer:List Env)(s:aO)(H:af)(vs:aR)(Q:a4)(E:bP),f3 k (A.deeper (oG qual (cy st) s.heap.objs.size f cdv))->sp vs H Q E->
   ∃t,gc (iR P w K mg base N qual (cy st) f cdv A outer s H E) (ky st) t/\t {cp:=λ_ H'=>Q .bJ H',h9:=Q} (start N vs) H)(len:∀vs H Q E,sp vs H Q E->vs.length=ps.length:=by intro _ _ _ _ h;first|(cases h;subst_vars;rfl)|((repeat obtain⟨_,h⟩:=h);subst_vars;rfl)):aK P w K mg base (mq P w) (k+1) f fd ps sp:=by obtain⟨jX,d2,c0,doc,pm,an,cdv,ec,lx,rfl,lk,lY⟩:=F.ex;exact IJ lk lY S len λA outer s H vs Q E al oP=>wB cdv A outer s H vs Q E al oP
end
theorem Ö{K:aQ}{xs:aR}{g:kr}{aA:e_}{D:Ends}{H:af}(Pv:Nat->ao.St->af->Prop)(a8:Pv 0 σ H)(au:∀i σ H,Pv i σ H->aJ K H a xs)(hs:∀i x σ H p,xs[i]?=some x->Pv i σ H->H p=none->g (.ref p) σ (upd H p (.tup [.int i,x])) λgA ah=>aA {D with cp:=Pv (i+1),ec:=Pv (i+1),ho:=D.cp} gA ah)(hd:∀σ H,Pv xs.length σ H->D.cp σ H):
  ∃W:Nat->Nat->ao.St->af->Prop,(∃m,W 0 m σ H)/\∀i m σ H,W i m σ H->
   ((rK K a).stop i H/\D.cp σ H)\/((rK K a).go i H/\∃N:ao.St->af->Prop,(∀a' H',N a' H'->∃c4,c4<m/\W (i+1) c4 a' H')/\∀x H',(rK K a).oi i H x H'->g x σ H' λgA ah=>aA {D with cp:=N,ec:=N,ho:=D.cp} gA ah):=by
 refine⟨λi m σ H=>m=xs.length-i/\i<=xs.length/\Pv i σ H,⟨xs.length,by simp,ej _,a8⟩,?_⟩;rintro i m σ H ⟨rfl,hi,p⟩;have q:=au i σ H p;by_cases dw:i<xs.length
 .refine .inr ⟨⟨xs,xs[i],q,by simp[dw]⟩,Pv (i+1),λa' H' gJ=>⟨xs.length-(i+1),by omega,rfl,dw,gJ⟩,λv H' y=>?_⟩;obtain⟨r,x,al,rfl,ax,rfl⟩:=y;exact hs i x σ H r (ax xs q) p al
 .have e:i=xs.length:=by omega
  subst e;exact .inl ⟨⟨xs,q,cL _⟩,hd σ H p⟩
end b5
namespace c2
open PySem ao b5 cQ
theorem aaA(x y:Str):i2 (.str x) (.str y)=decide (x=y):=by
 by_cases h:x=y
 .subst h;rw[b4 rfl];simp[i2]
 .rw[cM h];simp[i2,h]
theorem aaB{hs:bt}{k:Nat}(h:k<hs.length):inD (.str (S (hs.getD k []))) (bF hs)=true:=by
 unfold inD bF;rw[pg];have hm:hs.getD k []∈hs:=by rw[eb,dW h];exact qy h
 exact⟨_,cw.mpr ⟨_,cw.mpr ⟨_,hm,rfl⟩,rfl⟩,by rw[aaA];exact b4 rfl⟩
inductive Ζ(H1:af)(D:Addr)(rest:ao.St)(us:aR)(i m:Nat)(zs:aR)(σ:ao.St)(H:af):Prop where
 |mk (o cD:ju) (aT:m=us.length-i) (aP:i<=us.length) (bh:zs=us.take i) (cf:σ=o::cD::rest) (cP:aB H1 H) (dM:H D=some (.lst zs))
theorem Ø{K:aQ}{wi:el}{a b:Nat}{xs ys us:aR}{rest:ao.St}{te:TE}{Q:a4}{H1:af}(hw:∀R:gm->af->Prop,R (Az K a b) H1->wi σ H R)(g0:h5 cs σ=none::none::rest)(av:cG K H1 a xs)(ae:aJ K H1 b ys)(au:xs.length<sizeLine)(eu:ys.length=xs.length)(MJ:us.length=xs.length)(elt:∀(i:Nat)(x y u:ao.V)(ah:af)(R:a4),xs[i]?=some x->ys[i]?=some y->us[i]?=some u->aB H1 ah->(∀b1,aB ah b1->R u b1)->te (some x::some y::rest) ah R)(fin:∀(D:Addr)(H':af),H1 D=none->H' D=some (.lst us)->aB H1 H'->Q (.ref D) H'):
  o5 wi cs (vm K 2 (p4 (jD 0) (p4 (jD 1) xT))) sY te σ H Q:=by
 refine hw _ λD bF=>?_;refine⟨Ζ H1 D rest us,⟨us.length,⟨none,none,by simp,ej _,by simp,g0,aZ bF,aE⟩⟩,?_⟩;rintro i m zs a' H' ⟨o,cD,rfl,hi,rfl,rfl,az,g_⟩;have hr:cG K H' a xs:=b5.aB.tup az av;have BQ:aJ K H' b ys:=az.seq ae;refine⟨g_,qC (by rw[ya];omega) au,?_⟩;by_cases dw:i<xs.length
 .have ex:xs[i]?=some xs[i]:=dW dw;have dU:ys[i]?=some (ys[i]'(by omega)):=dW (by omega);have lS:us[i]?=some (us[i]'(by omega)):=dW (by omega);refine .inr ⟨⟨xs,ys,_,_,hr,BQ,ex,dU⟩,λx ah y=>?_⟩;obtain⟨q,mh,d9,bo,rfl,fu,Mb,rfl⟩:=y;have sP:aB H' (upd H' q (.tup [mh,d9])):=aZ bo;refine⟨q,_,rfl,cG.of aE,rfl,⟨_,_,rfl,⟨_,_,rfl,rfl,?_⟩⟩⟩;show te (some mh::some d9::rest) _ _;refine elt i mh d9 _ _ _ (fu xs hr) (Mb ys BQ) lS (az.trans sP) λb1 dY=>⟨dY _ _ (sP _ _ g_),us.length-(i+1),by omega,some mh,some d9,rfl,by omega,?_,rfl,fO bF ((az.trans sP).trans dY),aE⟩
  rw[yd,lS];rfl
 .have e:i=us.length:=by omega
  subst e;rw[ye]at g_;exact .inl ⟨⟨xs,ys,hr,BQ,by omega⟩,fin D H' bF g_ az⟩
theorem Ù{K:aQ}{wi:el}{a:Nat}{xs ys us:aR}{rest:ao.St}{te:TE}{Q:a4}{H:af}(hw:∀R:gm->af->Prop,(∀p H1,H p=none->aB H H1->H1 p=some (.lst ys)->R (Az K a p) H1)->wi σ H R)(g0:h5 cs σ=none::none::rest)(av:cG K H a xs)(au:xs.length<sizeLine)(eu:ys.length=xs.length)(MJ:us.length=xs.length)(elt:∀(i:Nat)(x y u:ao.V)(ah:af)(R:a4),xs[i]?=some x->ys[i]?=some y->us[i]?=some u->aB H ah->(∀b1,aB ah b1->R u b1)->te (some x::some y::rest) ah R)(fin:∀(D:Addr)(H':af),H D=none->H' D=some (.lst us)->aB H H'->Q (.ref D) H'):
  o5 wi cs (vm K 2 (p4 (jD 0) (p4 (jD 1) xT))) sY te σ H Q:=
 hw _ λp H1 np s1 ay=>Ø (wi:=λ_ _ R=>R (Az K a p) H1) (H:=H) (H1:=H1) (λ_ h=>h) g0 (b5.aB.tup s1 av) (aJ.of ay) au eu MJ (λi x y u ah R ex dU lS az bG=>elt i x y u ah R ex dU lS (s1.trans az) bG) λD H' l_ bF az=>fin D H' (by
  cases e:H D with
  |none=>rfl
  |some o=>rw[s1 _ _ e]at l_;cases l_) bF (s1.trans az)
end c2
namespace b5
open PySem PySem.Spec PyProof.Rows ao
inductive abZ(cs:Addr->gD->Prop)(v:V)(R:gD->Prop):Prop where
 |mk (f:Addr) (sp:gD) (aT:v=.ref f) (aP:cs f sp) (bh:R sp)
noncomputable def ab0(cs:Addr->gD->Prop)(E:bP)(rt:TE)(t:fo):TE:=λσ H Q=>rt σ H λv H1=>abZ cs v λsp=>t σ H1 λvs ah=>sp (vs++[]) ah Q E
inductive AY(P:cA)(w:bU)(K:aQ)(mg:b9)(base:Heap)(CX:mn)(k:Nat)(f:Addr)(sp:gD):Prop where
 |mk (fd:ni) (ps:ck) (aT:aK P w K mg base CX k f fd ps sp) (aP:Binds K fd ps []) (bh:mF K (.ref f)=true)
section
variable{X:bx}{CX:mn}{k:Nat}{cs:Addr->gD->Prop}{E:bP}{Ft e:Expr}{es:hB}{rt:TE}{t:fo}{pos:Pos}
theorem PV(bE:bl X Ft rt)(g0:∀f sp,cs f sp->AY X.prog X.w X.K X.mg X.base CX k f sp)(al:f3 k X.A)(ax:nU CX X E)(av:fl X (e::es) t)(ar:eval (.Call Ft (e::es) [] pos) X.env=(do yG pos (<-eval Ft X.env) [] (gX pos (dt (e::es) X.env)) (kv pos (kI [] X.env))):=by rfl)(he:dt (e::es) X.env=(false,eval e X.env)::dt es X.env:=by rfl)(fg:(gX pos (dt es X.env)).any (·.1)=false:=by rfl):
  bl X (.Call Ft (e::es) [] pos) (ab0 cs E rt t):=by intro pins s σ H Q I h;rw[ar];refine aq (bA (bE pins s σ H _ I h) λu s1 hz=>?_);obtain⟨v,H1,aL,cc,f,sp,ev,c,q⟩:=hz;subst ev;obtain rfl:u=cg f:=cc;obtain⟨fd,ps,F,ae,aD⟩:=g0 f sp c;refine Be (h₀:=X.base) aL.ok.mod.su aD (bA (av pos pins s1 σ H1 _ aL q) λus s2 hz=>?_) he fg;obtain⟨vs,ah,br,r,cH⟩:=hz;exact⟨br.ef,HQ F al ae .nil ax br r cH⟩
end
inductive TopD(w:bU)(K:aQ)(a:Addr):Prop where
 |mk (es:Array pe) (n:Nat) (aT:K.lookup a=some ⟨.type "dict",none,.dict es n,#[]⟩) (aP:š w.params es.toList) (bh:(a==kg)=false)
inductive ad1(w:bU)(K:aQ)(neg:Bool)(y x:V)(H:af)(Q:a4):Prop where
 |mk (k:Str) (a:Addr) (r:yA) (aT:y=.str k) (aP:x=.ref a) (bh:TopD w K a) (cf:iM K a k=some r) (cP:Q (.aM (cond neg (!r.isSome) r.isSome)) H)
inductive ac6(w:bU)(K:aQ)(x y:V)(H:af)(Q:a4):Prop where
 |mk (k:Str) (a f:Addr) (aT:y=.str k) (aP:x=.ref a) (bh:TopD w K a) (cf:iM K a k=some (some (.ref f))) (cP:Q (.ref f) H)
noncomputable def TX(w:bU)(K:aQ)(neg:Bool)(ty c1:TE):TE:=λσ H Q=>ty σ H λy H1=>c1 σ H1 λx ah=>ad1 w K neg y x ah Q
noncomputable def ac7(w:bU)(K:aQ)(c1 ty:TE):TE:=λσ H Q=>c1 σ H λx H1=>ty σ H1 λy ah=>ac6 w K x y ah Q
section
variable{X:bx}{o i:Expr}{pos:Pos}{c1 ty:TE}
theorem ab1(hi:bl X i ty)(aI:bl X o c1):ym X .In i o (TX X.w X.K false ty c1):=by
 intro pins s σ H Q I h;refine bA (hi pins s σ H _ I h) λkE s1 hz=>?_;obtain⟨y,H1,aL,bD,bw⟩:=hz;refine bA (aI pins s1 σ H1 _ aL bw) λu s2 hz=>?_;obtain⟨x,ah,br,bf,k,a,r,dU,ex,⟨es,n,au,aD,lo⟩,e,cH⟩:=hz;subst dU ex;obtain rfl:u=cg a:=bf;obtain⟨t,rfl⟩:=(show∃t,kE=tG k t from bD)
 refine wpAny_in_of (WW X.prog X.w k t) lo (SH (prog:=X.prog) br.ef au aD) ?_;rw[SD au e];exact⟨.aM _,ah,br.tok _,rfl,cH⟩
theorem Z5(hi:bl X i ty)(aI:bl X o c1):ym X .NotIn i o (TX X.w X.K true ty c1):=by
 intro pins s σ H Q I h;refine bA (hi pins s σ H _ I h) λkE s1 hz=>?_;obtain⟨y,H1,aL,bD,bw⟩:=hz;refine bA (aI pins s1 σ H1 _ aL bw) λu s2 hz=>?_;obtain⟨x,ah,br,bf,k,a,r,dU,ex,⟨es,n,au,aD,lo⟩,e,cH⟩:=hz;subst dU ex;obtain rfl:u=cg a:=bf;obtain⟨t,rfl⟩:=(show∃t,kE=tG k t from bD)
 refine ajX (WW X.prog X.w k t) lo (SH (prog:=X.prog) br.ef au aD) ?_;rw[SD au e];exact⟨.aM _,ah,br.tok _,rfl,cH⟩
theorem QK(aI:bl X o c1)(hi:bl X i ty)(hs:JE i):bl X (.Subscript o i pos) (ac7 X.w X.K c1 ty):=by
 intro pins s σ H Q I h;refine Qw ś.lookup hs (bA (aI pins s σ H _ I h) λu s1 hz=>?_);obtain⟨x,H1,aL,bf,bw⟩:=hz;refine bA (hi pins s1 σ H1 _ aL bw) λkE s2 hz=>?_;obtain⟨y,ah,br,bD,k,a,f,dU,ex,⟨es,n,au,aD,lo⟩,e,cH⟩:=hz;subst dU ex;obtain rfl:u=cg a:=bf;obtain⟨t,rfl⟩:=(show∃t,kE=tG k t from bD)
 have hm:=SH (prog:=X.prog) br.ef au aD;exact⟨hm.typeIs,ajQ (WW X.prog X.w k t) hm (SD au e) ⟨.ref f,ah,br.tok _,rfl,cH⟩⟩
end
end b5
namespace c2
open PySem ao b5
inductive mG where
 |t|n|r
noncomputable def EK:Str:=bK "-"
noncomputable def mG.eQ:mG->Str->ao.V->Prop
 |.t,w,v=>v=.str w
 |.n,w,v=>∃m:Nat,m<10 ^ 10/\w=S (cB m)/\v=.int (m:Int)
 |.r,w,v=>(w=EK/\v=.bJ)\/∃m:Nat,m<10 ^ 10/\w=S (cB m)/\v=.int (m:Int)
inductive rV:List mG->List Str->List ao.V->Prop
 |nil:rV [] [] []
 |cons {k:mG} {w:Str} {v:ao.V} {eD:List mG} {ws:ck} {vs:aR} (h:k.eQ w v) (t:rV eD ws vs):rV (k::eD) (w::ws) (v::vs)
theorem rV.len{eD:List mG}{ws:ck}{vs:aR}(h:rV eD ws vs):ws.length=eD.length/\vs.length=eD.length:=by
 induction h with
 |nil=>exact⟨rfl,rfl⟩
 |cons _ _ a5=>exact⟨by rw[fV,fV,a5.1],by rw[fV,fV,a5.2]⟩
theorem rV.get{eD:List mG}{ws:ck}{vs:aR}(h:rV eD ws vs):∀{i:Nat}{k:mG}{w:Str}{v:ao.V},eD[i]?=some k->ws[i]?=some w->vs[i]?=some v->k.eQ w v:=by
 induction h with
 |nil=>intro i k w v e;exact nomatch e
 |cons h _ a5=>
  intro i k w v aF aG cR;cases i with
  |zero=>cases aF;cases aG;cases cR;exact h
  |succ i=>exact a5 aF aG cR
section
variable{P:cA}{w:bU}{K:aQ}{mg:b9}{base:Heap}
inductive JS(vs:aR)(H:af)(Q:a4)(E:bP):Prop where
 |mk (v:ao.V) (aT:vs=[v]) (aP:Q v H)
noncomputable abbrev NQ:Stmt:=top 88
theorem ad2:de mB mB (cy NQ):={}
theorem ab2{f:Addr}(F:cz K "as_text" "as_text" NQ f fd):aK P w K mg base bq 1 f fd mB JS:=by
 refine F.ok ad2 (λ_ A _ s H vs Q E al h=>?_)
 .obtain⟨v,rfl,q⟩:=h;exact⟨_,(bg (cm (aa 0))),_,rfl,q⟩
inductive EL(vs:aR)(H:af)(Q:a4)(E:bP):Prop where
 |mk (m:Nat) (aT:vs=[.str (S (cB m))]) (aP:m<10 ^ 10) (bh:∀H',aB H H'->Q (.int (m:Int)) H')
noncomputable abbrev G4:Stmt:=top 89
theorem ad3:de mB mB (cy G4):={}
noncomputable def Tb:gD:=λvs H Q _=>∃m:Nat,vs=[.str (S (cB m))]/\m<10 ^ 10/\∀H',aB H H'->Q (.aM true) H'
noncomputable abbrev EG:Stmt:=top 18
theorem abA{f:Addr}(F:cz K "as_number" "as_number" G4 f fd)(B:eR mg)(tQ:bX K mg "is_written_number" EG ["text"] f1 dN)(aiC:aK P w K mg base bq 1 f1 dN ["text"] Tb):aK P w K mg base bq 2 f fd mB EL:=by
 refine F.ok ad3 (λ_ A _ s H vs Q E al h=>?_)
 .obtain⟨m,rfl,hm,q⟩:=h;refine⟨_,(a9 (dH (jx (i7 (dB aiC al.mono (by rfl) tQ.at_ tQ.fn.b3 tQ.bd .nil cJ (ag (aa 0) aw)))) (bg zv) dJ)
   (bg (cm (iv ZD (by rfl) B.int Du (ag (aa 0) aw))))),?_⟩
  have dr:=sI hm;exact⟨_,rfl,m,rfl,hm,λH' s'=>⟨_,rfl,f5 ⟨_,rfl,_,_,rfl,Ý hm,by rw[dR];omega,q H' s'⟩⟩⟩
inductive I'(vs:aR)(H:af)(Q:a4)(E:bP):Prop where
 |mk (z:Str) (v:ao.V) (aT:vs=[.str z]) (aP:mG.r.eQ z v) (bh:∀H',aB H H'->Q v H')
noncomputable abbrev JN:Stmt:=top 91
theorem ac8:de mB mB (cy JN):={}
theorem Zd(m:Nat):S (cB m)≠EK:=λz=>by
 have e:EK=S [45]:=by decide+kernel
 rw[e]at z;have aG:cB m=[45]:=by have:=ek (λx:Str=>x.cps.toList) z;simpa using this
 have:=xk (m:=m) (c:=45) (by rw[aG];exact .head _);omega
theorem abB{f:Addr}(F:cz K "as_road_or_none" "as_road_or_none" JN f fd)(qN:bX K mg "as_number" G4 mB f1 dN)(YA:aK P w K mg base bq 2 f1 dN mB EL):aK P w K mg base bq 3 f fd mB I':=by
 refine F.ok ac8 (λ_ A _ s H vs Q E al h=>?_)
 .obtain⟨z,v,rfl,eQ,q⟩:=h;refine⟨_,(a9 (dH (dG jd (aa 0) cv (dE _)) (bg (cm oT)) dJ)
   (bg (cm (dB YA al.mono (by rfl) qN.at_ qN.fn.b3 qN.bd .nil cJ (ag (aa 0) aw))))),?_⟩
  rcases eQ with⟨rfl,rfl⟩|⟨m,hm,rfl,rfl⟩
  .exact⟨_,rfl,rfl,_,rfl,cY (b4 rfl) (q H (aB.refl _))⟩
  .exact⟨_,rfl,rfl,_,rfl,c3 (cM λy=>Zd m (V.str.inj y)) ⟨_,rfl,m,rfl,hm,q⟩⟩
end
inductive jz(K:aQ)(dA:Addr)(kw:Str)(fs:c7):Prop where
 |mk (aH:Addr) (dd:Option Addr) (n:Nat) (bZ:k6) (aT:iM K dA kw=some (some (.ref aH))) (aP:K.lookup aH=some ⟨.type "tuple",dd,.seq (fs.map cg).toArray n,bZ⟩)
structure ny where
 (t n r:Addr)
noncomputable def ny.f(R:ny):mG->Addr
 |.t=>R.t
 |.n=>R.n
 |.r=>R.r
inductive Bi(R:ny):Addr->gD->Prop
 |t:Bi R R.t JS
 |n:Bi R R.n EL
 |r:Bi R R.r I'
theorem CE:∀fs:List Addr,cX (bM fs) (fs.map cg)
 |[]=>.nil
 |_::fs=>.cons rfl (CE fs)
theorem ć(x:ao.V)(xs:aR):vb (x::xs) (some 1) none=xs:=by unfold vb;have g:gB.hc (x::xs).length 0 (some ((1:Nat):Int))=min 1 (x::xs).length:=gB.aiQ _ _ 1;rw[show(some (1:Int))=some ((1:Nat):Int)from rfl,g,gB.aiR,fV,Ě (by omega)];show(xs.take (xs.length+1-1))=xs;rw[Nat.add_sub_cancel,ye]
section
variable{P:cA}{w:bU}{K:aQ}{mg:b9}{base:Heap}
noncomputable def kd(ws:ck):List ao.V:=ws.map V.str
inductive Tc(K:aQ)(R:ny)(dA:Addr)(vs:aR)(H:af)(Q:a4)(E:bP):Prop where
 |mk (a:Addr) (kw:Str) (ws:ck) (eD:List mG) (us:aR) (aT:vs=[.ref a]) (aP:H a=some (.lst (kd (kw::ws)))) (bh:jz K dA kw (eD.map R.f)) (cf:rV eD ws us) (cP:eD.length<=10) (dM:∀l H',H l=none->aB H H'->H' l=some (.lst us)->Q (.ref l) H')
noncomputable abbrev EH:Stmt:=top 94
theorem Td:de ["words","form"] ["words"] (cy EH):={}
theorem abC{f:Addr}{R:ny}(F:cz K "values_of" "values_of" EH f fd)(B:eR mg)(zz:mg "FORMS"=some (.ref dA))(yx:TopD w K dA)(g0:∀g sp,Bi R g sp->AY P w K mg base bq 3 g sp):aK P w K mg base bq 4 f fd ["words"] (Tc K R dA):=by
 refine F.ok Td (λ_ A _ s H vs Q E al h=>?_)
 .obtain⟨a,kw,ws,eD,us,rfl,av,⟨aH,dd,n,bZ,iy,lR⟩,eQ,Mo,q⟩:=h;refine⟨_,(a9 (dH (uF (Z5 (cU gr (aa 0) bc (λ_ _=>rfl)) (lp (by rfl) zz))) (bg zv) dJ)
   (a9 (c8 (i:=1) Td.aC rfl (ct rfl) (QK (lp (by rfl) zz) (cU gr (aa 0) bc (λ_ _=>rfl)) (λ_ _=>rfl)))
   (a9 (dH (dG rm (b7 zU (df iQ (by rfl) B.len g7 (ag (aa 0) aw)) bc) (df iQ (by rfl) B.len g7 (ag (aa 1) aw)) (dE _)) (bg zv) dJ)
   (bg (cm (lq (N':=["read","word"]) (cs:=[none,none]) rfl (aav rfl B.zip (ag (aa 1) (ag (OL Qu (aa 0) (Hx bc) Qt) aw))) rfl (by decide+kernel) rfl (by decide+kernel) (jy (λp ay=>bk ay (di))) rfl
    (.own (.own .nil))
    (λC aW aU b0 ez=>⟨(Hz (K:=K) (n:=2) rfl rfl (oK (eo (i:=0) (by show(["read","word"]:ck).Nodup;decide+kernel) rfl (.inl rfl)) (oK (eo (i:=1) (by show(["read","word"]:ck).Nodup;decide+kernel) rfl (.inl rfl)) zJ))),lg,(PV (aa 0) g0 al.mono cJ (ag (aa 1) aw))⟩))))))),?_⟩
  try dsimp only[gR,gQ]
  obtain⟨lw,MJ⟩:=eQ.len;have cO:∀{Q5:af},cG K Q5 aH (bM (eD.map R.f)):=λ{Q5}=>.inr ⟨_,_,_,lR,rfl,rfl,by simp;exact e1 Mo (by decide),CE _⟩;have qJ:ao.hD (kd (kw::ws)) 0=some (.str kw):=mV (j:=0) rfl;refine⟨_,rfl,a,_,_,_,rfl,rfl,aJ.of av,qJ,kw,dA,_,rfl,rfl,yx,iy,_,rfl,c3 rfl ?_⟩;refine⟨_,rfl,a,_,_,_,rfl,rfl,aJ.of av,qJ,kw,dA,aH,rfl,rfl,yx,iy,?_⟩;refine⟨_,rfl,a,_,rfl,.inl (aJ.of av),_,_,rfl,rfl,_,rfl,aH,_,rfl,.inr cO,rfl,_,rfl,?_⟩;have le:(kd (kw::ws)).length=eD.length+1:=by unfold kd;rw[cj,fV,lw]
  have lf:(bM (eD.map R.f)).length=eD.length:=by rw[i4,cj]
  refine c3 (show(!decide (V.int (((kd (kw::ws)).length:Int)-1)=V.int ((bM (eD.map R.f)).length:Int)))=false by rw[le,lf,b4 (by congr 1;omega)];rfl) ?_;dsimp only[sO,rz];refine Ù (K:=K) (a:=aH) (xs:=bM (eD.map R.f)) (ys:=kd ws) (us:=us) (rest:=[]) (λRr h=>⟨_,rfl,_,rfl,_,rfl,a,_,rfl,aJ.of av,λp np=>⟨aH,p,rfl,⟨_,cO⟩,⟨_,aJ.of aE⟩,h p _ np (aZ np) (by rw[aE];congr 2;exact ć _ _)⟩⟩) rfl cO (en (by omega)) (by rw[lf];unfold kd;rw[cj,lw]) (by omega) (λi x y u ah Rr ex dU lS az bG=>?_) (λD H' l_ bF az=>q D H' l_ az bF);unfold bM at ex;rw[jK,d0]at ex;obtain⟨k,e6,rfl⟩:=iq.mp ex;unfold kd at dU;rw[d0]at dU;obtain⟨z,g9,rfl⟩:=iq.mp dU;have aD:=eQ.get e6 g9 lS;cases k with
  |t=>
   have aD:u=.str z:=aD;subst aD;exact⟨_,rfl,R.t,JS,rfl,.t,_,rfl,_,rfl,bG ah (aB.refl _)⟩
  |n=>
   obtain⟨m,hm,rfl,rfl⟩:=aD;exact⟨_,rfl,R.n,EL,rfl,.n,_,rfl,m,rfl,hm,bG⟩
  |r=>exact⟨_,rfl,R.r,I',rfl,.r,_,rfl,z,u,rfl,aD,bG⟩
end
end c2
namespace b5
open PySem PySem.Spec PyProof.Rows ao
inductive Ĉ(x:ao.V)(xs:aR)(H:af)(Q:a4):Prop where
 |mk (z y:Str) (aT:x=.str z) (aP:xs=[.str y]) (bh:Q (.aM (JB z y)) H)
theorem Z6:yj X "str.startswith" Ĉ:=by intro pins s σ H x xs v us Q I bf rs h;obtain⟨z,y,rfl,rfl,q⟩:=h;obtain⟨t,rfl⟩:=bf;obtain⟨u,rfl,t',rfl⟩:=vals1 rs;exact SC.startswith ⟨.aM _,H,I,rfl,q⟩
end b5
namespace c2
open PySem ao b5
structure vt(ps:bt):Prop where
 ne:ps≠[]
 cN:ps.length<=6
 ok:∀p∈ps,32∉p/\p≠[]/\p.length<=20/\∀c∈p,c<256
 zB:JB (S (eO [32] ps)) (bK "check ")=false
theorem Iq{y:cx}{c:Nat}:∀{ps:bt},c∈eO y ps->c∈y\/∃p∈ps,c∈p
 |[],h=>nomatch h
 |[p],h=>.inr ⟨p,.head _,h⟩
 |p::q::r,h=>by
  rcases ip.mp h with h|h
  .rcases ip.mp h with h|h
   .exact .inr ⟨p,.head _,h⟩
   .exact .inl h
  .rcases Iq h with h|⟨gJ,ai,aj⟩
   .exact .inl h
   .exact .inr ⟨gJ,.tail _ ai,aj⟩
theorem QL(y:cx)(k:Nat):∀ps:List cx,(∀p∈ps,p.length<=k)->(eO y ps).length<=ps.length*(k+y.length)
 |[],_=>ej _
 |[p],h=>by have:=h p (.head _);show p.length<=1*(k+y.length);omega
 |p::q::r,h=>by have ai:=h p (.head _);have a5:=QL y k (q::r) λgJ h'=>h gJ (.tail _ h');show(p++y++eO y (q::r)).length<=(r.length+1+1)*(k+y.length);rw[eS,eS,R9];rw[fV]at a5;omega
theorem vt.split{ps:bt}(h:vt ps):Bm (S (eO [32] ps)) (bK " ")=ps.map S:=by
 have e:bK " "=S [32]:=by decide+kernel
 rw[e];refine Yo h.ne (λp ay=>(h.ok p ay).1) (λc ar=>?_) (λc ar=>?_)
 .rcases Iq ar with z|⟨p,ay,z⟩
  .rw[gW.mp z];decide
  .exact(h.ok p ay).2.2.2 c z
 .rw[gW.mp ar];decide
theorem vt.len(h:vt ps):(eO [32] ps).length<=126:=by have ai:=QL [32] 20 ps λp ay=>(h.ok p ay).2.2.1;have aj:=h.cN;have bC:ps.length*(20+[32].length)<=6*21:=R7 aj (cL _);omega
section
variable{P:cA}{w:bU}{K:aQ}{mg:b9}{base:Heap}
inductive TY(vs:aR)(H:af)(Q:a4)(E:bP):Prop where
 |mk (ps:bt) (aT:vs=[.str (S (eO [32] ps))]) (aP:vt ps) (bh:∀l,H l=none->Q (.ref l) (upd H l (.lst (kd (ps.map S)))))
noncomputable abbrev Hg:Stmt:=top 93
theorem TZ:de ["row","words"] ["row"] (cy Hg):={}
theorem ac9{f:Addr}(F:cz K "words_of" "words_of" Hg f fd)(B:eR mg):aK P w K mg base bq 1 f fd ["row"] TY:=by
 refine F.ok TZ (λ_ A _ s H vs Q E al h=>?_)
 .obtain⟨ps,rfl,ok,q⟩:=h;refine⟨_,(a9 (dH (i7 (l5 EE PySem.F.slot_str_startswith PySem.F.type_str_startswith Z6 (aa 0) (ag cv aw))) (bg (cm (d5 (ag cv (ag (OL abj (aa 0) (Hx (df Ci (by rfl) B.len g7 (ag cv aw))) Qt) aw))))) dJ)
   (a9 (c8 (i:=1) TZ.aC rfl (ct rfl) (l5 EE PySem.F.slot_str_split PySem.F.type_str_split Ü (aa 0) (ag cv aw)))
   (a9 (dH (dG ux cv (aa 1) (by rfl)) (bg zv) dJ)
   (bg (cm (aa 1)))))),?_⟩
  try dsimp only[gR,gQ]
  have le:=ok.len;have q:=q;refine⟨_,rfl,rfl,_,_,rfl,rfl,_,rfl,c3 ok.zB ?_⟩;refine⟨_,rfl,rfl,_,_,rfl,rfl,(by decide+kernel),qB (en (by rw[dR];omega)),λp np=>?_⟩;rw[ok.split];have ay:upd H p (.lst (kd (ps.map S))) p=some (.lst (kd (ps.map S))):=aE;have Wx:=q p np;unfold kd at ay Wx;have fz:((ps.map S).map V.str).all nX=true:=uy _;have no:iD (.str (bK "")) ((ps.map S).map V.str)=false:=by
   unfold iD;rw[kk];intro z;obtain⟨v,a7,e⟩:=pg.mp z;obtain⟨y,cb,rfl⟩:=cw.mp a7;obtain⟨x,ax,rfl⟩:=cw.mp cb;have bB:(S x==bK "")=true:=e;have aG:=eq_of_beq bB;have hV:(bK "").cps.toList=[]:=by decide+kernel
   have cR:x=[]:=by have:=ek (λz:Str=>z.cps.toList) aG;rw[hV]at this;simpa using this
   exact(ok.ok x ax).2.1 cR
  exact⟨_,rfl,p,_,rfl,.inl (aJ.of ay),rfl,fz,_,rfl,c3 no ⟨_,rfl,Wx⟩⟩
end
open cQ
theorem QM{wi:el}{te:TE}{rest:ao.St}{H1:af}{Q:a4}{J:gm}{xs:aR}(hw:∀R:gm->af->Prop,R J H1->wi σ H R)(g0:h5 cs σ=none::rest)(qm:rY J H1 xs)(au:xs.length<sizeLine)(f:Nat->ao.V)(elt:∀(i:Nat)(x:ao.V)(ah:af)(R:a4),xs[i]?=some x->aB H1 ah->(∀b1,aB ah b1->R (f i) b1)->te (some x::rest) ah R)(fin:∀(D:Addr)(H':af),H1 D=none->H' D=some (.lst ((gN xs.length).map f))->aB H1 H'->Q (.ref D) H'):o5 wi cs (jD 0) sY te σ H Q:=by
 refine hw _ λD bF=>?_;refine⟨λi m ys a' H'=>m=xs.length-i/\i<=xs.length/\ys=(gN i).map f/\(∃o,a'=o::rest)/\aB H1 H'/\H' D=some (.lst ys),⟨xs.length,by simp,ej _,rfl,⟨none,by rw[g0]⟩,λb o e=>?_,aE⟩,?_⟩
 .rw[aV (cI e bF)];exact e
 .rintro i m ys a' H' ⟨rfl,hi,rfl,⟨o,rfl⟩,az,g_⟩;obtain⟨jj,m9,oe⟩:=qm H' az;refine⟨g_,qC (by rw[cj,Eo];omega) au,?_⟩;by_cases dw:i<xs.length
  .refine .inr ⟨m9 i dw,λx ah y=>?_⟩;obtain⟨rfl,ex⟩:=oe i x ah dw y;show te (some x::rest) ah _;refine elt i x ah _ ex az λb1 dY=>⟨dY _ _ g_,xs.length-(i+1),by omega,rfl,dw,?_,⟨_,rfl⟩,λb ob e=>?_,aE⟩
   .rw[RN,fk];rfl
   .rw[aV (cI e bF)];exact dY _ _ (az _ _ e)
  .have e:i=xs.length:=by omega
   subst e;exact .inl ⟨jj,fin D H' bF g_ az⟩
theorem ada{α:Type}{l:List α}{i:Nat}{x d:α}(e:l[i]?=some x):l.getD i d=x:=by rw[eb,e];rfl
theorem range_getD{α β:Type}(g:α->β)(fp:α)(ls:List α):((gN ls.length).map λi=>g (ls.getD i fp))=ls.map g:=by
 apply IW
 .simp
 .intro i ai aj;simp only[cj,Eo]at ai;simp[eb,ai]
theorem pP{n:Nat}(h:n<10 ^ 10):((n:Int)).natAbs.log2<1920:=by
 rw[Int.natAbs_natCast];by_cases a8:n=0
 .subst a8;decide
 .have:n.log2<40:=(Nat.log2_lt a8).mpr (A3 h (by decide));omega
noncomputable def qh:Option Nat->Str
 |none=>EK
 |some m=>S (cB m)
noncomputable def ta:Option Nat->ao.V
 |none=>.bJ
 |some m=>.int (m:Int)
section
variable{P:cA}{w:bU}{K:aQ}{mg:b9}{base:Heap}
inductive JO(vs:aR)(H:af)(Q:a4)(E:bP):Prop where
 |mk (o:Option Nat) (aT:vs=[ta o]) (aP:∀m,o=some m->m<10 ^ 10) (bh:Q (.str (qh o)) H)
noncomputable abbrev Di:Stmt:=top 95
theorem ad4:de qz qz (cy Di):={}
theorem adb{f:Addr}(F:cz K "number_or_dash" "number_or_dash" Di f fd)(B:eR mg):aK P w K mg base bq 1 f fd qz JO:=by
 refine F.ok ad4 (λ_ A _ s H vs Q E al h=>?_)
 .obtain⟨o,rfl,hm,q⟩:=h;refine⟨_,(bg (cm (ψ (dG DA (aa 0) oT (dE _)) cv (iv qO (by rfl) B.str mZ (ag (aa 0) aw))))),?_⟩;cases o with
  |none=>exact⟨_,rfl,rfl,_,rfl,cY (b4 rfl) q⟩
  |some m=>
   refine⟨_,rfl,rfl,_,rfl,c3 (cM (by intro z;cases z)) ⟨_,rfl,(m:Int),rfl,pP (hm m rfl),?_⟩⟩;rw[nW];exact q
theorem Pk{α:Type}(f:α->Nat)(k:Nat):∀l:List α,(∀a∈l,f a<=k)->(l.map f).sum<=l.length*k
 |[],_=>ej _
 |a::l,h=>by have ai:=h a (.head _);have aj:=Pk f k l λb ae=>h b (.tail _ ae);rw[il,Er,fV,R9];omega
noncomputable def CH(ns:cx):List ao.V:=ns.map λn:Nat=>V.int (n:Int)
inductive TS(K:aQ)(vs:aR)(H:af)(Q:a4)(E:bP):Prop where
 |mk (a:Addr) (ns:cx) (aT:vs=[.ref a]) (aP:aJ K H a (CH ns)) (bh:ns.length<=40) (cf:∀n∈ns,n<10 ^ 10) (cP:∀H',aB H H'->Q (.str (S (eO [32] (ns.map cB)))) H')
noncomputable abbrev Hf:Stmt:=top 96
theorem ad5:de ["numbers"] ["numbers"] (cy Hf):={}
theorem acR{f:Addr}(F:cz K "with_blanks" "with_blanks" Hf f fd)(B:eR mg)(nC:bX K mg "number_or_dash" Di qz f1 dN)(Mn:aK P w K mg base bq 1 f1 dN qz JO):aK P w K mg base bq 2 f fd ["numbers"] (TS K):=by
 refine F.ok ad5 (λ_ A _ s H vs Q E al h=>?_)
 .obtain⟨a,ns,rfl,av,cN,ok,q⟩:=h;refine⟨_,(bg (cm (l5 EE Sw Sx Ph cv (ag (lq (N':=qz) (cs:=[none]) rfl (hU (aa 0)) rfl (by decide+kernel) rfl (by decide+kernel) (jy (λp ay=>bk ay (di))) rfl
    (.own .nil)
    (λC aW aU b0 ez=>⟨(eo (i:=0) (by show(qz:ck).Nodup;decide+kernel) rfl (.inl rfl)),lg,(dB Mn al.mono (by rfl) nC.at_ nC.fn.b3 nC.bd .nil cJ (ag (aa 0) aw))⟩)) aw)))),?_⟩
  try dsimp only[gR,gQ]
  have au:(CH ns).length=ns.length:=cj _;refine⟨rfl,?_⟩;dsimp only[l4];refine QM (J:=kW K a) (H1:=H) (xs:=CH ns) (rest:=[]) (λR h=>⟨_,rfl,a,rfl,⟨_,av⟩,h⟩) rfl (q5 av) (en (by omega)) (λi=>.str (S (cB (ns.getD i 0)))) (λi v ah R ev az k=>?_) (λD ah l_ bF uQ=>?_)
  .unfold CH at ev;rw[d0]at ev;obtain⟨n,iy,rfl⟩:=iq.mp ev;have:=k ah (aB.refl _);rw[eb,iy]at this;exact⟨_,rfl,some n,rfl,(λm e=>by cases e;exact ok n (f_ iy)),this⟩
  have pM:(gN (CH ns).length).map (λi=>V.str (S (cB (ns.getD i 0))))=((ns.map cB).map S).map V.str:=by rw[au,range_getD (λn=>V.str (S (cB n))) 0 ns,jK,jK];rfl
  rw[pM]at bF;have NR:bK " "=S [32]:=by decide+kernel
  rw[NR];refine⟨S [32],D,(ns.map cB).map S,rfl,rfl,aJ.of bF,?_,?_⟩
  .have:=Pk (λx:Str=>x.length) 10 ((ns.map cB).map S) λx ax=>by obtain⟨p,ay,rfl⟩:=cw.mp ax;obtain⟨n,aX,rfl⟩:=cw.mp ay;rw[dR];exact sI (ok n aX)
   rw[cj,cj,dR]at *;simp only[fV,x_];omega
  rw[PL];exact q _ uQ
end
end c2
namespace cQ
open PySem
noncomputable def hsz(c:Int):Nat:=(1+c%8).toNat
noncomputable def fg(c:Int):Nat:=(c/8%(1+c%8)).toNat
noncomputable def iA(c:Int)(k j:Nat):Nat:=97+((c/64+5*(j:Int)*(j:Int)+2*(k:Int)*(if j=fg c then 1 else 0))%26).toNat
noncomputable def sh(c:Int)(k:Nat):List Nat:=(gN (hsz c)).map (iA c k)
noncomputable def sC(c:Int)(m:Nat):List cx:=(gN m).map (sh c)
theorem RZ(c:Int):1<=hsz c/\hsz c<=8:=by unfold hsz;omega
theorem Ž(c:Int):(1+c%8)=(hsz c:Int):=by unfold hsz;omega
theorem abD(c:Int):fg c<hsz c:=by
 have ai:0<1+c%8:=by omega
 have aj:=qv (c/8) ai;have bC:=lF (c/8) (by omega:1+c%8≠0);unfold fg hsz;omega
theorem ž(c:Int):c/8%(1+c%8)=(fg c:Int):=by have bC:=lF (c/8) (by omega:1+c%8≠0);unfold fg;omega
theorem abE(c:Int)(k j:Nat):97<=iA c k j/\iA c k j<=122:=by unfold iA;omega
theorem abF(c:Int)(k:Nat):fF (sh c k):=by have h:=RZ c;refine⟨by simp[sh];omega,by simp[sh];omega,λx ax=>?_⟩;obtain⟨j,_,rfl⟩:=cw.mp ax;exact abE c k j
theorem aaa{c:Int}{k l:Nat}(aD:k<13)(au:l<13)(e:sh c k=sh c l):k=l:=by
 have h:=abD c;have aG:(sh c k)[fg c]?=(sh c l)[fg c]?:=by rw[e]
 unfold sh at aG;rw[d0,d0,ë h]at aG;have cR:iA c k (fg c)=iA c l (fg c):=by simpa using aG
 unfold iA at cR;rw[bO rfl]at cR;generalize c/64+5*(fg c:Int)*(fg c:Int)=z at cR;omega
theorem ake{α:Type}{f:Nat->α}{m:Nat}(h:∀i j,i<m->j<m->f i=f j->i=j):((gN m).map f).Nodup:=by refine vI.mpr ?_;refine List.Pairwise.imp_of_mem ?_ (List.nodup_range (n:=m));intro a b av ae ago e;exact ago (h a b (rN.mp av) (rN.mp ae) e)
theorem Y3{c:Int}{m:Nat}(h:m<=12):(sC c m).Nodup:=ake λi j hi bu e=>aaa (by omega) (by omega) e
theorem Nu(c:Int)(m:Nat):(sC c m).length=m:=by simp[sC]
end cQ
namespace c2
open PySem ao b5 cQ
inductive XU(vs:aR)(H:af)(Q:a4)(gK:bP):Prop where
 |mk (c:Int) (m:Nat) (aT:vs=[.int c,.int m]) (aP:m<=12) (bh:∀(p:Addr)(H':af),H p=none->aB H H'->H' p=some (.lst (bY (sC c m)))->Q (.ref p) H')
theorem akf{c:Int}{m:Nat}(h:m<=12):Good (sC c m):=⟨λx ax=>by
 obtain⟨k,_,rfl⟩:=cw.mp ax;exact abF c k,Y3 h,by rw[Nu];exact h⟩
noncomputable def xX(c:Int)(k j:Nat):Int:=c/64+5*(0+(j:Int))*(0+(j:Int))+2*(0+(k:Int))*(if decide (V.int (0+(j:Int))=V.int (c/8%(1+c%8)))=true then 1 else 0)
theorem acS(c:Int)(k j:Nat):97+(xX c k j%26).toNat=iA c k j:=by
 unfold xX iA;rw[ž c];by_cases h:j=fg c
 .subst h;rw[bO rfl,bO (b4 (by rw[xY])),xY,xY]
 .rw[bz h,bz (by rw[cM (λz=>h (by have:=V.int.inj z;omega))];exact ei),xY,xY]
theorem Wo{α:Type}(f:Nat->α)(n:Nat):(gN (n+1)).map f=(gN n).map f++[f n]:=by rw[RN,fk];rfl
section
variable{P:cA}{w:bU}{K:aQ}{mg:b9}{base:Heap}
noncomputable abbrev G5:Stmt:=top 122
theorem ad6:de yg yg (cy G5):={}
theorem acT{f:Addr}(F:cz K "_law_cell_at" "_law_cell_at" G5 f fd)(len:mg "len"=none):aK P w K mg base bq 1 f fd yg (TV K):=by
 refine F.ok ad6 (λ_ A _ s H vs Q E al h=>?_)
 .obtain⟨a,ns,k,rfl,ee,a8,q⟩:=h;refine⟨_,a9 (dH (dG uZ (aa 1) (df iQ (by rfl) len PySem.boot_len (ag (aa 0) aw)) (dE _)) (bg (cm (cU gr (aa 0) (aa 1) (λ_ _=>rfl)))) dJ) (bg (cm bc)),?_⟩;refine⟨_,rfl,_,rfl,a,_,rfl,.inl ee,_,_,rfl,rfl,_,rfl,?_⟩;refine aeD (λh=>?_) (λh=>?_)
  .have ai:=rl h;exact⟨_,rfl,_,rfl,a,_,k,_,rfl,rfl,ee,ł a8 ai,q⟩
  .have ai:¬k<((ns.map V.int).length:Int):=λz=>h (b4 z);rw[cj]at ai;have e:ns.getD k.toNat 0=0:=by rw[eb,ê (by omega)];rfl
   rw[e]at q;exact q
noncomputable abbrev GV:Stmt:=top 123
noncomputable abbrev ĉ:List Str:=["_law_cell","_law_many","_law_letters","_law_size","_law_at","_law_names","_law_k","_law_name","_law_j","_law_place"]
theorem qS:de ĉ AQ (cy GV):={}
theorem Y4{f:Addr}(F:cz K "_law_houses" "_law_houses" GV f fd)(B:eR mg):aK P w K mg base bq 1 f fd AQ XU:=by
 refine F.ok qS (λ_ A _ s H vs Q E al h=>?_)
 .obtain⟨c,m,rfl,hm,q⟩:=h;refine⟨_,(a9 (c8 (i:=2) qS.aC rfl (ct rfl) cv)
   (a9 (c8 (i:=3) qS.aC rfl (ct rfl) (b7 oU bc (b7 jR (aa 0) bc)))
   (a9 (c8 (i:=4) qS.aC rfl (ct rfl) (b7 jR (b7 mU (aa 0) bc) (aa 3)))
   (a9 (c8 (i:=5) qS.aC rfl (ct rfl) (d5 aw))
   (a9 (j6 jL rfl (X1 rfl B.range (ag (aa 1) aw)) (eo (i:=6) qS.aC rfl (ct rfl))
    (a9 (c8 (i:=7) qS.aC rfl (ct rfl) cv)
   (a9 (j6 jL rfl (X1 rfl B.range (ag (aa 3) aw)) (eo (i:=8) qS.aC rfl (ct rfl))
    (a9 (c8 (i:=9) qS.aC rfl (ct rfl) (b7 oU (b7 oU (b7 mU (aa 0) bc) (b7 Dz (b7 Dz bc (aa 8)) (aa 8))) (b7 Dz (b7 Dz bc (aa 6)) (iv X3 (by rfl) B.int Du (ag (jP jd (aa 8) (aa 4) (dE _)) aw)))))
   (bg (c8 (i:=7) qS.aC rfl (ct rfl) (b7 g6 (aa 7) (cU Q' (aa 2) (b7 jR (aa 9) bc) (λ_ _=>rfl)))))))
   (bg (gZ (l5 rT tw tx qR (aa 5) (ag (aa 7) aw)))))))
   (bg (cm (aa 5)))))))),?_⟩
  have aT:=RZ c;have aP:=Ž c;refine⟨_,rfl,_,_,rfl,rfl,(by show(0:Int)<8;decide),_,_,rfl,rfl,?_⟩;refine⟨_,rfl,_,_,rfl,rfl,⟨by decide,by decide⟩,_,rfl,_,_,rfl,rfl,(by show(0:Int)<1+c%8;omega),?_⟩;refine⟨ej _,λp np=>⟨_,rfl,_,rfl,(by omega),(by omega),?_⟩⟩;refine X2 (lo:=0) (n:=m) (λk σ ah=>ah=upd H p (.lst (bY (sC c k)))/\∃a1 a2 fN hn,σ=[some (.int c),some (.int m),some (.str (bK "abcdefghijklmnopqrstuvwxyz")),some (.int (1+c%8)),some (.int (c/8%(1+c%8))),some (.ref p),a1,a2,fN,hn]) ⟨rfl,none,none,none,none,rfl⟩ ?_ ?_
  .rintro k σ ah aD ⟨rfl,a1,a2,fN,hn,rfl⟩;refine⟨_,rfl,_,rfl,(by omega),(by omega),?_⟩;refine X2 (lo:=0) (n:=hsz c) (λj σ aU=>aU=upd H p (.lst (bY (sC c k)))/\∃iP fW,σ=[some (.int c),some (.int m),some (.str (bK "abcdefghijklmnopqrstuvwxyz")),some (.int (1+c%8)),some (.int (c/8%(1+c%8))),some (.ref p),some (.int (0+(k:Int))),some (.str (S ((gN j).map (iA c k)))),iP,fW]) ⟨rfl,fN,hn,rfl⟩ ?_ ?_
   .rintro j σ aU bu ⟨rfl,iP,fW,rfl⟩;refine⟨_,rfl,_,_,rfl,rfl,⟨by decide,by decide⟩,_,rfl,_,_,rfl,rfl,.inl ⟨by decide,by decide⟩,_,rfl,_,_,rfl,rfl,.inr ⟨by show -(2 ^ 64)<0+(j:Int);omega,by show 0+(j:Int)<2 ^ 64;omega⟩,_,_,rfl,rfl,_,rfl,_,_,rfl,rfl,.inl ⟨by decide,by decide⟩,_,rfl,_,rfl,rfl,.inr ⟨_,rfl,_,_,rfl,rfl,.inl ⟨by show -(2 ^ 64)<2*(0+(k:Int));omega,by show 2*(0+(k:Int))<2 ^ 64;omega⟩,_,_,rfl,rfl,?_⟩⟩;have k1:0<=xX c k j%26:=lF _ (by decide);have k2:xX c k j%26<26:=qv _ (by decide);have dr:(⟨#[97+(xX c k j%26).toNat]⟩:Str).length=1:=rfl;refine⟨_,rfl,_,rfl,_,rfl,_,_,rfl,rfl,(by show(0:Int)<26;decide),_,_,_,rfl,rfl,(by decide+kernel),É k1 k2,_,_,rfl,rfl,?_,rfl,some (.int (0+(j:Int))),some (.int (xX c k j)),?_⟩
    .rw[dR,cj,Eo];show j+1<=sizeLine;exact qB (en (by omega))
    .rw[Wo,<-sM,<-acS];rfl
   .rintro σ aU ⟨rfl,iP,fW,rfl⟩;refine⟨_,rfl,.inl ⟨rfl,_,aJ.of aE⟩,_,rfl,p,_,_,rfl,rfl,aE,en (by rw[q4,Nu];omega),?_,_,_,_,_,rfl⟩;rw[C7];unfold sC;rw[Wo];unfold bY;rw[fk];rfl
  .rintro σ ah ⟨rfl,a1,a2,fN,hn,rfl⟩;exact⟨_,rfl,q p _ np (aZ np) aE⟩
end
theorem aab{t:e_}{D:Ends}(P:Ends->Prop)(ai:P D)(aj:∀dP,P dP->t dP σ H):t D σ H:=aj D ai
section
variable{P:cA}{w:bU}{K:aQ}{mg:b9}{base:Heap}
noncomputable abbrev z1:Stmt:=top 15
noncomputable abbrev xd:Stmt:=top 16
noncomputable abbrev xl:Stmt:=top 17
noncomputable abbrev uB:Stmt:=top 19
noncomputable abbrev Aa:Stmt:=top 51
noncomputable abbrev Ab:Stmt:=top 52
noncomputable abbrev Ac:Stmt:=top 53
noncomputable abbrev Ae:Stmt:=top 54
theorem QO:de iL iL (cy z1):={}
theorem Ċ{f:Addr}(F:cz K "is_whole" "is_whole" z1 f fd)(B:eR mg)(KT:Rt K):aK P w K mg base bq 1 f fd iL Qk:=by
 refine F.ok QO (λ_ A _ s H vs Q E al h=>?_)
 .obtain⟨i,rfl,q⟩:=h;refine⟨_,(bg (cm (hF (df nJ (by rfl) B.isinstance hC (ag (aa 0) (ag (m1 (by rfl) B.int Du) aw))) (kA (Rd (df nJ (by rfl) B.isinstance hC (ag (aa 0) (ag (m1 (by rfl) B.bool Qj) aw)))))))),?_⟩;refine⟨_,rfl,_,_,_,_,_,rfl,⟨rfl,.int _,Dv _ _⟩,_,rfl,f6 ?_⟩;exact⟨_,rfl,_,_,_,_,_,rfl,⟨rfl,.int _,KT.jS⟩,_,rfl,q⟩
theorem PW:de pk pk (cy xd):={}
theorem Z7{f:Addr}(F:cz K "is_whole_within" "is_whole_within" xd f fd)(mL:bX K mg "is_whole" z1 iL KG KM)(CA:aK P w K mg base bq 1 KG KM iL Qk):aK P w K mg base bq 2 f fd pk PD:=by
 refine F.ok PW (λ_ A _ s H vs Q E al h=>?_)
 .obtain⟨i,a,b,rfl,ai,aj,q⟩:=h;refine⟨_,(bg (cm (hF (dB CA al.mono (by rfl) mL.at_ mL.fn.b3 mL.bd .nil cJ (ag (aa 0) aw)) (kA (w4 l3 l3 (aa 1) (aa 0) (aa 2)))))),?_⟩;refine⟨_,rfl,_,rfl,_,rfl,f6 ?_⟩;exact⟨_,rfl,_,rfl,_,_,rfl,rfl,_,rfl,cY (b4 ai) ⟨_,rfl,_,_,rfl,rfl,sN (b4 aj) q⟩⟩
theorem QP:de pj pj (cy xl):={}
theorem ċ{f:Addr}(F:cz K "is_tuple_of" "is_tuple_of" xl f fd)(B:eR mg):aK P w K mg base bq 1 f fd pj Ql:=by
 refine F.ok QP (λ_ A _ s H vs Q E al h=>?_)
 .obtain⟨r,xs,n,rfl,ai,aj,q⟩:=h;refine⟨_,(bg (cm (hF (df nJ (by rfl) B.isinstance hC (ag (aa 0) (ag (m1 (by rfl) B.tuple Ov) aw))) (kA (jP jd (df iQ (by rfl) B.len g7 (ag (aa 0) aw)) (aa 1) (dE _)))))),?_⟩;refine⟨_,rfl,_,_,_,_,_,rfl,⟨rfl,.tup ai,Dv _ _⟩,_,rfl,f6 ?_⟩;exact⟨_,rfl,r,_,rfl,.inr (cG.of ai),_,rfl,rfl,sN (b4 (ek V.int aj)) q⟩
theorem PX:de nv nv (cy uB):={}
theorem Z8{f:Addr}(F:cz K "are_unlike_houses" "are_unlike_houses" uB f fd):aK P w K mg base bq 1 f fd nv (PE K):=by
 refine F.ok PX (λ_ A _ s H vs Q E al h=>?_)
 .obtain⟨a,ys,x,y,rfl,ee,ax,cb,ne,q⟩:=h;refine⟨_,(bg (cm (hF (jP ux (aa 1) (aa 0) (by rfl)) (hF (jP ux (aa 2) (aa 0) (by rfl)) (kA (jP rm (aa 1) (aa 2) (dE _))))))),?_⟩;refine⟨_,rfl,_,rfl,a,_,rfl,.inl ee,rfl,uy ys,_,rfl,cY (xc ax) ?_⟩;refine⟨_,rfl,_,rfl,a,_,rfl,.inl ee,rfl,uy ys,_,rfl,cY (xc cb) ?_⟩;refine⟨_,rfl,_,rfl,rfl,sN ?_ q⟩;rw[cM (λz=>ne (V.str.inj z))];rfl
theorem R0:de iL iL (cy Aa):={}
theorem aac{f:Addr}(F:cz K "is_name" "is_name" Aa f fd)(B:eR mg)(hy:sZ mg):aK P w K mg base bq 1 f fd iL Rk:=by
 refine F.ok R0 (λ_ A _ s H vs Q E al h=>?_)
 .obtain⟨l,rfl,eH,q⟩:=h;refine⟨_,(a9 (dH (hl.pt (jb (jx (i7 (df nJ (by rfl) B.isinstance hC (ag (aa 0) (ag (m1 (by rfl) B.str mZ) aw))))) (kz (jx (GL l3 l3 bc (df Ci (by rfl) B.len g7 (ag (aa 0) aw)) (nK (by rfl) hy.RX)))))) (bg (cm iz)) dJ)
   (bg (cm (df (w5 rfl) (by rfl) B.v3 xi (ag (lq (N':=["sign"]) (cs:=[none]) rfl (Ij (aa 0)) rfl (by decide+kernel) rfl (by decide+kernel) (jy (λp ay=>bk ay (di))) rfl
    (.own .nil)
    (λC aW aU b0 ez=>⟨(eo (i:=0) (by show(["sign"]:ck).Nodup;decide+kernel) rfl (.inl rfl)),lg,(w4 zj zj cv (aa 0) cv)⟩)) aw))))),?_⟩
  have au:=dR l;have hz:(S l).length<=sizeLine:=qB (en (by rw[au];have:=eH.2.1;omega));have ai:(1:Int)<=((S l).length:Int):=by have:=eH.1;omega
  have yX:((S l).length:Int)<=8:=by have:=eH.2.1;omega
  refine⟨_,rfl,_,_,_,_,_,rfl,⟨rfl,.str _,Dv _ _⟩,_,rfl,f5 ?_⟩;refine⟨_,rfl,_,rfl,hz,_,_,rfl,rfl,_,rfl,cY (b4 ai) ⟨_,_,rfl,rfl,_,rfl,D9 yX ?_⟩⟩;dsimp only[sO,rz,xx,qa,l4];refine q2 (J:=x1 (S l)) (H1:=H) (xs:=signs (S l)) (rest:=[]) (λR h=>⟨_,rfl,_,rfl,h⟩) rfl (Ii _) (en ?_) (λ_=>.aM true) (λi x ah R ex az bQ=>?_) (λD H' ai aj bC=>?_)
  .rw[HA,cj];have:=eH.2.1;omega
  .rw[HA]at ex;obtain⟨k,aD,rfl⟩:=cw.mp (f_ ex);have i':=eH.2.2 k aD;have aF:(!decide ((S [k]).cps.toList<(bK "a").cps.toList))=true:=by rw[aiN];exact(z0 k 97).trans (b4 i'.1)
   have aG:(!decide ((bK "z").cps.toList<(S [k]).cps.toList))=true:=by rw[aiS];exact(z0 122 k).trans (b4 i'.2)
   exact⟨_,rfl,_,_,rfl,rfl,_,rfl,cY aF ⟨_,_,rfl,rfl,sN aG (bQ ah (aB.refl _))⟩⟩
  .exact⟨D,yc (signs (S l)).length true,rfl,aJ.of (by rw[aj,GP]),sN (GQ _) (q H' bC)⟩
theorem R1:de rP rP (cy Ab):={}
theorem aad{f:Addr}(F:cz K "are_houses" "are_houses" Ab f fd)(B:eR mg)(hy:sZ mg)(mP:bX K mg "is_name" Aa iL wk wq)(CF:aK P w K mg base bq 1 wk wq iL Rk):
  aK P w K mg base bq 2 f fd rP Rl:=by
 refine F.ok R1 (λ_ A _ s H vs Q E al h=>?_)
 .obtain⟨a,hs,rfl,av,sa,q⟩:=h;refine⟨_,(a9 (dH (hl.pt (jb (jx (i7 (df nJ (by rfl) B.isinstance hC (ag (aa 0) (ag (m1 (by rfl) B.list q6) aw))))) (kz (dG sL (df iQ (by rfl) B.len g7 (ag (aa 0) aw)) (nK (by rfl) hy.RU) (dE _))))) (bg (cm iz)) dJ)
   (bg (cm (hF (df (w5 rfl) (by rfl) B.v3 xi (ag (lq (N':=iL) (cs:=[none]) rfl (hU (aa 0)) rfl (by decide+kernel) rfl (by decide+kernel) (jy (λp ay=>bk ay (di))) rfl
    (.own .nil)
    (λC aW aU b0 ez=>⟨(eo (i:=0) (by show(iL:ck).Nodup;decide+kernel) rfl (.inl rfl)),lg,(dB CF al.mono (by rfl) mP.at_ mP.fn.b3 mP.bd .nil cJ (ag (aa 0) aw))⟩)) aw)) (kA (jP jd (df Wv (by rfl) B.len g7 (ag (iv (Px rfl) (by rfl) B.WL Rp (ag (aa 0) aw)) aw)) (df iQ (by rfl) B.len g7 (ag (aa 0) aw)) (dE _))))))),?_⟩
  have au:=q4 hs;have bE:=sa.cN;refine⟨_,rfl,_,_,_,_,_,rfl,⟨rfl,.lst av,Dv _ _⟩,_,rfl,f5 ?_⟩;refine⟨_,rfl,a,_,rfl,.inl (aJ.of av),_,_,rfl,rfl,_,rfl,c3 (cM (by omega)) ?_⟩;dsimp only[sO,rz,xx,qa,l4];refine q2 (J:=kW K a) (H1:=H) (xs:=bY hs) (rest:=[]) (λR h=>⟨_,rfl,a,rfl,⟨_,aJ.of av⟩,h⟩) rfl (q5 (aJ.of av)) (en (by omega)) (λ_=>.aM true) (λi x ah R ex az bQ=>?_) (λD H' ai aj bC=>?_)
  .obtain⟨l,fR,rfl⟩:=cw.mp (f_ ex);exact⟨_,rfl,l,rfl,sa.nm l fR,λH' hX=>bQ H' hX⟩
  .refine⟨D,yc (bY hs).length true,rfl,aJ.of (by rw[aj,GP]),_,rfl,cY (GQ _) ?_⟩;have j9:=bC _ _ av;refine⟨_,rfl,a,hs.map S,rfl,aJ.of (by rw[j9,q3]),(by rw[cj];omega),λp ay=>?_⟩;have s2:aB H' (upd H' p (AH P w p (jW (λi=>(hs.map S).getD i iN) (hs.map S).length))):=aZ ay;refine⟨p,_,rfl,aE,_,rfl,a,_,rfl,.inl (aJ.of (s2 _ _ j9)),rfl,sN (b4 ?_) (q _ (bC.trans s2))⟩;rw[ON _ _ (aak sa.aC),cj,au]
theorem R2:de lG lG (cy Ac):={}
theorem aae{f:Addr}(F:cz K "is_road" "is_road" Ac f fd)(hy:sZ mg)(jO:bX K mg "is_tuple_of" xl pj f1 dN)(wj:aK P w K mg base bq 1 f1 dN pj Ql)(hZ:bX K mg "are_unlike_houses" uB nv f2 eU)(r0:aK P w K mg base bq 1 f2 eU nv (PE K))(hR:bX K mg "is_whole_within" xd pk cS jQ)(r1:aK P w K mg base bq 2 cS jQ pk PD):
  aK P w K mg base bq 3 f fd lG (Rm K):=by
 refine F.ok R2 (λ_ A _ s H vs Q E al h=>?_)
 .obtain⟨a,r,hs,d,rfl,ee,aC,ok,h3,q⟩:=h;refine⟨_,(bg (cm (hF (dB wj al.mono (by rfl) jO.at_ jO.fn.b3 jO.bd .nil cJ (ag (aa 1) (ag bc aw))) (hF (dB r0 al.mono (by rfl) hZ.at_ hZ.fn.b3 hZ.bd .nil cJ (ag (aa 0) (ag (cU fe (aa 1) bc (λ_ _=>rfl)) (ag (cU fe (aa 1) bc (λ_ _=>rfl)) aw)))) (hF (dB r1 al.mono (by rfl) hR.at_ hR.fn.b3 hR.bd .nil cJ (ag (cU fe (aa 1) bc (λ_ _=>rfl)) (ag bc (ag (nK (by rfl) hy.RY) aw)))) (kA (dB r1 al.mono (by rfl) hR.at_ hR.fn.b3 hR.bd .nil cJ (ag (cU fe (aa 1) bc (λ_ _=>rfl)) (ag bc (ag (nK (by rfl) hy.RW) aw)))))))))),?_⟩;have BS:aJ K H a ((hs.map S).map V.str):=by rw[<-q3];exact ee
  refine⟨_,rfl,r,_,_,rfl,h3,rfl,_,rfl,f6 ?_⟩;refine⟨_,rfl,_,rfl,r,_,_,_,rfl,rfl,cG.of h3,rfl,_,rfl,r,_,_,_,rfl,rfl,cG.of h3,rfl,a,hs.map S,_,_,rfl,BS,ra ok.a,ra ok.b,ac2 aC ok.a ok.b ok.ne,_,rfl,f6 ?_⟩;refine⟨_,rfl,r,_,_,_,rfl,rfl,cG.of h3,rfl,_,_,_,rfl,ok.t.1,ok.t.2,_,rfl,f6 ?_⟩;exact⟨_,rfl,r,_,_,_,rfl,rfl,cG.of h3,rfl,_,_,_,rfl,ok.m.1,ok.m.2,q⟩
theorem R3:de rO rO (cy Ae):={}
theorem aaf{f:Addr}(F:cz K "are_roads" "are_roads" Ae f fd)(B:eR mg)(hy:sZ mg)(mQ:bX K mg "is_road" Ac lG wk wq)(CG:aK P w K mg base bq 3 wk wq lG (Rm K)):
  aK P w K mg base bq 4 f fd rO (Rn K):=by
 refine F.ok R3 (λ_ A _ s H vs Q E al h=>?_)
 .obtain⟨a,b,hs,rs,ds,rfl,av,aC,ae,bQ,cN,q⟩:=h;refine⟨_,(a9 (dH (hl.pt (jb (jx (i7 (df nJ (by rfl) B.isinstance hC (ag (aa 1) (ag (m1 (by rfl) B.list q6) aw))))) (kz (dG sL (df iQ (by rfl) B.len g7 (ag (aa 1) aw)) (nK (by rfl) hy.RV) (dE _))))) (bg (cm iz)) dJ)
   (bg (cm (df (w5 rfl) (by rfl) B.v3 xi (ag (lq (N':=["thing","houses"]) (cs:=[none,some 0]) rfl (hU (aa 1)) rfl (by decide+kernel) rfl (by decide+kernel) (jy (dj.mpr ⟨rfl,(λp ay=>bk ay (di))⟩)) rfl
    (.own (.mM rfl (.inl rfl) (.inl rfl) rfl .nil))
    (λC aW aU b0 ez=>⟨(eo (i:=0) (by show(["thing","houses"]:ck).Nodup;decide+kernel) rfl (.inl rfl)),lg,(dB CG al.mono (by rfl) mQ.at_ mQ.fn.b3 mQ.bd .nil cJ (ag (aa 1) (ag (aa 0) aw)))⟩)) aw))))),?_⟩
  have au:=i4 rs;refine⟨_,rfl,_,_,_,_,_,rfl,⟨rfl,.lst ae,Dv _ _⟩,_,rfl,f5 ?_⟩;refine⟨_,rfl,b,_,rfl,.inl (aJ.of ae),_,_,rfl,rfl,_,rfl,c3 (cM (by omega)) ?_⟩;dsimp only[sO,rz,xx,qa,l4];refine q2 (J:=kW K b) (H1:=H) (xs:=bM rs) (rest:=[some (.ref a)]) (λR h=>⟨_,rfl,b,rfl,⟨_,aJ.of ae⟩,h⟩) rfl (q5 (aJ.of ae)) (en (by omega)) (λ_=>.aM true) (λi x ah R ex az um=>?_) (λD H' ai aj bC=>?_)
  .unfold bM at ex;rw[d0]at ex;obtain⟨r,eB,rfl⟩:=iq.mp ex;obtain⟨d,_,ok,hd⟩:=bQ.get eB;exact⟨_,rfl,_,rfl,a,r,hs,d,rfl,az.seq av,aC,ok,az _ _ hd,um ah (aB.refl _)⟩
  .exact⟨D,yc (bM rs).length true,rfl,aJ.of (by rw[aj,GP]),sN (GQ _) (q H' bC)⟩
noncomputable abbrev xD:Stmt:=iC (top 57) 0
noncomputable abbrev uw:Stmt:=iC (top 57) 1
noncomputable abbrev zN:Stmt:=iC (top 57) 2
theorem R4:de pn pn (cy xD):={}
theorem aag{f:Addr}(F:cz K "__init__" "Net.__init__" xD f fd)(B:eR mg)(fE:s3 K C)(mJ:bX K mg "are_houses" Ab rP KC KI)(Cj:aK P w K mg base bq 2 KC KI rP Rl)(mK:bX K mg "are_roads" Ae rO KD KL)(Co:aK P w K mg base bq 4 KD KL rO (Rn K)):
  aK P w K mg base bq 5 f fd pn (HR K C):=by
 refine F.ok R4 (λ_ A _ s H vs Q E al h=>?_)
 .obtain⟨x,ak,a,b,hs,rs,ds,rfl,ax,av,sa,ae,bQ,cN,q⟩:=h;refine⟨_,(a9 (dH (jx (i7 (dB Cj al.mono (by rfl) mJ.at_ mJ.fn.b3 mJ.bd .nil cJ (ag (aa 1) aw)))) (bg zv) dJ)
   (a9 (dH (jx (i7 (dB Co al.mono (by rfl) mK.at_ mK.fn.b3 mK.bd .nil cJ (ag (aa 1) (ag (aa 2) aw))))) (bg zv) dJ)
   (a9 (l1 (aa 0) (iv y9 (by rfl) B.list q6 (ag (aa 1) aw)) rfl)
   (bg (l1 (aa 0) (iv y9 (by rfl) B.list q6 (ag (aa 2) aw)) rfl))))),?_⟩
  refine⟨_,rfl,a,hs,rfl,av,sa,λH1 s1=>⟨_,rfl,f5 ?_⟩⟩;refine⟨_,rfl,_,rfl,a,b,hs,rs,ds,rfl,aJ.of (s1 _ _ av),sa.aC,s1 _ _ ae,bQ.same s1,cN,λah s2=>⟨_,rfl,f5 ?_⟩⟩;have hK:=s1.trans s2;refine⟨_,rfl,a,_,rfl,.inl (aJ.of (hK _ _ av)),λbR j9=>?_⟩;have aW:aB ah (upd ah bR (.lst (bY hs))):=aZ j9;have fC:=hK.trans aW;have cp:x≠bR:=cI (hK _ _ ax) j9;refine⟨_,rfl,x,C,ak,_,rfl,fC _ _ ax,fE.cl,fE.CJ,(by decide),?_⟩;have agt:b≠x:=λe=>by rw[e,ax]at ae;cases ae
  have agp:upd (upd ah bR (.lst (bY hs))) x (.ins C ak (jV "kept_houses" (.ref bR) [])) b=some (.lst (bM rs)):=by rw[aV agt];exact fC _ _ ae
  refine⟨_,rfl,b,_,rfl,.inl (aJ.of agp),λbI c6=>?_⟩;have Nl:bI≠x:=λe=>by rw[e,aE]at c6;cases c6
  have nb:bI≠bR:=λe=>by rw[e,aV cp.symm,aE]at c6;cases c6
  refine⟨_,rfl,x,C,ak,_,rfl,(by rw[aV Nl.symm,aE]),fE.cl,fE.fS,(by show 1<1000;decide),?_⟩;refine q _ bR bI (λc o ar kB=>?_) (by rw[aE];rfl) ?_ ?_ ?_ ?_
  .rw[aV ar];have:c≠bI:=λe=>by rw[<-e,aV ar,fC _ _ kB]at c6;cases c6
   rw[aV this,aV ar];exact fC _ _ kB
  .rw[aV cp.symm,aV nb.symm,aV cp.symm,aE]
  .rw[aV Nl,aE]
  .exact hK.free j9
  .rw[aV Nl,aV nb]at c6;exact hK.free c6
theorem Z9:de fD fD (cy uw):={}
theorem Č:de fD fD (cy zN):={}
theorem Y5{f:Addr}(F:cz K "houses" "Net.houses" uw f fd)(B:eR mg)(fE:s3 K C):aK P w K mg base bq 1 f fd fD (zk C):=by
 refine F.ok Z9 (λ_ A _ s H vs Q E al h=>?_)
 .obtain⟨x,bR,bI,xs,ys,rfl,n,q⟩:=h;obtain⟨ak,ax⟩:=n.ins;refine⟨_,(bg (cm (iv y9 (by rfl) B.list q6 (ag (gf (aa 0) (by rfl)) aw)))),?_⟩;exact⟨_,rfl,x,C,ak,_,_,rfl,ax,fE.cl,fE.CJ,rfl,bR,_,rfl,.inl (aJ.of n.wH),q⟩
theorem γ{f:Addr}(F:cz K "roads" "Net.roads" zN f fd)(B:eR mg)(fE:s3 K C):aK P w K mg base bq 1 f fd fD (GR C):=by
 refine F.ok Č (λ_ A _ s H vs Q E al h=>?_)
 .obtain⟨x,bR,bI,xs,ys,rfl,n,q⟩:=h;obtain⟨ak,ax⟩:=n.ins;refine⟨_,(bg (cm (iv y9 (by rfl) B.list q6 (ag (gf (aa 0) (by rfl)) aw)))),?_⟩;exact⟨_,rfl,x,C,ak,_,_,rfl,ax,fE.cl,fE.fS,rfl,bI,_,rfl,.inl (aJ.of n.p_),q⟩
theorem C'(i j:Int):decide (V.int i=V.int j)=decide (i=j):=by
 by_cases h:i=j
 .rw[b4 h,b4 (ek V.int h)]
 .rw[cM h,cM λz=>h (V.int.inj z)]
noncomputable def ad7(n:Int):PyData->Bool
 |.tuple ds=>decide ((ds.length:Int)=n)
 |_=>false
inductive PY(vs:aR)(H:af)(Q:a4)(gK:bP):Prop where
 |mk (v:ao.V) (d:PyData) (aT:vs=[v]) (aP:cW H v d) (bh:Q (.aM (Û d)) H)
inductive Og(vs:aR)(H:af)(Q:a4)(gK:bP):Prop where
 |mk (v:ao.V) (d:PyData) (lo hi:Int) (aT:vs=[v,.int lo,.int hi]) (aP:cW H v d) (bh:Q (.aM (uA lo hi d)) H)
inductive OH(vs:aR)(H:af)(Q:a4)(gK:bP):Prop where
 |mk (v:ao.V) (d:PyData) (n:Int) (aT:vs=[v,.int n]) (aP:cW H v d) (bh:Q (.aM (ad7 n d)) H)
inductive GJ(vs:aR)(H:af)(Q:a4)(gK:bP):Prop where
 |mk (a:Addr) (hs:fa) (v u:ao.V) (d e:PyData) (aT:vs=[.ref a,v,u]) (aP:cW H (.ref a) (.list hs)) (bh:cW H v d) (cf:cW H u e) (cP:d.depth<=60) (dM:e.depth<=60) (gk:Q (.aM (fX hs d e)) H)
inductive QR(vs:aR)(H:af)(Q:a4)(gK:bP):Prop where
 |mk (v:ao.V) (d:PyData) (aT:vs=[v]) (aP:cW H v d) (bh:∀H',aB H H'->Q (.aM (nT d)) H')
inductive QS(vs:aR)(H:af)(Q:a4)(gK:bP):Prop where
 |mk (v:ao.V) (d:PyData) (aT:vs=[v]) (aP:cW H v d) (bh:∀H',aB H H'->Q (.aM (wO d)) H')
inductive QT(vs:aR)(H:af)(Q:a4)(gK:bP):Prop where
 |mk (a:Addr) (hs:fa) (v:ao.V) (d:PyData) (aT:vs=[.ref a,v]) (aP:cW H (.ref a) (.list hs)) (bh:cW H v d) (cf:d.depth<=61) (cP:Q (.aM (pX hs d)) H)
inductive QU(vs:aR)(H:af)(Q:a4)(gK:bP):Prop where
 |mk (a:Addr) (hs:fa) (v:ao.V) (d:PyData) (aT:vs=[.ref a,v]) (aP:cW H (.ref a) (.list hs)) (bh:cW H v d) (cf:d.depth<=62) (cP:∀H',aB H H'->Q (.aM (C1 hs d)) H')
theorem aiO:bK "a"=⟨#[97]⟩:=by decide+kernel
theorem aiT:bK "z"=⟨#[122]⟩:=by decide+kernel
theorem zm{ds:fa}{d:PyData}(h:d∈ds):d.depth<=ow ds:=by
 induction ds with
 |nil=>cases h
 |cons x r a5=>
  simp only[ow];rcases dX.mp h with rfl|h
  .exact Nat.le_max_left _ _
  .exact e1 (a5 h) (Nat.le_max_right _ _)
theorem ε{f:Addr}(F:cz K "is_whole" "is_whole" z1 f fd)(B:eR mg):aK P w K mg base bq 1 f fd iL PY:=by
 refine F.ok QO (λ_ A _ s H vs Q E al h=>?_)
 .obtain⟨v,d,rfl,h,q⟩:=h;refine⟨_,(bg (cm (hF (df nJ (by rfl) B.isinstance hC (ag (aa 0) (ag (m1 (by rfl) B.int Du) aw))) (kA (Rd (df nJ (by rfl) B.isinstance hC (ag (aa 0) (ag (m1 (by rfl) B.bool Qj) aw)))))))),?_⟩;refine⟨_,rfl,_,_,_,_,_,rfl,⟨rfl,h.ty,u2 K (abO d)⟩,_,rfl,?_⟩;cases d with
  |int i=>exact f6 ⟨_,rfl,_,_,_,_,_,rfl,⟨rfl,h.ty,u2 K (QH _)⟩,_,rfl,q⟩
  |bool b=>exact f6 ⟨_,rfl,_,_,_,_,_,rfl,⟨rfl,h.ty,u2 K (QH _)⟩,_,rfl,q⟩
  |_=>exact f5 q
theorem Y6{f:Addr}(F:cz K "is_whole_within" "is_whole_within" xd f fd)(mL:bX K mg "is_whole" z1 iL KG KM)(CA:aK P w K mg base bq 1 KG KM iL PY):aK P w K mg base bq 2 f fd pk Og:=by
 refine F.ok PW (λ_ A _ s H vs Q E al h=>?_)
 .obtain⟨v,d,lo,hi,rfl,h,q⟩:=h;refine⟨_,(bg (cm (hF (dB CA al.mono (by rfl) mL.at_ mL.fn.b3 mL.bd .nil cJ (ag (aa 0) aw)) (kA (w4 l3 l3 (aa 1) (aa 0) (aa 2)))))),?_⟩;refine⟨_,rfl,v,d,rfl,h,_,rfl,?_⟩;cases h with
  |int i=>
   have q:Q (.aM (decide (lo<=i)&&decide (i<=hi))) H:=q;refine f6 ⟨_,rfl,_,rfl,_,_,rfl,rfl,_,rfl,?_⟩;by_cases ai:lo<=i
   .rw[b4 ai,vc]at q;exact cY (b4 ai) ⟨_,rfl,_,_,rfl,rfl,q⟩
   .rw[cM ai,tc]at q;exact c3 (cM ai) q
  |_=>exact f5 q
theorem ζ{f:Addr}(F:cz K "is_tuple_of" "is_tuple_of" xl f fd)(B:eR mg):aK P w K mg base bq 1 f fd pj OH:=by
 refine F.ok QP (λ_ A _ s H vs Q E al h=>?_)
 .obtain⟨v,d,n,rfl,h,q⟩:=h;refine⟨_,(bg (cm (hF (df nJ (by rfl) B.isinstance hC (ag (aa 0) (ag (m1 (by rfl) B.tuple Ov) aw))) (kA (jP jd (df iQ (by rfl) B.len g7 (ag (aa 0) aw)) (aa 1) (dE _)))))),?_⟩;refine⟨_,rfl,_,_,_,_,_,rfl,⟨rfl,h.ty,u2 K (Ú d)⟩,_,rfl,?_⟩;cases h with
  |@tup a xs ds av z t=>
   refine f6 ⟨_,rfl,a,_,rfl,.inr (cG.of av),_,rfl,rfl,?_⟩;show Q (.aM (decide (V.int (xs.length:Int)=V.int n))) H;rw[C',t.len];exact q
  |_=>exact f5 q
theorem Y7{f:Addr}(F:cz K "are_unlike_houses" "are_unlike_houses" uB f fd):aK P w K mg base bq 1 f fd nv GJ:=by
 refine F.ok PX (λ_ A _ s H vs Q E al h=>?_)
 .obtain⟨a,hs,v,u,d,e,rfl,av,a7,bL,dd,Kn,q⟩:=h;refine⟨_,(bg (cm (hF (jP (Ro (TU al)) (aa 1) (aa 0) (by rfl)) (hF (jP (Ro (TU al)) (aa 2) (aa 0) (by rfl)) (kA (jP (Ik al.units) (aa 1) (aa 2) (dE _))))))),?_⟩;have pI:rS hs=true:=av.pI;have dO:rW d=true:=XQ a7.pI dd (by decide);have h_:rW e=true:=XQ bL.pI Kn (by decide);have q:Q (.aM (inD d hs&&inD e hs&&!i2 d e)) H:=q;refine⟨_,rfl,_,rfl,d,hs,a7.nG,av.nG,dO,pI,_,rfl,?_⟩;show if inD d hs=true then _ else _
  cases ai:inD d hs with
  |false=>
   rw[ai]at q;exact f5 q
  |true=>
   rw[ai]at q;refine f6 ⟨_,rfl,_,rfl,e,hs,bL.nG,av.nG,h_,pI,_,rfl,?_⟩;show if inD e hs=true then _ else _
   cases aj:inD e hs with
   |false=>
    rw[aj]at q;exact f5 q
   |true=>
    rw[aj]at q;exact f6 ⟨_,rfl,_,rfl,d,e,a7.nG,bL.nG,dO,h_,q⟩
theorem Ā{f:Addr}(F:cz K "is_name" "is_name" Aa f fd)(B:eR mg)(hy:sZ mg):aK P w K mg base bq 1 f fd iL QR:=by
 refine F.ok R0 (λ_ A _ s H vs Q E al h=>?_)
 .obtain⟨v,d,rfl,h,q⟩:=h;refine⟨_,(a9 (dH (hl.pt (jb (jx (i7 (df nJ (by rfl) B.isinstance hC (ag (aa 0) (ag (m1 (by rfl) B.str mZ) aw))))) (kz (jx (GL l3 l3 bc (df Ci (by rfl) B.len g7 (ag (aa 0) aw)) (nK (by rfl) hy.RX)))))) (bg (cm iz)) dJ)
   (bg (cm (df (w5 rfl) (by rfl) B.v3 xi (ag (lq (N':=["sign"]) (cs:=[none]) rfl (Ij (aa 0)) rfl (by decide+kernel) rfl (by decide+kernel) (jy (λp ay=>bk ay (di))) rfl
    (.own .nil)
    (λC aW aU b0 ez=>⟨(eo (i:=0) (by show(["sign"]:ck).Nodup;decide+kernel) rfl (.inl rfl)),lg,(w4 zj zj cv (aa 0) cv)⟩)) aw))))),?_⟩
  refine⟨_,rfl,_,_,_,_,_,rfl,⟨rfl,h.ty,u2 K (abN d)⟩,_,rfl,?_⟩;cases h with
  |str x z ok=>
   have q:∀H',aB H H'->Q (.aM (decide (1<=x.length)&&decide (x.length<=8)&&x.cps.toList.all vq)) H':=q;refine f5 ⟨_,rfl,_,rfl,qB (en (by omega)),_,_,rfl,rfl,_,rfl,?_⟩;by_cases ai:1<=x.length
   .refine cY (b4 (by omega)) ⟨_,_,rfl,rfl,_,rfl,?_⟩;by_cases yX:x.length<=8
    .have Lb:(x.length:Int)<=8:=by omega
     refine D9 Lb ?_;rw[b4 ai,b4 yX]at q;dsimp only[sO,rz,xx,qa,l4];refine q2 (J:=x1 x) (H1:=H) (xs:=signs x) (rest:=[]) (λR h=>⟨_,rfl,_,rfl,h⟩) rfl (Ii _) (en ?_) (λv=>.aM (match v with|.str y=>vq (y.cps.toList.getD 0 0)|_=>false)) (λi v ah R ev az bQ=>?_) (λD H' cn cC fB=>?_)
     .have:(signs x).length=x.cps.size:=by simp[signs]
      rw[this];exact e1 z (by decide)
     .obtain⟨k,aD,rfl⟩:=cw.mp (f_ ev);have bQ:∀b1,aB ah b1->R (.aM (decide (97<=k)&&decide (k<=122))) b1:=bQ;have aF:(!decide ((⟨#[k]⟩:Str).cps.toList<(bK "a").cps.toList))=decide (97<=k):=by rw[aiO];exact z0 k 97
      have aG:(!decide ((bK "z").cps.toList<(⟨#[k]⟩:Str).cps.toList))=decide (k<=122):=by rw[aiT];exact z0 122 k
      refine⟨_,rfl,_,_,rfl,rfl,_,rfl,?_⟩;by_cases fZ:97<=k
      .rw[b4 fZ,vc]at bQ;refine cY (aF.trans (b4 fZ)) ⟨_,_,rfl,rfl,?_⟩;show R (.aM (!decide ((bK "z").cps.toList<(⟨#[k]⟩:Str).cps.toList))) ah;rw[aG];exact bQ ah (aB.refl _)
      .rw[cM fZ,tc]at bQ;exact c3 (aF.trans (cM fZ)) (bQ ah (aB.refl _))
     .refine⟨D,x.cps.toList.map vq,rfl,aJ.of (cC.trans ?_),?_⟩
      .unfold signs;rw[jK,jK];rfl
      .have e:(x.cps.toList.map vq).all id=x.cps.toList.all vq:=by rw[RA];rfl
       rw[e];exact q H' fB
    .have Lb:¬(x.length:Int)<=8:=by omega
     refine cY (by rw[cM Lb];rfl) ?_;rw[cM yX,H6,tc]at q;exact q H (aB.refl _)
   .refine c3 (cM (by omega)) ⟨_,rfl,f6 ?_⟩;rw[cM ai,tc,tc]at q;exact q H (aB.refl _)
  |_=>exact f6 (q H (aB.refl _))
theorem Xg:∀{xs:aR}{ds:fa},dQ H xs ds->ds.all nT=true->xs=(i8 ds).map V.str/\(i8 ds).length=ds.length
 |_,_,.nil,_=>⟨rfl,rfl⟩
 |_,_,.cons (v:=v) (d:=d) a b,h=>by
  rw[Rz,ie]at h;obtain⟨aF,aG⟩:=Xg b h.2;cases a with
  |str x z ok=>
   simp only[i8,il,fV];rw[<-aF,aG];exact⟨rfl,rfl⟩
  |bJ=>cases h.1
  |aM b=>cases h.1
  |int i=>cases h.1
  |lst _ _ _=>cases h.1
  |tup _ _ _=>cases h.1
theorem η(ys:ck):decide (V.int ((jW (λi=>ys.getD i iN) ys.length:Nat):Int)=V.int (ys.length:Int))=decide ys.Nodup:=by
 rw[C'];by_cases h:ys.Nodup
 .have e:=ON (λi=>ys.getD i iN) ys.length λi j qV bu z=>by
   have hi:i<ys.length:=by omega
   have cZ:ys.getD i iN=ys.getD j iN:=z;rw[eb,eb,dW hi,dW bu]at cZ;exact AM.mp h i j hi bu qV cZ
  rw[e,b4 h,b4 rfl]
 .have e:jW (λi=>ys.getD i iN) ys.length<ys.length:=by
   have aj:∃i j,∃(hi:i<ys.length)(bu:j<ys.length),i<j/\ys[i]=ys[j]:=by refine Qc λaX=>h (AM.mpr λi j hi bu qV z=>aX ⟨i,j,hi,bu,qV,z⟩)
   obtain⟨i,j,hi,bu,qV,z⟩:=aj;refine XN _ _ i j qV bu ?_;show ys.getD i iN=ys.getD j iN;rw[eb,eb,dW hi,dW bu,z]
  rw[cM h,cM (by omega)]
theorem ā{f:Addr}(F:cz K "are_houses" "are_houses" Ab f fd)(B:eR mg)(hy:sZ mg)(mP:bX K mg "is_name" Aa iL wk wq)(CF:aK P w K mg base bq 1 wk wq iL QR):
  aK P w K mg base bq 2 f fd rP QS:=by
 refine F.ok R1 (λ_ A _ s H vs Q E al h=>?_)
 .obtain⟨v,d,rfl,h,q⟩:=h;refine⟨_,(a9 (dH (hl.pt (jb (jx (i7 (df nJ (by rfl) B.isinstance hC (ag (aa 0) (ag (m1 (by rfl) B.list q6) aw))))) (kz (dG sL (df iQ (by rfl) B.len g7 (ag (aa 0) aw)) (nK (by rfl) hy.RU) (dE _))))) (bg (cm iz)) dJ)
   (bg (cm (hF (df (w5 rfl) (by rfl) B.v3 xi (ag (lq (N':=iL) (cs:=[none]) rfl (hU (aa 0)) rfl (by decide+kernel) rfl (by decide+kernel) (jy (λp ay=>bk ay (di))) rfl
    (.own .nil)
    (λC aW aU b0 ez=>⟨(eo (i:=0) (by show(iL:ck).Nodup;decide+kernel) rfl (.inl rfl)),lg,(dB CF al.mono (by rfl) mP.at_ mP.fn.b3 mP.bd .nil cJ (ag (aa 0) aw))⟩)) aw)) (kA (jP jd (df Wv (by rfl) B.len g7 (ag (iv (Px rfl) (by rfl) B.WL Rp (ag (aa 0) aw)) aw)) (df iQ (by rfl) B.len g7 (ag (aa 0) aw)) (dE _))))))),?_⟩
  refine⟨_,rfl,_,_,_,_,_,rfl,⟨rfl,h.ty,u2 K (Qn d)⟩,_,rfl,?_⟩;cases h with
  |@lst a xs ds av z t=>
   have au:=t.len;have q:∀H',aB H H'->Q (.aM (decide (ds.length<=12)&&ds.all nT&&decide (i8 ds).Nodup)) H':=q;refine f5 ⟨_,rfl,a,_,rfl,.inl (aJ.of av),_,_,rfl,rfl,_,rfl,?_⟩;by_cases r_:ds.length<=12
   .rw[b4 r_,vc]at q;refine c3 (cM (by omega)) ?_;dsimp only[sO,rz,xx,qa,l4];refine q2 (J:=kW K a) (H1:=H) (xs:=xs) (rest:=[]) (λR h=>⟨_,rfl,a,rfl,⟨_,aJ.of av⟩,h⟩) rfl (q5 (aJ.of av)) (en (by omega)) (λv=>.aM (nT (r3 H v))) (λi x ah R ex az bQ=>?_) (λD H' ai aj bC=>?_)
    .obtain⟨d,cV,hd⟩:=t.get ex;have bQ:∀b1,aB ah b1->R (.aM (nT (r3 H x))) b1:=bQ;rw[C0 hd]at bQ;exact⟨_,rfl,x,d,rfl,hd.same az,λb1 dY=>bQ b1 dY⟩
    .have dq:(ds.map nT).all id=ds.all nT:=by rw[RA];rfl
     refine⟨D,ds.map nT,rfl,aJ.of (aj.trans (by rw[Oe nT t])),_,rfl,?_⟩;rw[dq];cases pQ:ds.all nT with
     |false=>
      rw[pQ]at q;exact f5 (q H' bC)
     |true=>
      rw[pQ,vc]at q;obtain⟨ex,yP⟩:=Xg t pQ;have j9:H' a=some (.lst ((i8 ds).map V.str)):=by rw[<-ex];exact bC _ _ av
      refine f6 ⟨_,rfl,a,i8 ds,rfl,aJ.of j9,(by omega),λp ay=>?_⟩;have s2:aB H' (upd H' p (AH P w p (jW (λi=>(i8 ds).getD i iN) (i8 ds).length))):=aZ ay;refine⟨p,_,rfl,aE,_,rfl,a,_,rfl,.inl (aJ.of (s2 _ _ j9)),rfl,?_⟩;have cR:=η (i8 ds);have hV:((i8 ds).map V.str).length=(i8 ds).length:=cj ..;rw[<-cR]at q;rw[hV];exact q _ (bC.trans s2)
   .rw[cM r_,tc,tc]at q;exact cY (b4 (by omega)) (q H (aB.refl _))
  |_=>exact f6 (q H (aB.refl _))
theorem Y8{ds:fa}(h:ds.length≠4):pX hs (.tuple ds)=false:=by rcases ds with _|⟨a,_|⟨b,_|⟨c,_|⟨d,_|⟨e,r⟩⟩⟩⟩⟩<;>first|rfl|(simp at h)
theorem Ă{f:Addr}(F:cz K "is_road" "is_road" Ac f fd)(hy:sZ mg)(jO:bX K mg "is_tuple_of" xl pj f1 dN)(wj:aK P w K mg base bq 1 f1 dN pj OH)(hZ:bX K mg "are_unlike_houses" uB nv f2 eU)(r0:aK P w K mg base bq 1 f2 eU nv GJ)(hR:bX K mg "is_whole_within" xd pk cS jQ)(r1:aK P w K mg base bq 2 cS jQ pk Og):
  aK P w K mg base bq 3 f fd lG QT:=by
 refine F.ok R2 (λ_ A _ s H vs Q E al h=>?_)
 .obtain⟨a,hs,v,d,rfl,av,h,dd,q⟩:=h;refine⟨_,(bg (cm (hF (dB wj al.mono (by rfl) jO.at_ jO.fn.b3 jO.bd .nil cJ (ag (aa 1) (ag bc aw))) (hF (dB r0 al.mono (by rfl) hZ.at_ hZ.fn.b3 hZ.bd .nil cJ (ag (aa 0) (ag (cU fe (aa 1) bc (λ_ _=>rfl)) (ag (cU fe (aa 1) bc (λ_ _=>rfl)) aw)))) (hF (dB r1 al.mono (by rfl) hR.at_ hR.fn.b3 hR.bd .nil cJ (ag (cU fe (aa 1) bc (λ_ _=>rfl)) (ag bc (ag (nK (by rfl) hy.RY) aw)))) (kA (dB r1 al.mono (by rfl) hR.at_ hR.fn.b3 hR.bd .nil cJ (ag (cU fe (aa 1) bc (λ_ _=>rfl)) (ag bc (ag (nK (by rfl) hy.RW) aw)))))))))),?_⟩;refine⟨_,rfl,v,d,_,rfl,h,_,rfl,?_⟩;cases h with
  |@tup r xs ds h3 z t=>
   show if decide ((ds.length:Int)=4)=true then _ else _
   by_cases c5:ds.length=4
   .refine cY (b4 (by omega)) ?_;have sl:xs.length=4:=by rw[t.len];exact c5
    obtain⟨x0,eg,gj,mi,rfl⟩:∃x0 eg gj mi,xs=[x0,eg,gj,mi]:=by rcases xs with _|⟨a,_|⟨b,_|⟨c,_|⟨d,_|⟨e,r⟩⟩⟩⟩⟩<;>first|exact⟨_,_,_,_,rfl⟩|(simp at sl)
    cases t with
    |cons t0 t=>
     cases t with
     |cons t1 t=>
      cases t with
      |cons fh t=>
       cases t with
       |cons t3 t=>
        cases t;rename_i fp fJ fy wb;have q:Q (.aM (fX hs fp fJ&&uA 1 9 fy&&uA 1 1000000000 wb)) H:=q;have Lw:ow [fp,fJ,fy,wb]+1<=61:=dd;have kt:fp.depth<=60:=e1 (zm (by simp:fp∈[fp,fJ,fy,wb])) (by omega);have iP:fJ.depth<=60:=e1 (zm (by simp:fJ∈[fp,fJ,fy,wb])) (by omega);refine⟨_,rfl,_,rfl,r,_,_,_,rfl,rfl,cG.of h3,rfl,_,rfl,r,_,_,_,rfl,rfl,cG.of h3,rfl,a,hs,x0,eg,fp,fJ,rfl,av,t0,t1,kt,iP,_,rfl,?_⟩;cases ai:fX hs fp fJ with
        |false=>
         rw[ai]at q;exact f5 q
        |true=>
         rw[ai,vc]at q;refine f6 ⟨_,rfl,r,_,_,_,rfl,rfl,cG.of h3,rfl,gj,fy,_,_,rfl,fh,_,rfl,?_⟩;cases aj:uA 1 9 fy with
         |false=>
          rw[aj]at q;exact f5 q
         |true=>
          rw[aj,vc]at q;exact f6 ⟨_,rfl,r,_,_,_,rfl,rfl,cG.of h3,rfl,mi,wb,_,_,rfl,t3,q⟩
   .refine c3 (cM (by omega)) ?_;rw[Y8 c5]at q;exact q
  |_=>exact f5 q
theorem Ć{f:Addr}(F:cz K "are_roads" "are_roads" Ae f fd)(B:eR mg)(hy:sZ mg)(mQ:bX K mg "is_road" Ac lG wk wq)(CG:aK P w K mg base bq 3 wk wq lG QT):
  aK P w K mg base bq 4 f fd rO QU:=by
 refine F.ok R3 (λ_ A _ s H vs Q E al h=>?_)
 .obtain⟨a,hs,v,d,rfl,av,h,dd,q⟩:=h;refine⟨_,(a9 (dH (hl.pt (jb (jx (i7 (df nJ (by rfl) B.isinstance hC (ag (aa 1) (ag (m1 (by rfl) B.list q6) aw))))) (kz (dG sL (df iQ (by rfl) B.len g7 (ag (aa 1) aw)) (nK (by rfl) hy.RV) (dE _))))) (bg (cm iz)) dJ)
   (bg (cm (df (w5 rfl) (by rfl) B.v3 xi (ag (lq (N':=["thing","houses"]) (cs:=[none,some 0]) rfl (hU (aa 1)) rfl (by decide+kernel) rfl (by decide+kernel) (jy (dj.mpr ⟨rfl,(λp ay=>bk ay (di))⟩)) rfl
    (.own (.mM rfl (.inl rfl) (.inl rfl) rfl .nil))
    (λC aW aU b0 ez=>⟨(eo (i:=0) (by show(["thing","houses"]:ck).Nodup;decide+kernel) rfl (.inl rfl)),lg,(dB CG al.mono (by rfl) mQ.at_ mQ.fn.b3 mQ.bd .nil cJ (ag (aa 1) (ag (aa 0) aw)))⟩)) aw))))),?_⟩
  refine⟨_,rfl,_,_,_,_,_,rfl,⟨rfl,h.ty,u2 K (Qn d)⟩,_,rfl,?_⟩;cases h with
  |@lst b xs ds ae z t=>
   have au:=t.len;have q:∀H',aB H H'->Q (.aM (decide (ds.length<=40)&&ds.all (pX hs))) H':=q;refine f5 ⟨_,rfl,b,_,rfl,.inl (aJ.of ae),_,_,rfl,rfl,_,rfl,?_⟩;by_cases BO:ds.length<=40
   .rw[b4 BO,vc]at q;refine c3 (cM (by omega)) ?_;dsimp only[sO,rz,xx,qa,l4];refine q2 (J:=kW K b) (H1:=H) (xs:=xs) (rest:=[some (.ref a)]) (λR h=>⟨_,rfl,b,rfl,⟨_,aJ.of ae⟩,h⟩) rfl (q5 (aJ.of ae)) (en (by omega)) (λv=>.aM (pX hs (r3 H v))) (λi x ah R ex az bQ=>?_) (λD H' ai aj bC=>?_)
    .obtain⟨d,cV,hd⟩:=t.get ex;have bQ:∀b1,aB ah b1->R (.aM (pX hs (r3 H x))) b1:=bQ;rw[C0 hd]at bQ;have Lw:ow ds+1<=62:=dd;have kt:d.depth<=61:=e1 (zm (f_ cV)) (by omega);exact⟨_,rfl,_,rfl,a,hs,x,d,rfl,av.same az,hd.same az,kt,bQ ah (aB.refl _)⟩
    .have dq:(ds.map (pX hs)).all id=ds.all (pX hs):=by rw[RA];rfl
     refine⟨D,ds.map (pX hs),rfl,aJ.of (aj.trans (by rw[Oe (pX hs) t])),?_⟩;rw[dq];exact q H' bC
   .rw[cM BO,tc]at q;exact cY (b4 (by omega)) (q H (aB.refl _))
  |_=>exact f6 (q H (aB.refl _))
noncomputable def abG(tV oE:PyData):Prop:=wO tV=false\/∃hs,tV=.list hs/\C1 hs oE=false
inductive Po(C e0:Addr)(vs:aR)(H:af)(Q:a4)(E:bP):Prop where
 |mk (x ak:Addr) (v u:ao.V) (tV oE:PyData) (aT:vs=[.ref x,v,u]) (aP:H x=some (.ins C ak [])) (bh:cW H v tV) (cf:cW H u oE) (cP:oE.depth<=62) (dM:abG tV oE) (gk:∀H',aB H H'->E (.ref e0) none H')
theorem ý{f:Addr}(F:cz K "__init__" "Net.__init__" xD f fd)(B:eR mg)(fE:s3 K C)(PZ:vA DY gI sm bm)(GW:Exc K mg "NoNet" e0 bm gI)(mJ:bX K mg "are_houses" Ab rP KC KI)(Cj:aK P w K mg base bq 2 KC KI rP QS)(mK:bX K mg "are_roads" Ae rO KD KL)(Co:aK P w K mg base bq 4 KD KL rO QU):
  aK P w K mg base (eW P w) 5 f fd pn (Po C e0):=by
 refine o1 F R4 (λ_ A _ s H vs Q E al h=>?_)
 .obtain⟨x,ak,v,u,tV,oE,rfl,ax,a7,bL,dd,nP,gU⟩:=h;refine⟨_,a9 (dH (jx (i7 (dB Cj al.mono (by rfl) mJ.at_ mJ.fn.b3 mJ.bd .nil cJ (ag (aa 1) aw)))) (bg (zw PZ GW rfl (ag cv aw))) dJ)
   (a9 (dH (jx (i7 (dB Co al.mono (by rfl) mK.at_ mK.fn.b3 mK.bd .nil cJ (ag (aa 1) (ag (aa 2) aw))))) (bg (zw PZ GW rfl (ag cv aw))) dJ) XZ),?_⟩
  refine⟨_,rfl,v,tV,rfl,a7,λH1 s1=>⟨_,rfl,?_⟩⟩;cases dh:wO tV with
  |false=>exact f6 ⟨by show 1<=sizeLine;decide,gU H1 s1⟩
  |true=>
   rcases nP with z|⟨hs,rfl,wJ⟩
   .rw[dh]at z;cases z
   .cases a7 with
    |@lst a xs _ av z t=>
     refine f5 ⟨_,rfl,_,rfl,a,hs,u,oE,rfl,(cW.lst av z t).same s1,bL.same s1,dd,λah s2=>⟨_,rfl,?_⟩⟩;rw[wJ];exact f6 ⟨by show 1<=sizeLine;decide,gU ah (s1.trans s2)⟩
theorem CB{ys:ck}{x:Str}(h:x∉ys):iD (.str x) (ys.map V.str)=false:=by unfold iD;rw[kk];intro z;obtain⟨v,a7,e⟩:=pg.mp z;obtain⟨y,cb,rfl⟩:=cw.mp a7;have bB:(y==x)=true:=e;exact h (eq_of_beq bB▸cb)
theorem zO{α:Type}{l:List α}{i:Nat}{d x:α}(h:l[i]?=some x):l.getD i d=x:=by rw[eb,h];rfl
inductive HZ(C R:Addr)(vs:aR)(H:af)(Q:a4)(E:bP):Prop where
 |mk (x bR bI:Addr) (hs:bt) (zs:aR) (h:Str) (aT:vs=[.ref x,.str h]) (aP:ka C H x bR bI (bY hs) zs) (bh:(h∈hs.map S->Q .bJ H)) (cf:(h∉hs.map S->E (.ref R) none H))
noncomputable abbrev Af:Stmt:=iC (top 57) 7
theorem abu:de j3 j3 (cy Af):={}
theorem aah{f:Addr}(F:cz K "need_house" "Net.need_house" Af f fd)(fE:s3 K C)(NB:vA DY gI sm bm)(zb:Exc K mg "NoHouse" R bm gI):
  aK P w K mg base (eW P w) 1 f fd j3 (HZ C R):=by
 refine o1 F abu (λ_ A _ s H vs Q E al h=>?_)
 .obtain⟨x,bR,bI,hs,zs,h',rfl,n,q,gU⟩:=h;obtain⟨ak,ax⟩:=n.ins;refine⟨_,(bg (dH (dG tX (aa 1) (gf (aa 0) (by rfl)) (by rfl)) (bg (zw NB zb rfl (ag cv aw))) dJ)),?_⟩;have au:aJ K H bR ((hs.map S).map V.str):=by rw[<-q3];exact aJ.of n.wH
  refine⟨_,rfl,_,rfl,x,C,ak,_,_,rfl,ax,fE.cl,fE.CJ,rfl,bR,_,rfl,.inl au,rfl,uy _,_,rfl,?_⟩;by_cases hm:h'∈hs.map S
  .exact c3 (by rw[xc hm];rfl) (q hm)
  .exact cY (by rw[CB hm];rfl) ⟨by show 1<=sizeLine;decide,gU hm⟩
theorem θ{α β:Type}(xs:List α)(q:Nat->Bool)(g:Nat->β):(xs.zipIdx.filter λz=>q z.2).map (λz=>g z.2)=((gN xs.length).filter q).map g:=by
 have e:xs.zipIdx.map (·.2)=gN xs.length:=by rw[List.zipIdx_map_snd,List.range_eq_range']
 rw[<-e,RD,jK];rfl
noncomputable def fp:cQ.fm:=⟨0,0,0,0⟩
noncomputable def Dy(hs:bt)(ds:dc)(xg:cQ.fm->Nat)(h:Str):List Nat:=(gN ds.length).filter λi=>decide (V.str (S (hs.getD (xg (ds.getD i fp)) []))=V.str h)
noncomputable def jG(hs:bt)(ds:dc)(xg:cQ.fm->Nat)(h:Str):List Int:=(Dy hs ds xg h).map λi:Nat=>(i:Int)
theorem ZZ(hs:bt)(ds:dc)(xg:cQ.fm->Nat)(h:Str):(jG hs ds xg h).length<=ds.length:=by unfold jG Dy;rw[cj];exact e1 (I0 _ _) (by rw[Eo];exact cL _)
inductive I7(C R:Addr)(xg:cQ.fm->Nat)(vs:aR)(H:af)(Q:a4)(E:bP):Prop where
 |mk (x bR bI:Addr) (hs:bt) (rs:c7) (ds:dc) (h:Str) (aT:vs=[.ref x,.str h]) (aP:ka C H x bR bI (bY hs) (bM rs)) (bh:gE H hs rs ds) (cf:rs.length<=40) (cP:(h∈hs.map S->∀(p:Addr)(H':af),H p=none->aB H H'->H' p=some (.lst ((jG hs ds xg h).map V.int))->Q (.ref p) H')) (dM:(h∉hs.map S->E (.ref R) none H))
noncomputable abbrev AX:Stmt:=iC (top 57) 4
theorem acU:de j3 j3 (cy AX):={}
theorem abv{f fn:Addr}(F:cz K "out_of" "Net.out_of" AX f fd)(B:eR mg)(fE:s3 K C)(jN:d_ K C "need_house" "Net.need_house" Af j3 fn KN)(pC:aK P w K mg base (eW P w) 1 fn KN j3 (HZ C R)):
  aK P w K mg base (eW P w) 2 f fd j3 (I7 C R (·.a)):=by
 have fc:=fE.cl;refine o1 F acU (λ_ A _ s H vs Q E al h=>?_)
 .obtain⟨x,bR,bI,hs,rs,ds,h',rfl,n,bQ,cN,q,gU⟩:=h;obtain⟨ak,ax⟩:=n.ins;refine⟨_,(a9 (gZ (iS (aa 0) fc jN.gi pC al.mono jN.bd .nil oR (ag (aa 1) aw)))
   (bg (cm (lq (N':=["number","road","house"]) (cs:=[none,none,some 1]) rfl (Pg rfl B.enumerate (ag (gf (aa 0) (by rfl)) aw)) rfl (by decide+kernel) rfl (by decide+kernel) (jy (dj.mpr ⟨rfl,(λp ay=>bk ay (di))⟩)) rfl
    (.own (.own (.mM rfl (.inl rfl) (.inl rfl) rfl .nil)))
    (λC aW aU b0 ez=>⟨(Hz (K:=K) (n:=2) rfl rfl (oK (eo (i:=0) (by show(["number","road","house"]:ck).Nodup;decide+kernel) rfl (.inl rfl)) (oK (eo (i:=1) (by show(["number","road","house"]:ck).Nodup;decide+kernel) rfl (.inl rfl)) zJ))),(Hy (dG jd (cU (Dd (K:=K) rfl) (aa 1) bc (λ_ _=>rfl)) (aa 2) (dE _))),(aa 0)⟩))))),?_⟩
  have au:=i4 rs;have ui:=bQ.len;refine⟨_,rfl,x,ak,_,rfl,ax,rfl,_,rfl,x,bR,bI,hs,_,h',rfl,n,λhm=>?_,gU⟩;refine⟨_,rfl,x,C,ak,_,_,rfl,ax,fE.cl,fE.fS,rfl,bI,rfl,⟨_,aJ.of n.p_⟩,?_⟩;refine Qv (rest:=[some (.str h')]) rfl (aJ.of n.p_) (en (by omega)) (λi _=>decide (V.str (S (hs.getD (ds.getD i fp).a []))=V.str h')) (λi _=>.int i) (λi v ah R ev az qU=>?_) (λi v ah R ev _ az qU=>⟨_,rfl,qU ah (aB.refl _)⟩) (λD H' ai aj bC=>q hm D H' ai bC ?_)
  .unfold bM at ev;rw[d0]at ev;obtain⟨r,eB,rfl⟩:=iq.mp ev;obtain⟨d,cV,ok,hd⟩:=bQ.get eB;have dm:ds.getD i fp=d:=zO cV;rw[dm]at qU;exact⟨_,rfl,r,_,_,_,rfl,rfl,cG.of (az _ _ hd),rfl,_,rfl,rfl,_,rfl,qU ah (aB.refl _)⟩
  .rw[aj,θ (bM rs) (λi=>decide (V.str (S (hs.getD (ds.getD i fp).a []))=V.str h')) (λi=>V.int i),au,ui];unfold jG;rw[jK];rfl
noncomputable abbrev H0:Stmt:=iC (top 57) 3
theorem aai:de j2 j2 (cy H0):={}
theorem þ{f:Addr}(F:cz K "road" "Net.road" H0 f fd)(B:eR mg)(fE:s3 K C)(Oh:vA DY gI sm bm)(zo:Exc K mg "NoRoad" R bm gI):
  aK P w K mg base (eW P w) 1 f fd j2 (Qm C R):=by
 refine o1 F aai (λ_ A _ s H vs Q E al h=>?_)
 .obtain⟨x,bR,bI,xs,ys,k,rfl,n,q,gU⟩:=h;obtain⟨ak,ax⟩:=n.ins;refine⟨_,(a9 (dH (jx (GL l3 uZ bc (aa 1) (df iQ (by rfl) B.len g7 (ag (gf (aa 0) (by rfl)) aw)))) (bg (zw Oh zo rfl (ag cv aw))) dJ)
   (bg (cm (cU gr (gf (aa 0) (by rfl)) (aa 1) (λ_ _=>rfl))))),?_⟩
  refine⟨_,rfl,_,_,rfl,rfl,_,rfl,?_⟩;by_cases a8:0<=k
  .refine cY (b4 a8) ⟨_,rfl,x,C,ak,_,_,rfl,ax,fE.cl,fE.fS,rfl,bI,_,rfl,.inl (aJ.of n.p_),_,_,rfl,rfl,_,rfl,?_⟩;by_cases ai:k<ys.length
   .obtain⟨v,a7,aiB⟩:=q ⟨a8,ai⟩;refine D9 ai ?_;exact⟨_,rfl,x,C,ak,_,_,rfl,ax,fE.cl,fE.fS,rfl,_,rfl,bI,_,_,_,rfl,rfl,aJ.of n.p_,a7,aiB⟩
   .refine cY (by rw[cM ai];rfl) ?_;exact⟨by show 1<=sizeLine;decide,gU λz=>ai z.2⟩
  .refine c3 (cM a8) ⟨_,rfl,?_⟩;exact f6 ⟨by show 1<=sizeLine;decide,gU λz=>a8 z.1⟩
noncomputable abbrev hA:=List (List bb×ao.V)
noncomputable def dy(h g:Str):List bb:=[.inr h,.inr g]
noncomputable def kb(n t:Addr):List (Str×ao.V):=[("net",.ref n),("told",.ref t)]
structure sJ(C a3:Addr)(H:af)(x n t bR bI:Addr)(xs ys:aR)(kvs:hA):Prop where
 ins:∃ak,H x=some (.ins C ak (kb n t))
 hb:ka a3 H n bR bI xs ys
 told:H t=some (.bV kvs)
theorem sJ.same{t:Addr}{kvs:hA}(W:sJ C a3 H x n t bR bI xs ys kvs)(az:aB H H'):sJ C a3 H' x n t bR bI xs ys kvs:=
 let⟨ak,h⟩:=W.ins
 ⟨⟨ak,az _ _ h⟩,W.hb.same az,az _ _ W.told⟩
end
structure ut(K:aQ)(C:Addr):Prop where
 cl:fw K C
 nn:c_ K (.ref C) "net"=some none
 eI:c_ K (.ref C) "told"=some none
inductive EI(C:Addr)(vs:aR)(H:af)(Q:a4)(gK:bP):Prop where
 |mk (x ak:Addr) (v:ao.V) (aT:vs=[.ref x,v]) (aP:H x=some (.ins C ak [])) (bh:∀t,H t=none->Q .bJ (upd (upd H t (.bV [])) x (.ins C ak [("net",v),("told",.ref t)])))
inductive JK(C a3 dz:Addr)(vs:aR)(H:af)(Q:a4)(E:bP):Prop where
 |mk (x n t bR bI:Addr) (hs:bt) (ys:aR) (kvs:hA) (v u:ao.V) (d e:PyData) (aT:vs=[.ref x,v,u]) (aP:sJ C a3 H x n t bR bI (bY hs) ys kvs) (bh:Good hs) (cf:cW H v d) (cP:cW H u e) (dM:d.depth<=60) (gk:e.depth<=60) (ic:(fX (bF hs) d e=true->∀H',aB H H'->Q .bJ H')) (qo:(fX (bF hs) d e=false->∀H',aB H H'->E (.ref dz) none H'))
inductive EJ(C a3 dz gb:Addr)(vs:aR)(H:af)(Q:a4)(E:bP):Prop where
 |mk (x n t bR bI:Addr) (hs:bt) (rs:c7) (ds:dc) (kvs:hA) (h g:Str) (i:Int) (aT:vs=[.ref x,.str h,.str g,.int i]) (aP:sJ C a3 H x n t bR bI (bY hs) (bM rs) kvs) (bh:Good hs) (cf:gE H hs rs ds) (cP:rs.length<=40) (dM:cW H (.str h) (.str h)) (gk:cW H (.str g) (.str g)) (ic:kvs.length<sizeLine) (qo:(fX (bF hs) (.str h) (.str g)=true->i∈jG hs ds (·.a) h->∀H',aB H H'->Q .bJ (upd H' t (.bV (fv kvs (dy h g) (.int i)))))) (Pm:(fX (bF hs) (.str h) (.str g)=false->∀H',aB H H'->E (.ref dz) none H')) (aki:(fX (bF hs) (.str h) (.str g)=true->i∉jG hs ds (·.a) h->∀H',aB H H'->E (.ref gb) none H'))
theorem Z0(ys:jM):(ys.map V.int).all nX=true:=by rw[rL];intro x ax;obtain⟨y,_,rfl⟩:=cw.mp ax;rfl
theorem aaj{ys:jM}{x:Int}(h:x∈ys):iD (.int x) (ys.map V.int)=true:=by unfold iD;rw[pg];exact⟨.int x,cw.mpr ⟨x,h,rfl⟩,by show(x==x)=true;exact beq_self_eq_true x⟩
theorem Ze{ys:jM}{x:Int}(h:x∉ys):iD (.int x) (ys.map V.int)=false:=by unfold iD;rw[kk];intro z;obtain⟨v,a7,e⟩:=pg.mp z;obtain⟨y,cb,rfl⟩:=cw.mp a7;have bB:(y==x)=true:=e;exact h (eq_of_beq bB▸cb)
theorem NC{hs:bt}{h g:Str}(c:fX (bF hs) (.str h) (.str g)=true):h∈hs.map S/\g∈hs.map S:=by unfold fX at c;simp only[ie]at c;exact⟨Qc λn=>by rw[RQ n]at c;exact ei c.1.1,Qc λn=>by rw[RQ n]at c;exact ei c.1.2⟩
section
variable{P:cA}{w:bU}{K:aQ}{mg:b9}{base:Heap}
noncomputable abbrev zT:Stmt:=iC (top 59) 0
theorem ad8:de kq kq (cy zT):={}
theorem acV{f:Addr}(F:cz K "__init__" "Ways.__init__" zT f fd)(e3:ut K C):aK P w K mg base bq 1 f fd kq (EI C):=by
 refine F.ok ad8 (λ_ A _ s H vs Q E al h=>?_)
 .obtain⟨x,ak,v,rfl,ax,q⟩:=h;refine⟨_,(a9 (l1 (aa 0) (aa 1) rfl)
   (bg (l1 (aa 0) PA rfl))),?_⟩
  refine⟨_,rfl,_,rfl,x,C,ak,_,rfl,ax,e3.cl,e3.nn,(by show 0<1000;decide),?_⟩;intro t eI;have Gq:t≠x:=λe=>by rw[e,aE]at eI;cases eI
  rw[aV Gq]at eI;refine⟨_,rfl,x,C,ak,_,rfl,(by rw[aV (d3 Gq)];exact aE),e3.cl,e3.eI,(by show 1<1000;decide),?_⟩;have aF:upd (upd (upd H x (.ins C ak [("net",v)])) t (.bV [])) x (.ins C ak [("net",v),("told",.ref t)])=upd (upd H t (.bV [])) x (.ins C ak [("net",v),("told",.ref t)]):=by
   funext b;by_cases ae:b=x
   .rw[ae,aE,aE]
   .rw[aV ae,aV ae];by_cases ar:b=t
    .rw[ar,aE,aE]
    .rw[aV ar,aV ar,aV ae]
  show Q .bJ (upd (upd (upd H x (.ins C ak [("net",v)])) t (.bV [])) x (.ins C ak [("net",v),("told",.ref t)]));rw[aF];exact q t eI
noncomputable abbrev Dh:Stmt:=iC (top 59) 6
theorem ad9:de hO hO (cy Dh):={}
theorem acW{f:Addr}(F:cz K "need_pair" "Ways.need_pair" Dh f fd)(e3:ut K C)(fc:fw K a3)(NB:vA DY gI sm bm)(zb:Exc K mg "NoHouse" dz bm gI)(hT:d_ K a3 "houses" "Net.houses" uw fD f1 dN)(k8:aK P w K mg base bq 1 f1 dN fD (zk a3))(hZ:bX K mg "are_unlike_houses" uB nv f2 eU)(r0:aK P w K mg base bq 1 f2 eU nv GJ):
  aK P w K mg base (eW P w) 2 f fd hO (JK C a3 dz):=by
 refine o1 F ad9 (λ_ A _ s H vs Q E al h=>?_)
 .obtain⟨x,n,t,bR,bI,hs,ys,kvs,v,u,d,e,rfl,W,G,a7,bL,dd,Kn,q,gU⟩:=h;obtain⟨ak,ax⟩:=W.ins;refine⟨_,(bg (dH (jx (i7 (dB r0 al.mono (by rfl) hZ.at_ hZ.fn.b3 hZ.bd .nil cJ (ag (qY (gf (aa 0) (by rfl)) fc hT.gi k8 al.mono hT.bd .nil cJ) (ag (aa 1) (ag (aa 2) aw)))))) (bg (zw NB zb rfl (ag cv aw))) dJ)),?_⟩;obtain⟨gP,aX⟩:=W.hb.ins;refine⟨_,rfl,x,C,ak,_,_,rfl,ax,e3.cl,e3.nn,rfl,n,gP,_,rfl,aX,rfl,n,bR,bI,_,_,rfl,W.hb,λl nl=>?_⟩;have bZ:=aZ (o:=.lst (bY hs)) nl;refine⟨_,rfl,_,rfl,l,bF hs,v,u,d,e,rfl,I6 G aE,a7.same bZ,bL.same bZ,dd,Kn,_,rfl,?_⟩;cases ar:fX (bF hs) d e with
  |true=>exact q ar _ bZ
  |false=>exact⟨by show 1<=sizeLine;decide,gU ar _ bZ⟩
noncomputable abbrev zS:Stmt:=iC (top 59) 1
theorem aea:de qA qA (cy zS):={}
theorem acX{f:Addr}(F:cz K "set_way" "Ways.set_way" zS f fd)(e3:ut K C)(fc:fw K a3)(Oh:vA DY gI sm bm)(zo:Exc K mg "NoRoad" gb bm gI)(pH:d_ K a3 "out_of" "Net.out_of" AX j3 f1 dN)(y':aK P w K mg base (eW P w) 2 f1 dN j3 (I7 a3 dz (·.a)))(pD:d_ K C "need_pair" "Ways.need_pair" Dh hO f2 eU)(yJ:aK P w K mg base (eW P w) 2 f2 eU hO (JK C a3 dz)):
  aK P w K mg base (eW P w) 3 f fd qA (EJ C a3 dz gb):=by
 have jw:=e3.cl;refine o1 F aea (λ_ A _ s H vs Q E al h=>?_)
 .obtain⟨x,n,t,bR,bI,hs,rs,ds,kvs,h',g',i,rfl,W,G,bQ,cN,a7,bL,UE,q,gU,aiy⟩:=h;obtain⟨ak,ax⟩:=W.ins;obtain⟨gP,aX⟩:=W.hb.ins;refine⟨_,(a9 (gZ (iS (aa 0) jw pD.gi yJ al.mono pD.bd .nil oR (ag (aa 1) (ag (aa 2) aw))))
   (a9 (dH (dG tX (aa 3) (iS (gf (aa 0) (by rfl)) fc pH.gi y' al.mono pH.bd .nil oR (ag (aa 1) aw)) (by rfl)) (bg (zw Oh zo rfl (ag cv aw))) dJ)
   (bg (zM (gs al) (gf (aa 0) (by rfl)) (hE (ag (aa 1) (ag (aa 2) aw))) (aa 3) rfl)))),?_⟩
  refine⟨_,rfl,x,ak,_,rfl,ax,rfl,_,rfl,_,rfl,x,n,t,bR,bI,hs,_,kvs,.str h',.str g',.str h',.str g',rfl,W,G,a7,bL,(by show 0<=60;decide),(by show 0<=60;decide),λar H1 s1=>?_,gU⟩;have hm:=NC ar;refine⟨_,rfl,_,rfl,x,C,ak,_,_,rfl,s1 _ _ ax,e3.cl,e3.nn,rfl,n,gP,_,rfl,s1 _ _ aX,rfl,_,rfl,n,bR,bI,hs,rs,ds,h',rfl,W.hb.same s1,bQ.same s1,cN,λ_ p ah np s2 ay=>?_,λnP=>bk hm.1 nP⟩;have hK:=s1.trans s2;refine⟨p,_,rfl,.inl (aJ.of ay),rfl,Z0 _,_,rfl,?_⟩;by_cases hi:i∈jG hs ds (·.a) h'
  .refine c3 (by rw[aaj hi];rfl) ?_;refine⟨_,rfl,_,rfl,x,C,ak,_,_,rfl,hK _ _ ax,e3.cl,e3.eI,rfl,_,rfl,_,rfl,(by show 2<=sizeLine;decide),λr fS=>?_⟩;have aW:=aZ (o:=.tup [V.str h',V.str g']) fS;exact⟨t,_,rfl,n_.t (k:=dy h' g') ((hK.trans aW) _ _ W.told) aE UE,q ar hi _ (hK.trans aW)⟩
  .refine cY (by rw[Ze hi];rfl) ⟨by show 1<=sizeLine;decide,aiy ar hi _ hK⟩
inductive JL(C:Addr)(vs:aR)(H:af)(Q:a4)(gK:bP):Prop where
 |mk (e s:Addr) (v:ao.V) (zs:aR) (aT:vs=[.ref e,v,.ref s]) (aP:H e=some (lU e C)) (bh:H s=some (.lst zs)) (cf:∀(ak l:Addr)(H':af),H ak=none->H l=none->ak≠l->(∀b o,H b=some o->b≠e->H' b=some o)->H' e=some (lT e C ak)->H' ak=some (nf ak [("reason",v),("seen",.ref l)])->H' l=some (.lst zs)->Q .bJ H')
inductive Out where
 |ok (aH:cx)
 |no (rA:Str) (sn:ck)
noncomputable def u3(kvs:hA)(h g:Str):Option Nat:=match b_ kvs (dy h g)with|some (.int k)=>some k.toNat|_=>none
noncomputable def tb(hs:bt)(ds:dc)(k:Nat):Str:=S (hs.getD (ds.getD k fp).b [])
noncomputable def kJ(kvs:hA)(hs:bt)(ds:dc)(g:Str):Nat->Str->List Str->List Nat->Out
 |0,_,_,aH=>.ok aH
 |n+1,h,sn,aH=>if h=g then .ok aH else match u3 kvs h g with
  |none=>.no "none" sn
  |some k=>if tb hs ds k∈sn then .no "round" (sn++[tb hs ds k])else kJ kvs hs ds g n (tb hs ds k) (sn++[tb hs ds k]) (aH++[k])
structure yz(kvs:hA)(m:Nat):Prop where
 val:∀k v,b_ kvs k=some v->∃i:Nat,v=.int (i:Int)/\i<m
theorem yz.get{kvs:hA}{m:Nat}(t:yz kvs m)(h g:Str):(b_ kvs (dy h g)=none/\u3 kvs h g=none)\/∃i:Nat,b_ kvs (dy h g)=some (.int (i:Int))/\u3 kvs h g=some i/\i<m:=by
 cases e:b_ kvs (dy h g)with
 |none=>exact .inl ⟨rfl,by unfold u3;rw[e]⟩
 |some v=>
  obtain⟨i,rfl,hi⟩:=t.val _ _ e;exact .inr ⟨i,rfl,by unfold u3;rw[e];simp,hi⟩
noncomputable def nats(aH:cx):List ao.V:=aH.map λk:Nat=>V.int (k:Int)
noncomputable def lz(sn:ck):List ao.V:=sn.map V.str
noncomputable def JM(eL:Addr)(o:Out)(H:af)(Q:a4)(E:bP):Prop:=match o with
 |.ok aH=>∀l H',H l=none->aB H H'->H' l=some (.lst (nats aH))->Q (.ref l) H'
 |.no rA sn=>∀ak l H',H ak=none->H l=none->ak≠l->aB H H'->H' ak=some (nf ak [("reason",.str rA),("seen",.ref l)])->H' l=some (.lst (lz sn))->E (.ref eL) (some ak) H'
inductive TT(C a3 dz eL:Addr)(vs:aR)(H:af)(Q:a4)(E:bP):Prop where
 |mk (x n t bR bI:Addr) (hs:bt) (rs:c7) (ds:dc) (kvs:hA) (h g:Str) (aT:vs=[.ref x,.str h,.str g]) (aP:sJ C a3 H x n t bR bI (bY hs) (bM rs) kvs) (bh:Good hs) (cf:gE H hs rs ds) (cP:yz kvs ds.length) (dM:(h∈hs.map S->g∈hs.map S->JM eL (kJ kvs hs ds g 13 h [h] []) H Q E)) (gk:(h∉hs.map S\/g∉hs.map S->E (.ref dz) none H))
theorem zp{α:Type}[DecidableEq α]:∀{sn L:List α},sn.Nodup->(∀y∈sn,y∈L)->sn.length<=L.length
 |[],_,_,_=>ej _
 |x::r,L,aC,h=>by have ax:=h x (.head _);have a5:=zp (sn:=r) (L:=L.erase x) (nu.mp aC).2 (λy cb=>(List.mem_erase_of_ne (show y≠x fromλe=>(nu.mp aC).1 (by rw[<-e];exact cb))).mpr (h y (.tail _ cb)));rw[List.length_erase_of_mem ax]at a5;have:=List.length_pos_of_mem ax;rw[fV];omega
theorem Xo{α:Type}{l:List α}{x:α}(aC:l.Nodup)(h:x∉l):(l++[x]).Nodup:=by rw[Ep];exact⟨aC,nu.mpr ⟨di,oq⟩,λa av b ae e=>h (by rw[<-gW.mp ae,<-e];exact av)⟩
theorem getD_mem'{α:Type}{l:List α}{i:Nat}{d:α}(h:i<l.length):l.getD i d∈l:=by rw[eb,dW h];exact qy h
theorem Pw(sn:ck)(c:Str):ao.hD (lz (sn++[c])) (-1)=some (.str c):=by
 unfold lz;rw[fk];generalize sn.map V.str=zs;unfold ao.hD ao.so;rw[eS,bz (by decide),bO (by show -((zs.length+1:Nat):Int)<=-1;omega)];show(zs++[V.str c])[((-1:Int)+((zs.length+1:Nat):Int)).toNat]?=_;have e:((-1:Int)+((zs.length+1:Nat):Int)).toNat=zs.length:=by omega
 rw[e];simp
theorem none_of{H H1:af}(az:aB H H1)(h:H1 a=none):H a=none:=by
 cases e:H a with
 |none=>rfl
 |some o=>rw[az _ _ e]at h;cases h
theorem Te{H1:af}{E:bP}{e:Addr}(q:JM eL (.no rA sn) H Q E)(az:aB H H1)(c5:H1 p=some (.lst (lz sn)))(ne:H1 e=none):
  JL eL (V.ref e::[.str rA,.ref p]) (upd H1 e (lU e eL)) (λv ah=>v=.bJ/\∃ak,ah e=some (lT e eL ak)/\E (.ref eL) (some ak) (del ah e)) mv:=by
 refine⟨e,p,.str rA,lz sn,rfl,aE,aZ ne _ _ c5,λak l H' aC nl V5 keep he FK au=>⟨rfl,ak,he,?_⟩⟩;have rf:ak≠e:=λz=>by rw[z,aE]at aC;cases aC
 have zF:l≠e:=λz=>by rw[z,aE]at nl;cases nl
 rw[aV rf]at aC;rw[aV zF]at nl;refine q ak l (del H' e) (none_of az aC) (none_of az nl) V5 (λb o ae=>?_) ?_ ?_
 .have uf:=az _ _ ae;have lj:b≠e:=λz=>by rw[z,ne]at uf;cases uf
  rw[p3 lj];exact keep b o (by rw[aV lj];exact uf) lj
 .rw[p3 rf];exact FK
 .rw[p3 zF];exact au
end
end c2
namespace b5
open PySem PySem.Spec PyProof.Rows ao PySem.W
noncomputable def xW{α:Type}(lt:iO):KasT α->α
 |.ret a=>a
 |.ask i j k=>xW lt (k (lt i j))
noncomputable def kF{α:Type}(n:Nat)(P:α->Prop):KasT α->Prop
 |.ret a=>P a
 |.ask i j k=>i<n/\j<n/\∀b,kF n P (k b)
theorem zP{α β:Type}{n:Nat}{P:α->Prop}{R:β->Prop}{f:α->KasT β}(bE:∀a,P a->kF n R (f a)):∀t:KasT α,kF n P t->kF n R (t.bind f)
 |.ret a,h=>bE a h
 |.ask i j k,h=>⟨h.1,h.2.1,λb=>zP bE (k b) (h.2.2 b)⟩
theorem p5{α:Type}{n:Nat}{P:α->Prop}{c:Prop}[Decidable c]{s t:KasT α}(ai:c->kF n P s)(aj:¬c->kF n P t):kF n P (if c then s else t):=by
 by_cases h:c
 .rw[bO h];exact ai h
 .rw[bz h];exact aj h
theorem QV{α:Type}{cmp:Nat->Nat->(Bool->aO->Prop)->aO->Prop}{lt:iO}{n:Nat}{P:α->Prop}{Q:α->aO->Prop}(ar:∀i j C,i<n->j<n->C (lt i j) s->cmp i j C s):
  ∀t:KasT α,kF n P t->(P (xW lt t)->Q (xW lt t) s)->t.kasWp cmp Q s
 |.ret a,p,h=>h p
 |.ask i j k,p,h=>ar i j _ p.1 p.2.1 (QV ar (k (lt i j)) (p.2.2 _) h)
theorem OI{α:Type}{lt:iO}{n:Nat}{P:α->Prop}:∀t:KasT α,kF n P t->P (xW lt t)
 |.ret _,p=>p
 |.ask i j k,p=>OI (k (lt i j)) (p.2.2 _)
noncomputable def f'(n:Nat)(p:tF):Prop:=p.Perm (Es (gN n))
theorem f'.lt{n:Nat}{p:tF}(h:f' n p){x:Nat}(ax:x∈p):x<n:=by
 have:=h.mem_iff.mp ax;have:x∈gN n:=by simpa using this
 exact rN.mp this
theorem f'.list{n:Nat}{p:tF}(h:f' n p):p.toList.Perm (gN n):=by have:=Array.perm_iff_toList_perm.mp h;simpa using this
theorem f'.at{n:Nat}{p:tF}(h:f' n p)(a8:0<n)(k:Nat):p.getD k 0<n:=by
 by_cases aD:k<p.size
 .have e:p.getD k 0=p[k]:=by simp[Yp,aD]
  rw[e];exact h.lt (Array.getElem_mem aD)
 .have e:p.getD k 0=0:=by simp[Yp,aD]
  rw[e];exact a8
theorem f'.perm{n:Nat}{q:tF}(h:f' n p)(e:q.Perm p):f' n q:=Array.Perm.trans e h
theorem f'.rev{n:Nat}(h:f' n p)(i j:Nat):f' n (kas_rev p i j):=h.perm (mirror_perm ..)
theorem f'.afk{n:Nat}(h:f' n p)(i j:Nat):f' n (bubble p i j):=h.perm (bubble_perm ..)
section
variable{n:Nat}
theorem I8(a8:0<n)(h:f' n p):∀f k,kF n (λ_=>True) (kas_asc p f k)
 |0,_=>trivial
 |f+1,k=>⟨h.at a8 _,h.at a8 _,λb=>p5 (λ_=>trivial) λ_=>I8 a8 h f (k+1)⟩
theorem H2(a8:0<n):∀(f:Nat)(p:tF)(k q:Nat),f' n p->kF n (λr=>f' n r.1) (kas_desc f p k q)
 |0,p,k,q,h=>h
 |f+1,p,k,q,h=>⟨h.at a8 _,h.at a8 _,λb=>p5 (λ_=>p5 (λ_=>H2 a8 f _ _ _ (h.rev _ _)) λ_=>H2 a8 f _ _ _ h)
   λ_=>⟨h.at a8 _,h.at a8 _,λb=>p5 (λ_=>h) λ_=>H2 a8 f _ _ _ h⟩⟩
theorem QW(a8:0<n)(h:f' n p)(k m:Nat):kF n (λr=>f' n r.2) (kas_tail3 k m p):=by unfold kas_tail3;refine zP (P:=λ_=>True) (λa _=>?_) _ (I8 a8 (h.rev _ _) _ _);exact h.rev _ _
theorem Xt(a8:0<n)(h:f' n p)(k m:Nat):kF n (λr=>f' n r.2) (kas_descPart k m p):=
 zP (λr al=>p5 (λ_=>QW a8 (f'.rev al _ _) _ _) λ_=>QW a8 al _ _) _ (H2 a8 _ _ _ _ h)
theorem Ŷ(a8:0<n)(h:f' n p)(m:Nat):kF n (λr=>f' n r.2) (kas_count m p):=by unfold kas_count;refine zP (P:=λ_=>True) (λk _=>?_) _ (I8 a8 h _ _);refine p5 (λ_=>h) λ_=>p5 (λ_=>⟨h.at a8 _,h.at a8 _,λb=>p5 (λ_=>h) λ_=>Xt a8 (h.rev _ _) _ _⟩) λ_=>Xt a8 h _ _
theorem Pp(a8:0<n)(h:f' n p)(k:Nat):∀f l r,kF n (λ_=>True) (kas_place p k f l r)
 |0,_,_=>trivial
 |f+1,l,r=>p5 (λ_=>trivial) λ_=>⟨h.at a8 _,h.at a8 _,λb=>p5 (λ_=>Pp a8 h k f _ _) λ_=>Pp a8 h k f _ _⟩
theorem Tf(a8:0<n):∀(f:Nat)(p:tF)(k:Nat),f' n p->kF n (f' n) (kas_bin f p k)
 |0,p,k,h=>h
 |f+1,p,k,h=>zP (λl _=>Tf a8 f _ _ (h.afk _ _)) _ (Pp a8 h k _ _ _)
theorem It(a8:0<n):kF n (f' n) (Cm n):=by have al:f' n (Es (gN n)):=Array.Perm.refl _;unfold Cm;refine zP (P:=λr=>f' n r.2) (λr aj=>?_) _ (Ŷ a8 al n);exact p5 (λ_=>Tf a8 _ _ _ aj) λ_=>aj
end
noncomputable def u4(lt:iO)(n:Nat):List Nat:=if n<2 then gN n else(xW lt (Cm n)).toList
noncomputable def jF{α:Type}(d:α)(lt:iO)(xs:List α):List α:=(u4 lt xs.length).map λi=>xs.getD i d
theorem P0{lt:iO}{n i:Nat}(h:i∈u4 lt n):i<n:=by
 unfold u4 at h;split at h
 .exact rN.mp h
 .rename_i aj;exact f'.lt (OI (lt:=lt) (Cm n) (It (by omega))) (by simpa using h)
theorem XG(lt:iO)(n:Nat):(u4 lt n).Perm (gN n):=by
 unfold u4;split
 .exact List.Perm.refl _
 .exact f'.list (OI (lt:=lt) (Cm n) (It (by omega)))
theorem Η{α:Type}(d:α)(lt:iO)(xs:List α):(jF d lt xs).Perm xs:=by
 have e:xs=(gN xs.length).map λi=>xs.getD i d:=by
  apply IW
  .simp
  .intro i ai aj;simp[eb,ai]
 have p:=(XG lt xs.length).map λi=>xs.getD i d;rw[<-e]at p;exact p
theorem ÿ{α:Type}(d:α)(lt:iO)(xs:List α):(jF d lt xs).length=xs.length:=(Η d lt xs).length_eq
theorem Θ{lt:iO}(h:cX xs us):cX (jF .bJ lt xs) (jF .none lt us):=by
 unfold jF;rw[h.length];have:∀is:List Nat,(∀i∈is,i<xs.length)->cX (is.map λi=>xs.getD i .bJ) (is.map λi=>us.getD i .none):=λis=>by
  induction is with
  |nil=>intro _;exact .nil
  |cons i r a5=>
   intro hi;refine .cons ?_ (a5 λj bu=>hi j (.tail _ bu));have dw:i<xs.length:=hi i (.head _);have aF:xs[i]?=some xs[i]:=dW dw;obtain⟨u,aG,dF⟩:=h.get aF;show RelV (xs[i]?.getD .bJ) (us[i]?.getD .none);rw[aF,aG];exact dF
 exact this _ λi hi=>by rw[h.length];exact P0 hi
theorem ĝ{α:Type}(d:α)(lt:iO){xs:List α}(h:xs.length<2):jF d lt xs=xs:=by
 unfold jF u4;rw[bO h];apply IW
 .simp
 .intro i ai aj;simp[eb,aj]
noncomputable def x6(a:Addr)(h h':Heap):Prop:=∀b o,b≠a->h.get? b=some o->h'.get? b=some o
section
variable{prog:cA}{w:bU}{A:dn}{E:b6}{s:aO}{vs:dk}{κ:Jv}{lt:iO}
theorem ŷ{e:Nat}{R:PySem.Fin->aO->Prop}(aI:s.heap.get? a=some (m8 "list" vs.toArray e))(ue:vs.length<64)(aD:2<=vs.length->∀s1:aO,x6 a s.heap s1.heap->∀Q:Jv->aO->Prop,Q κ s1->aN (a_ prog w) A (keyKind' vs.toArray) Q (λ_ _=>False) s1)(au:2<=vs.length->∀s1:aO,x6 a s.heap s1.heap->∀i j C,i<vs.length->j<vs.length->C (lt i j) s1->kas_ask prog w A κ vs i j C s1)(h:∀h' c,x6 a s.heap h'->h'.get? a=some (m8 "list" (Es (jF eT lt vs)) c)->R (.done (.ret .none)) {s with heap:=h'}):
  aN (a_ prog w) A (Builtin.«list.sort» ⟨[.ref a],[]⟩) R E s:=by
 have emptied:=af3 aI λ_=>(#[]:ks)
 obtain⟨aF,Vo⟩:∃k,(s.heap.update a (yk λ_=>(#[]:ks))).get? a=some (m8 "list" #[] k):=⟨_,emptied⟩
 have eg:x6 a s.heap (s.heap.update a (yk λ_=>(#[]:ks))):=λb o ae q=>(Q4 _ _ _ _ ae).trans q;have big:∀k,k<64->k<=sizeLine:=λk aD=>by rw[uR];omega
 rw[list_sort_plain];refine aq (listItems_at aI rfl (aq (listUpdate_at aI rfl ?_ (by rw[gp];exact big _ ue) (ej _))));refine aq (seqEpoch_at Vo rfl (aq (XB ?_ (big _ ue))));refine aq (wpAny_newList (jH ?_) (ej _));dsimp only;generalize kB:((s.heap.update a (yk λ_=>(#[]:ks))).push (m8 "tuple" vs.toArray 0)).push (m8 "list" #[] 0)=ah;have LR:ah.get? a=some (m8 "list" #[] aF):=by rw[<-kB];exact c9 _ (c9 _ Vo)
 have gj:x6 a s.heap ah:=λb o ae q=>by rw[<-kB];exact c9 _ (c9 _ (eg b o ae q))
 have tail:∀(x:Unit×SortSt)(out:dk),(arrOf x.2).map (·.2)=out.toArray->failedOf x.2=none->out.length<64->out=jF eT lt vs->
   aN (a_ prog w) A (do
    let now <-seqEpoch a
    akB (.ref a) λ_=>(arrOf x.2).map (·.2)
    match failedOf x.2 with
    |some eB=>do
     rule "list.sort.comparison-raised"
     throw eB
     if(now !=aF)=true then do
      rule "list.sort.modified"
      aiH "ValueError" "list modified during sort"
      ret eT
     else ret eT
    |_=>
     if(now !=aF)=true then do
      rule "list.sort.modified"
      aiH "ValueError" "list modified during sort"
      ret eT
     else ret eT) R E {s with heap:=ah}:=λx out aG cR ahH oH=>by
  refine aq (seqEpoch_at LR rfl (aq (listUpdate_at LR rfl ?_ (ej _) ?_)))
  .rw[cR];dsimp only;rw[bz (by simp)];obtain⟨c,ar⟩:∃c,(ah.update a (yk λ_=>(arrOf x.2).map (·.2))).get? a=some (m8 "list" ((arrOf x.2).map (·.2)) c):=⟨_,af3 LR λ_=>(arrOf x.2).map (·.2)⟩
   refine ba (h _ c (λb o ae q=>(Q4 _ _ _ _ ae).trans (gj b o ae q)) ?_);rw[ar,aG,oH]
  .rw[aG,gp];have:=big _ ahH;omega
 by_cases aj:(vs.toArray.size<2)
 .rw[bO aj,bO aj];have BN:vs.length<2:=by rw[gp]at aj;exact aj
  refine aq (ba (aq (ba ?_)));refine tail ((),SortSt.mk' general' (vs.toArray.zip vs.toArray) #[] 7 none) vs ?_ rfl ue (ĝ _ _ BN).symm;show(vs.toArray.zip vs.toArray).map (·.2)=vs.toArray;apply DX.mp;simp only[Array.toList_map,Array.toList_zip];exact List.map_snd_zip (cL _)
 .rw[bz aj,bz aj];have BN:2<=vs.length:=by rw[gp]at aj;omega
  refine aq (hf (aD BN {s with heap:=ah} gj (λPt s'=>Pt=κ/\s'={s with heap:=ah}) ⟨rfl,rfl⟩) ?_ λ_ _ x=>x.elim);rintro Pt s' ⟨rfl,rfl⟩;refine aq (hf (kat_run (κ:=Pt) (Q:=λst s'=>s'={s with heap:=ah}/\(arrOf st).map (·.2)=Es (jF eT lt vs)/\failedOf st=none/\(jF eT lt vs).length=vs.length)
   (G:=λp s'=>s'={s with heap:=ah}/\p=xW lt (Cm vs.length)) rfl BN ue (λp st s' a1 a2 fN hn=>?_) (QV (λi j C hi bu eC=>au BN _ gj i j C hi bu eC) _ (It (by omega)) λ_=>⟨rfl,rfl⟩)) ?_ λ_ _ x=>x)
  .obtain⟨iP,fW⟩:=hn;have e:jF eT lt vs=p.toList.map λi=>vs.getD i eT:=by unfold jF u4;rw[bz (by omega),fW]
   refine⟨iP,?_,fN,?_⟩
   .rw[e];exact kat_snds rfl a2
   .rw[e,cj,PJ,a1]
  .rintro⟨⟨⟩,st⟩ s' ⟨rfl,fW,pA,rZ⟩;exact tail ((),st) _ fW pA (by omega) rfl
noncomputable def vu(h h':Heap):Prop:=∀b o,h.get? b=some o->h'.get? b=some o
theorem Ι{Q:b6}(au:s.heap.IsList l vs.toArray)(ue:vs.length<64)(aD:2<=vs.length->∀s1:aO,vu s.heap s1.heap->∀Q:Jv->aO->Prop,Q κ s1->aN (a_ prog w) A.in1.in1 (keyKind' vs.toArray) Q (λ_ _=>False) s1)(av:2<=vs.length->∀s1:aO,vu s.heap s1.heap->∀i j C,i<vs.length->j<vs.length->C (lt i j) s1->kas_ask prog w A.in1.in1 κ vs i j C s1)(h:∀D h' c,s.heap.objs.size<=D->vu s.heap h'->h'.get? D=some (m8 "list" (Es (jF eT lt vs)) c)->Q (.ref D) {s with heap:=h'}):
  aN (a_ prog w) A (call (.builtin "sorted") ([.ref l]:dk)) Q E s:=by
 have big:vs.length<=sizeLine:=by rw[uR];omega
 refine Calls.call_function_entry kind_sorted plain_sorted entry_sorted (args_sorted1 (.ref l)) ?_;unfold Builtin.«sorted»;refine aq (m:=checkCount "sorted" 1 1 _) (ba (aq (collect_list au ?_ big)));refine aq (wpAny_newList ?_ big);generalize sa:(s.heap.push (m8 "list" #[] 0)).update s.heap.objs.size (yk (·++vs.toArray))=G;have uc:G.objs.size=s.heap.objs.size+1:=by rw[<-sa,Heap.size_update,size_push']
 have eg:vu s.heap G:=λb o q=>by have ae:=eA (c' q);rw[<-sa,Q4 _ _ _ _ ae];exact c9 _ q
 show aN _ _ _ _ _ {s with heap:=G.push (m8 "list" vs.toArray 0)};have bF:(G.push (m8 "list" vs.toArray 0)).get? G.objs.size=some (m8 "list" vs.toArray 0):=eY _ rfl;have gj:vu s.heap (G.push (m8 "list" vs.toArray 0)):=λb o q=>c9 _ (eg b o q);have mi:∀h',x6 G.objs.size (G.push (m8 "list" vs.toArray 0)) h'->vu s.heap h':=λh' x b o q=>x b o (eA (by rw[uc];exact vN (c' q))) (gj b o q);refine aq (jH (m_ slot_list_sort ⟨_,bF,rfl⟩ entry_list_sort ?_ (args_list_sort _)));refine ŷ (s:={s with heap:=G.push (m8 "list" vs.toArray 0)}) (κ:=κ) (lt:=lt) bF ue (λaj s1 x=>aD aj s1 (mi _ x)) (λaj s1 x=>av aj s1 (mi _ x)) λh' c x ar=>?_;exact⟨_,rfl,ba ⟨_,rfl,h _ h' c (by rw[uc];exact A2 _) (mi _ x) ar⟩⟩
noncomputable def lexLt:List bb->List bb->Bool
 |.inl a::r,.inl b::q=>if a=b then lexLt r q else decide (a<b)
 |.inr a::r,.inr b::q=>if a=b then lexLt r q else decide (a.cps.toList<b.cps.toList)
 |_,_=>false
noncomputable def kH:List bb->List Bool:=List.map λk=>match k with
 |.inl _=>true
 |.inr _=>false
theorem Ğ(a b:Int):i2 (.int a) (.int b)=decide (a=b):=by
 by_cases h:a=b
 .subst h;rw[b4 rfl];simp[i2]
 .rw[cM h];simp[i2,h]
theorem Hm(x y:Str):i2 (.str x) (.str y)=decide (x=y):=by
 by_cases h:x=y
 .subst h;rw[b4 rfl];simp[i2]
 .rw[cM h];simp[i2,h]
end
section
variable{prog:cA}{w:bU}{A:dn}{E:b6}{s:aO}
theorem ww{Q:Bool->aO->Prop}:∀(d e:List bb)(us ws:dk)(i:Nat),cX (d.map c0) us->cX (e.map c0) ws->kH d=kH e->Q (lexLt d e) s->KatLex prog w A true false Q (us.zip ws) i s
 |[],e,us,ws,i,v1,v2,hs,h=>by
  cases v1;have dm:e=[]:=by
   cases e with
   |nil=>rfl
   |cons _ _=>cases hs
  subst dm;exact kat_nil h
 |.inl a::r,[],_,_,_,_,_,hs,_=>by cases hs
 |.inr a::r,[],_,_,_,_,_,hs,_=>by cases hs
 |.inl a::r,.inr b::q,_,_,_,_,_,hs,_=>by simp[kH]at hs
 |.inr a::r,.inl b::q,_,_,_,_,_,hs,_=>by simp[kH]at hs
 |.inl a::r,.inl b::q,_,_,i,.cons cq t1,.cons dV fh,hs,h=>by
  obtain⟨t,rfl⟩:=cq;obtain⟨u,rfl⟩:=dV;have ft:kH r=kH q:=by simpa[kH]using hs
  unfold lexLt at h;refine kat_cons (keq_flat (d:=.int a) (e:=.int b) (λ_=>.int a t) (λ_=>.int b u) prog w _ _ ?_);rw[Ğ];by_cases e:a=b
  .rw[bO e]at h;rw[b4 e];exact kat_yes (ww r q _ _ _ t1 fh ft h)
  .rw[bz e]at h;rw[cM e];refine kat_no ?_;cases i with
   |zero=>exact oneLt_int h
   |succ i=>exact kat_one _ _ (lt_int h)
 |.inr a::r,.inr b::q,_,_,i,.cons cq t1,.cons dV fh,hs,h=>by
  obtain⟨t,rfl⟩:=cq;obtain⟨u,rfl⟩:=dV;have ft:kH r=kH q:=by simpa[kH]using hs
  unfold lexLt at h;refine kat_cons (keq_flat (d:=.str a) (e:=.str b) (λ_=>.str a t) (λ_=>.str b u) prog w _ _ ?_);rw[Hm];by_cases e:a=b
  .rw[bO e]at h;rw[b4 e];exact kat_yes (ww r q _ _ _ t1 fh ft h)
  .rw[bz e]at h;rw[cM e];refine kat_no ?_;cases i with
   |zero=>exact oneLt_str h
   |succ i=>exact kat_one _ _ (lt_str h)
noncomputable def sE(ds:List (List bb))(i j:Nat):Bool:=lexLt (ds.getD i []) (ds.getD j [])
theorem CE:∀{cd:c7}{us:dk},cX (cd.map V.ref) us->us=cd.map cg
 |[],_,.nil=>rfl
 |t::cd,_,.cons r q=>by cases r;rw[CE q];rfl
noncomputable def VG:bb->Bool
 |.inl _=>true
 |.inr _=>false
noncomputable def W'(b:Bool):Value:=if b=true then .type "int" else .type "str"
end
theorem Sd{H:af}(ok:fj P w H h)(x:vu h ai){b:Bool}:∀{cd:c7}{ds:List (List bb)},fH (λr d=>H r=some (.tup (d.map c0))) cd ds->(∀d∈ds,∃r,kH d=b::r)->
  ∃fs,KatTups ai (cd.map cg) fs/\fs.length=cd.length/\∀v∈fs,∃k:bb,VG k=b/\RelV (c0 k) v
 |[],[],_,_=>⟨[],KatTups.nil,rfl,λ_ h=>bk h di⟩
 |t::cd,d::ds,.cons r q,hd=>by
  obtain⟨fs,k1,k2,k3⟩:=Sd ok x q λd' h'=>hd d' (.tail _ h');obtain⟨rq,hs⟩:=hd d (.head _);obtain⟨_,its,cc,o,aI,ar,n,iU⟩:=ok t _ r;cases d with
  |nil=>cases hs
  |cons k d=>
   cases cc with
   |cons uN lB=>
    rename_i f fr;refine⟨f::fs,KatTups.cons (x _ _ aI) ar iU (by simp) k1,by simp[k2],λv a7=>?_⟩;rcases dX.mp a7 with rfl|ahm
    .refine⟨k,?_,uN⟩;have:kH (k::d)=VG k::kH d:=by cases k<;>rfl
     rw[this]at hs;exact(à hs).1
    .exact k3 v ahm
 |[],d::ds,h,_=>nomatch h
 |t::cd,[],h,_=>nomatch h
section
variable{X:bx}
theorem Κ:h0 "sorted"=some (.builtin "sorted"):=by decide+kernel
theorem aks:jc X (.builtin "sorted") (λxs H Q=>∃(p:Addr)(cd:c7)(ds:List (List bb))(b:Bool)(kf:List Bool),xs=[.ref p]/\aJ X.K H p (cd.map V.ref)/\fH (λr d=>H r=some (.tup (d.map c0))) cd ds/\cd.length<64/\(∀d∈ds,kH d=b::kf)/\
  ∀l,H l=none->Q (.ref l) (upd H l (.lst (jF .bJ (sE ds) (cd.map V.ref))))):=by
 intro pins s σ H xs us Q I r h;obtain⟨p,cd,ds,b,kf,rfl,bo,dv,ue,wK,q⟩:=h;obtain⟨u,rfl,dF⟩:=vals1 r;cases dF;obtain⟨its,cc,pl,hz⟩:=I.list bo;have hlen:=cc.length;rw[cj]at hlen;obtain rfl:=CE cc;have amI:cd.length=ds.length:=tv dv;have at_:∀i,i<cd.length->∃d its,(cd.map cg).getD i eT=.ref cd[i]!/\ds.getD i []=d/\kH d=b::kf/\cX (d.map c0) its/\tn s.heap cd[i]! its.toArray:=λi hi=>by
  have aF:cd[i]?=some cd[i]:=dW hi;have aG:ds[i]?=some ds[i]:=dW (by omega);have cR:cd[i]! =cd[i]:=by simp[hi]
  have ay:H cd[i]=some (.tup (ds[i].map c0)):=by
   have:∀{l:c7}{m:List (List bb)}{k:Nat}{x:Addr}{y:List bb},fH (λr d=>H r=some (.tup (d.map c0))) l m->l[k]?=some x->m[k]?=some y->H x=some (.tup (y.map c0)):=λ{l m k x y}P=>by
    induction P generalizing k with
    |nil=>intro h;simp at h
    |cons a t a5=>
     cases k with
     |zero=>intro ai aj;simp at ai aj;subst ai;subst aj;exact a
     |succ k=>intro ai aj;simp at ai aj;exact a5 ai aj
   exact this dv aF aG
  obtain⟨_,its,v1,t1⟩:=I.bj _ _ ay;refine⟨ds[i],its,?_,?_,wK _ (qy _),v1,?_⟩
  .rw[eb,d0,aF,cR];rfl
  .rw[eb,aG];rfl
  .rw[cR];exact t1
 refine Ι (κ:=tuples' true) (lt:=sE ds) pl.isList (by rw[cj];exact ue) (λaj s1 x tD et=>?_) (λaj s1 x i j C hi bu eC=>?_) λD h' c hle x ar=>?_
 .obtain⟨fs,k1,k2,k3⟩:=Sd I.bj x dv λd hd=>⟨kf,wK d hd⟩
  rw[cj]at aj;refine kat_kind (T:=W' b) k1 (by omega) (λv a7=>?_) (by cases b<;>decide+kernel) ?_
  .obtain⟨k,e6,uN⟩:=k3 v a7;subst e6;cases k with
   |inl i=>obtain⟨t,rfl⟩:=uN;exact Looks.of_pure rfl
   |inr i=>obtain⟨t,rfl⟩:=uN;exact Looks.of_pure rfl
  .have e:(W' b !=tH "tuple")=true:=by cases b<;>decide+kernel
   rw[e];exact et
 .rw[cj]at hi bu;obtain⟨d,its,a1,a2,fN,hn,o,aI,_,n,iU⟩:=at_ i hi;obtain⟨d',its',iP,fW,pA,rZ,cD,i_,_,ew,agv⟩:=at_ j bu;unfold kas_ask;rw[a1,iP];have dr:=hn.length;have eu:=rZ.length;rw[cj]at dr eu;have kK:d.length=d'.length:=by have e:=ek tq (fN.trans pA.symm);simpa[kH]using e
  refine kat_lt (b:=true) (x _ _ aI) iU (x _ _ i_) agv ?_;rw[cM (by rw[gp,gp];omega)];refine ww d d' its its' 0 hn rZ (fN.trans pA.symm) ?_;have:sE ds i j=lexLt d d':=by unfold sE;rw[a2,fW]
  rw[<-this];exact eC
 .refine⟨.ref D,_,I.laid (a:=D) (o:=.lst (jF .bJ (sE ds) (cd.map V.ref))) (t':=s.toks) (λb o q=>x b o q) hle ?_,rfl,q D (I.bj.fresh hle)⟩;refine⟨?_,_,c,Θ cc,ar⟩;rw[ÿ,cj,uR];omega
noncomputable def vn(h:Heap)(d:Addr)(es:Array pe)(ep:Nat):Prop:=∃o,h.get? d=some o/\o.ExactDict/\o.data=.dict es ep
end
section
variable{prog:cA}{w:bU}{A:dn}{E:b6}{s:aO}{it d:Addr}{i ep:Nat}{es:Array pe}{ok fT:Value}
theorem Ÿ{Q:Option Value->aO->Prop}(hit:vF s.heap it d i es.size ep ok fT)(hd:vn s.heap d es ep)(hi:i<es.size)(et:∀h',Q8 h' it d (i+1) es.size ep es[i].key es[i].val s.heap.objs.size->h'.get? s.heap.objs.size=some {cls:=.type "tuple",data:=.seq #[es[i].key,es[i].val]}->
   (∀b o,b≠it->s.heap.get? b=some o->h'.get? b=some o)->Q (some (.ref s.heap.objs.size)) {s with heap:=h'}):aN (a_ prog w) A (gT (.ref it)) Q E s:=by
 obtain⟨G,BM,By,aH,os⟩:=s;obtain⟨o,aI,_,iU⟩:=hd;have T0:S0 ⟨G,BM,By,aH,os⟩ (.ref it) "dict_itemiterator":=⟨_,hit,rfl⟩
 have uD:¬((cg d==eT)=true):=ei;have own:D0 "dict_itemiterator"=true:=by decide
 have lit:it<G.objs.size:=c' hit;unfold gT;refine aq (xI (xJ (name:=bK "__next__") T0 F.slot_dict_itemiterator_next (m_ F.slot_dict_itemiterator_next T0 F.entry_dict_itemiterator_next ?_ (F.args_dict_itemiterator_next_1 _))));refine aq (ba (aq (aq ?_)))
 first
 |refine aq (O1 T0 (ba (aq (xK hit rfl ?_))))
 |refine aq (O3 T0 (ba (aq (xK hit rfl ?_))))
 simp only[own,if_true];change aN _ _ (ite ((cg d==eT)=true) _ _) _ _ _;rw[bz uD];refine aq (ba (aq (u7 aI iU ?_)));rw[bz (by simp)];refine aq (ba (aq (DJ aI iU ?_)));rw[bz (by simp)];refine ba ?_;simp only[show¬((i:Int)<0)from by omega,if_false,qw,Yq hi];refine aq ?_
 first
 |refine aq (O1 T0 (ba (aq (OY T0 ?_))))
 |refine aq (O3 T0 (ba (aq (OY T0 ?_))))
 show aN _ _ (zW (.ref it) 3 (jg ((i:Int)+1)) >>=_) _ _ ⟨G,BM,By,aH,os⟩;refine aq (sW hit (by simp) λqt aF gh=>?_);have gh:iK it G qt:=gh;have aF:vF qt it d (i+1) es.size ep ok fT:=by
  have z:((i+1:Nat):Int)=(i:Int)+1:=by omega
  unfold vF;rw[z];simpa[jg]using aF
 have oz:S0 ⟨qt,BM,By,aH,os⟩ (.ref it) "dict_itemiterator":=⟨_,aF,rfl⟩
 refine aq (jH (aq (OY oz (aq (OY oz ?_)))));show aN _ _ (YI (.ref it) 6 es[i].key es[i].val) _ _ ⟨qt,BM,By,aH,os⟩;simp only[YI];refine aq (XB ?_);have aT:qt.objs.size=G.objs.size:=gh.1;have aG:vF (qt.push {cls:=.type "tuple",data:=.seq #[es[i].key,es[i].val]}) it d (i+1) es.size ep ok fT:=c9 _ aF;have fh:(qt.push {cls:=.type "tuple",data:=.seq #[es[i].key,es[i].val]}).get? G.objs.size=some {cls:=.type "tuple",data:=.seq #[es[i].key,es[i].val]}:=by rw[<-aT];exact eY _ rfl
 have k2:∀b u,b≠it->G.get? b=some u->(qt.push {cls:=.type "tuple",data:=.seq #[es[i].key,es[i].val]}).get? b=some u:=λb u ae q=>c9 _ (gh.extBut b u ae q);show aN _ _ (YH (.ref it) >>=_) _ _ ⟨qt.push {cls:=.type "tuple",data:=.seq #[es[i].key,es[i].val]},BM,By,aH,os⟩;rw[aT];generalize qt.push {cls:=.type "tuple",data:=.seq #[es[i].key,es[i].val]}=Av at aG fh k2⊢;refine aq ?_;unfold YH;refine aq (mf aG rfl (x:=.none) rfl (ba ?_));simp only[if_true];refine aq (mf aG rfl (x:=ok) rfl (aq (mf aG rfl (x:=fT) rfl ?_)));refine aq (sW aG (by simp) λIz cR Gd=>?_);have Gd:iK it Av Iz:=Gd;have cR:vF Iz it d (i+1) es.size ep es[i].key fT:=cR;refine aq (sW cR (by simp) λIA hV Ge=>?_);have Ge:iK it Iz IA:=Ge;have hV:vF IA it d (i+1) es.size ep es[i].key es[i].val:=hV;refine aq (sW hV (by simp) λIB mR Gf=>?_);have Gf:iK it IA IB:=Gf;have mR:Q8 IB it d (i+1) es.size ep es[i].key es[i].val G.objs.size:=mR;refine aq (sW mR (by simp) λD' tW MK=>?_);have MK:iK it IB D':=MK;have tW:Q8 D' it d (i+1) es.size ep es[i].key es[i].val G.objs.size:=tW;have all:∀b u,b≠it->Av.get? b=some u->D'.get? b=some u:=λb u ae q=>MK.extBut b u ae (Gf.extBut b u ae (Ge.extBut b u ae (Gd.extBut b u ae q)));exact aq (jI (ba (ba ⟨_,rfl,ba (et D' tW (all _ _ (tu lit) fh) λb u ae q=>all b u ae (k2 b u ae q))⟩)))
theorem Ź{Q:Option Value->aO->Prop}(dh:A.handled=none)(hit:vF s.heap it d i es.size ep ok fT)(hd:vn s.heap d es ep)(hi:es.size<=i)(et:∀h',ID it s.heap h'->Q none {s with heap:=h'}):
  aN (a_ prog w) A (gT (.ref it)) Q E s:=by
 obtain⟨o,aI,_,iU⟩:=hd;have T0:s.TypeIs (.ref it) "dict_itemiterator":=⟨_,hit,rfl⟩
 have uD:¬((cg d==eT)=true):=ei;have own:D0 "dict_itemiterator"=true:=by decide
 unfold gT;refine aq (xI (xJ (name:=bK "__next__") T0 F.slot_dict_itemiterator_next (m_ F.slot_dict_itemiterator_next T0 F.entry_dict_itemiterator_next ?_ (F.args_dict_itemiterator_next_1 _))));refine aq (ba (aq (aq ?_)))
 first
 |refine aq (O1 T0 (ba (aq (xK hit rfl ?_))))
 |refine aq (O3 T0 (ba (aq (xK hit rfl ?_))))
 simp only[own,if_true];change aN _ _ (ite ((cg d==eT)=true) _ _) _ _ _;rw[bz uD];refine aq (ba (aq (u7 aI iU ?_)));rw[bz (by simp)];refine aq (ba (aq (DJ aI iU ?_)));rw[bz (by simp)];refine ba ?_;simp only[show¬((i:Int)<0)from by omega,if_false,qw,Yr hi];refine aq ?_
 first
 |refine aq (O1 T0 (ba ?_))
 |refine aq (O3 T0 (ba ?_))
 change aN _ _ (zW (.ref it) 2 eT >>=_) _ _ s;refine aq (HJ hit rfl (by simp) ?_);change aN _ _ (CI (.type "StopIteration") [] >>=_) _ _ _;refine aq ?_;simp only[CI,newTuple];refine aq (og ?_ (by size_fits));refine aq (m:=BJ _ _) (oh (a:=eT) (by first|rfl|(simp only[BJ];rfl)) (og ?_ (by size_fits)));have i9:A.in1.handled=none:=dh;simp only[raiseNew];refine aq (Xy ?_);rw[i9];refine aq (ba (XF ?_));refine aq (Xz (b:=true) (T:="StopIteration") ⟨_,eY _ rfl,rfl⟩ VI ?_);exact ba (et _ (IE (IE (ZI (tk ..)) _) _))
theorem ğ{Q:b6}(a7:s.heap.IsItemsView v d)(hd:vn s.heap d es ep)(et:Q (.ref s.heap.objs.size) {s with heap:=s.heap.push {cls:=.type "dict_itemiterator",data:=.fields #[.none,.bool false,.ref d,.int 0 0,.int es.size 0,.int ep 0,.none,.none]}}):aN (a_ prog w) A (C5 (.ref v)) Q E s:=by
 obtain⟨iZ,ai,_,fJ⟩:=id a7;obtain⟨o,aI,_,iU⟩:=hd;have uD:¬((cg d==eT)=true):=ei;have own:D0 "dict_itemiterator"=true:=by decide
 have oz:=a7.typeIs;refine XE oz F.slot_dict_items_iter (m_ F.slot_dict_items_iter oz F.entry_dict_items_iter ?_ (F.args_dict_items_iter_1 _));unfold Builtin.«dict_items.__iter__» aky;refine aq (ba (aq ?_));refine aq (mf ai fJ (x:=.ref d) rfl (ba (aq ?_)));unfold akz;refine aq (u7 aI iU (aq (DJ aI iU ?_)));simp only[own,if_true];refine og ?_ (by simp only[uR,sizeOk,YG,eS,gp,fV,x_];omega);refine ba ⟨_,rfl,"dict_itemiterator",_,⟨_,eY _ rfl,rfl⟩,F.slot_dict_itemiterator_next.lookup,?_⟩;simpa[jg,YG]using et
theorem Zf{Q:b6}(hs:(d==kg)=false)(hd:vn s.heap d es ep)(et:Q (.ref s.heap.objs.size) {s with heap:=s.heap.push {cls:=.type "dict_items",data:=.fields #[.ref d]}}):
  aN (a_ prog w) A (call (.builtin "dict.items") ([.ref d]:dk)) Q E s:=by
 obtain⟨o,aI,ax,iU⟩:=hd;have T0:s.TypeIs (.ref d) "dict":=⟨o,aI,ax.1⟩
 refine m_ F.slot_dict_items T0 F.entry_dict_items ?_ (F.args_dict_items_1 _);unfold Builtin.«dict.items»;refine aq ?_;unfold YE;refine aq (O0 T0 ?_);show aN _ _ (pure d) _ _ s;refine ba ?_;change aN _ _ (H9 d >>=_) _ _ s;unfold H9;rw[bz (by rw[hs];exact ei)];exact aq (ba (aq (og (ba ⟨_,rfl,et⟩))))
end
section
variable{X:bx}{pins:dD}{σ:ao.St}{H:af}{s:aO}{a:Addr}{u u':hN}
theorem H3(I:Inv X pins σ H s)(av:H a=some u)(cn:∀xs,u≠.tup xs)(cC:∀y,u≠.own y)(new:er X.prog X.w (upd H a u') s.heap a u')(f1:∀xs,X.mw a≠some (.tup xs))(f2:∀o v,X.mw a≠some (.ed o v))(cS:∀ps,X.mw a≠some (.qb ps)):Inv X pins σ (upd H a u') s:=by
 have other:∀{b:Addr},H b=none->upd H a u' b=none:=λ{b}e=>by rw[aV (λz=>by rw[z,av]at e;cases e)];exact e
 refine⟨I.ok,I.os,I.bare,⟨I.base.keep,I.base.slot,λb o e n ax=>other (I.base.free b o e n ax),I.base.there,λb xs e=>?_,λb o v e=>?_,λb ps e=>?_⟩,I.loc,I.cell,other I.free,λx c e=>other (I.mT x c e),λp ay=>?_,λb o e=>?_,I.len⟩
 .rw[aV (λz=>by rw[z]at e;exact f1 xs e)];exact I.base.fi b xs e
 .rw[aV (λz=>by rw[z]at e;exact f2 o v e)];exact I.base.iT b o v e
 .rw[aV (λz=>by rw[z]at e;exact cS ps e)];exact I.base.ji b ps e
 .obtain⟨ai,aj,bC,c5,fq⟩:=I.pin p ay;exact⟨ai,other aj,bC,c5,fq⟩
 .by_cases ae:b=a
  .subst ae;rw[aE]at e;cases e;exact new
  .rw[aV ae]at e;refine(I.bj b o e).md (λc v _ q=>q) (λc q=>?_) λc xs q=>?_
   .rw[aV (λz=>by rw[z,av]at q;exact cC _ (fG q))];exact q
   .rw[aV (λz=>by rw[z,av]at q;exact cn _ (fG q))];exact q
inductive ai7(te:TE)(σ:ao.St)(H:af)(Q:a4):Prop where
 |mk (a:_) (kvs:_) (aT:H a=some (.bV kvs)) (aP:∀o,te σ (upd H a (.ed o (.bV kvs))) λv H'=>H' a=some (.ed o (.bV kvs))/\Q v (upd H' a (.bV kvs)))
theorem acY(he:bl X e te):bl X e (ai7 te):=by
 intro pins s σ H Q I h;obtain⟨a,kvs,av,h⟩:=h;have f1:∀xs,X.mw a≠some (.tup xs):=λxs z=>by have:=I.base.fi a xs z;rw[av]at this;cases this
 have f2:∀o v,X.mw a≠some (.ed o v):=λo v z=>by have:=I.base.iT a o v z;rw[av]at this;cases this
 have cS:∀ps,X.mw a≠some (.qb ps):=λps z=>by obtain⟨m,e⟩:=I.base.ji a ps z;rw[av]at e;cases e
 obtain⟨z,y,xs,r,o,es,ep,e,c⟩:=I.bj a _ av;have uE:∀{H':af}{b:Addr}{ys:aR},H b=some (.tup ys)->upd H a (.ed o (.bV kvs)) b=some (.tup ys):=λ{H' b ys}q=>by rw[aV (λw=>by rw[w,av]at q;cases q)];exact q
 have aL:Inv X pins σ (upd H a (.ed o (.bV kvs))) s:=H3 I av (by intro _ w;cases w) (by intro _ w;cases w) ⟨e,z,y,xs,fH.oW r λp q w=>⟨w.1,uE (H':=H) w.2.1,w.2.2⟩,o,es,ep,e,c⟩ f1 f2 cS;refine bA (he pins s σ _ _ aL (h o)) λv s1 hz=>?_;obtain⟨x,H1,br,cc,j',bw⟩:=hz;obtain⟨aF,aT,Ad,aj7,cq,iZ,Kx,Kw,aG,k9⟩:=br.bj a _ j';refine⟨x,upd H1 a (.bV kvs),H3 br (u':=.bV kvs) j' (by intro _ w;cases w) (by intro _ w;cases w) ⟨aT,Ad,aj7,fH.oW cq λp q w=>⟨w.1,?_,w.2.2⟩,iZ,Kx,Kw,aG,k9⟩ f1 f2 cS,cc,bw⟩;have jj:=w.2.1;rw[aV (λt=>by rw[t,j']at jj;cases jj)];exact jj
end
noncomputable def IH(a:Addr)(o:Obj)(kvs:List (List bb×V)):gm:=
 ⟨λi H=>H a=some (.ed o (.bV kvs))/\i<kvs.length,λi H v H'=>∃p b k x,H p=none/\v=.ref p/\kvs[i]?=some (k,x)/\H b=some (.tup (k.map c0))/\H'=upd H p (.tup [.ref b,x]),λi H=>H a=some (.ed o (.bV kvs))/\kvs.length<=i⟩
theorem Pq{H:af}{h:Heap}{o:Obj}{kvs:List (List bb×V)}(ok:fj P w H h)(av:H a=some (.ed o (.bV kvs))):h.get? a=some o/\(a==kg)=false/\o.ExactDict/\∃es ep,o.data=.dict es ep/\es.size=kvs.length/\
  ∀(i:Nat)(k:List bb)(x:V),kvs[i]?=some (k,x)->∃b v,(∃hi:i<es.size,es[i].key=.ref b/\es[i].val=v)/\H b=some (.tup (k.map c0))/\RelV x v:=by
 obtain⟨dm,_,y,xs,r,cD,es,ep,aF,ax,hd,he,_⟩:=ok a _ av;rw[dm]at aF;cases aF;have dr:kvs.length=xs.length:=tv r;have eu:es.size=xs.length:=by have:=ek tq he;simpa using this
 refine⟨dm,y,ax,es,ep,hd,by omega,λi k x hi=>?_⟩;have lt:i<kvs.length:=(gn.mp hi).1;have pick:∀{l:List (List bb×V)}{m:List (List bb×Addr×Value)}{j:Nat}{p:List bb×V},fH (λ(p:List bb×V)(q:List bb×Addr×Value)=>p.1=q.1/\H q.2.1=some (.tup (p.1.map c0))/\RelV p.2 q.2.2) l m->l[j]?=some p->∃q,m[j]?=some q/\p.1=q.1/\H q.2.1=some (.tup (p.1.map c0))/\RelV p.2 q.2.2:=λ{l m j p}R=>by
  induction R generalizing j with
  |nil=>intro h;simp at h
  |cons a t a5=>
   cases j with
   |zero=>intro h;simp at h;subst h;exact⟨_,rfl,a⟩
   |succ j=>intro h;simp at h;simpa using a5 h
 obtain⟨q,bo,_,aj,bC⟩:=pick r hi;have y3:i<es.size:=by omega
 have cR:es[i]=BC (sT (h1 P w)) q:=by
  have hV:es.toList[i]?=some (BC (sT (h1 P w)) q):=by rw[he,d0,bo];rfl
  have mR:es.toList[i]?=some es[i]:=by simp[y3]
  rw[mR]at hV;exact fG hV
 exact⟨q.2.1,q.2.2,⟨y3,by rw[cR];rfl,by rw[cR];rfl⟩,aj,bC⟩
theorem Zg{K:aQ}{k:Nat}{o:Obj}{kvs:List (List bb×V)}{es:Array pe}{ep:Nat}(a it:Addr)(hd:o.data=.dict es ep):
  Turn P w K (.Tuple elts k pos) (IH a o kvs) [it] it (λi h=>∃x y,vF h it a i es.size ep x y)where
 mem:=by simp
 obj:=λi h st b ae=>by
  obtain⟨x,y,he⟩:=st;have q:b=it:=by simpa using ae
  subst q;exact⟨_,he,λv z=>by
   have cZ:D3 _=xR v:=z;cases cZ⟩
 keep:=λi h h' st bG=>by obtain⟨x,y,he⟩:=st;exact⟨x,y,bG it (by simp) _ he⟩
 item:=by
  intro X eV hw eP ar i pins s σ H E I bE st bp;subst eV hw eP;obtain⟨x0,aj8,he⟩:=st;obtain⟨av,hi⟩:=bp;obtain⟨go,_,lX,qP,mS,j7,uc,ge⟩:=Pq I.bj av;rw[hd]at j7;cases j7;obtain⟨l2,wg⟩:∃q,kvs[i]?=some q:=⟨_,dW hi⟩
  obtain⟨b,v,⟨y3,e6,ev⟩,ae,cc⟩:=ge i l2.1 l2.2 wg;obtain⟨f0,f1,f2,cS,f4,d7⟩:=bE it (by simp);refine Ÿ he ⟨o,go,lX,hd⟩ y3 λai aI hH aD=>⟨_,rfl,?_⟩
  refine wpAny_letOwnedTupleGo_items aI λaj Lx h4=>?_;have h4:iK it ai aj:=h4;rw[e6,ev]at hH;have aX:H s.heap.objs.size=none:=I.fresh;have lit:it<s.heap.objs.size:=c' he;have kM:∀c u,c∉[it]->s.heap.get? c=some u->aj.get? c=some u:=λc u j_ q=>by have BZ:c≠it:=λz=>j_ (by simp[z]);exact(h4.2 c BZ).trans (aD c u BZ q)
  have BX:aj.get? s.heap.objs.size=some {cls:=.type "tuple",data:=.seq #[.ref b,v]}:=(h4.2 _ (tu lit)).trans hH;have m5:∀c q,H c=some q->c∉[it]:=λc q j_ z=>by
   have cZ:c=it:=by simpa using z
   subst cZ;rw[f0]at j_;cases j_
  refine⟨.ref s.heap.objs.size,upd H s.heap.objs.size (.tup [.ref b,l2.2]),?_,rfl,⟨s.heap.objs.size,b,l2.1,l2.2,aX,rfl,wg,ae,rfl⟩,⟨_,_,Lx⟩,λc j_=>?_⟩
  .show Inv X pins σ (upd H s.heap.objs.size (.tup [.ref b,l2.2])) {s with heap:=aj,gens:=s.gens,drawn:=s.drawn,toks:=s.toks};refine I.step (g':=s.gens) (d':=s.drawn) (t':=s.toks) (h':=aj) (ch:=[it]) (λc j_=>?_) (λc u _ _ j_ q _=>kM c u j_ q) (λc u _ _ j_ q _=>⟨u.slots,kM c u j_ q⟩) (λc u j_ q n=>?_)
    (λc u j_ q=>⟨u,kM c u j_ q⟩) (λc ys q=>?_) (λc u v q=>?_) (λc ps q=>⟨#[],?_⟩) (λm hm=>?_) (λc u q=>?_) I.bare
   .have cZ:c=it:=by simpa using j_
    subst cZ;exact⟨cS,f1,f4,d7⟩
   .rw[aV (eA (c' q))];exact n
   .rw[aV (cI q aX)];exact q
   .rw[aV (cI q aX)];exact q
   .rw[aV (cI q aX),q];simp
   .obtain⟨u,afF,afD,bL,r⟩:=hm;refine⟨u,afF,afD,kM _ u (λz=>?_) bL,r⟩;exact f1 (by simpa using z:X.env.locals=it).symm
   .by_cases U':c=s.heap.objs.size
    .subst U';rw[aE]at q;cases q;exact⟨(by show 2<=sizeLine;decide),[.ref b,v],.cons rfl (.cons cc .nil),_,BX,rfl,_,rfl⟩
    .rw[aV U']at q;refine(I.bj c u q).md (λgY y Lp z=>kM gY y ?_ z) (λgY z=>by rw[aV (cI z aX)];exact z) λgY ys z=>by rw[aV (cI z aX)];exact z
     rcases Lp with rfl|Lp
     .exact m5 _ _ q
     .exact m5 _ _ Lp
  .have cZ:c=it:=by simpa using j_
   subst cZ;rw[aV (eA lit)];exact f0
 done:=by intro X eV hw eP ar i pins s σ H E I bE st bp;subst eV hw eP;obtain⟨x0,aj8,he⟩:=st;obtain⟨av,hi⟩:=bp;obtain⟨go,_,lX,qP,mS,j7,uc,ge⟩:=Pq I.bj av;rw[hd]at j7;cases j7;obtain⟨f0,f1,f2,cS,f4,d7⟩:=bE it (by simp);exact Ź (I.ok.hd ar) he ⟨o,go,lX,hd⟩ (by omega) λh' dq=>⟨rfl,I.turned (t':=s.toks) (λb o ae e=>dq b o ae e) f0 f1 cS f4 d7⟩
 self:=λ_ _ _ _ _ st h=>by obtain⟨x,y,he⟩:=st;exact PySem.W.kcp_self he h
section
variable{X:bx}{elts:hB}{k:Nat}{xu:Pos}
noncomputable def abw(c1:TE):el:=λσ H R=>c1 σ H λx H1=>∃a o kvs,x=.ref a/\H1 a=some (.ed o (.bV kvs))/\R (IH a o kvs) H1
theorem Ġ{fb e5:Pos}(aI:bl X o c1)(BY:yD o "items" X.env (eval o X.env)=eval o X.env:=by rfl)(B4:(fb.endLine==e5.line)=true:=by rfl):
  mE X (.Tuple elts k xu) (.Call (.Attribute o "items" fb) [] [] e5) (abw c1):=by
 intro pins s σ H R I h;refine ajM BY B4 (bA (aI pins s σ H _ I h) λv s1 hz=>?_);obtain⟨x,H1,aL,cq,a,ob,kvs,ex,av,bw⟩:=hz;subst ex;cases cq;obtain⟨go,La,lX,es,ep,j7,uc,ge⟩:=Pq aL.bj av;refine⟨"dict","dict.items",ED,PySem.F.slot_dict_items,PySem.F.type_dict_items,⟨ob,go,lX.1⟩,λb e=>?_,Aq rfl (ų ?_)⟩
 .cases e;exact⟨ob,go,lX.2.1⟩
 .refine Zf La ⟨ob,go,lX,j7⟩ ?_;have k1:∀b o,s1.heap.get? b=some o->(s1.heap.push {cls:=.type "dict_items",data:=.fields #[.ref a]}).get? b=some o:=λb o e=>c9 _ e;refine ğ (d:=a) (es:=es) (ep:=ep) ⟨_,eY _ rfl,rfl,rfl⟩ ⟨ob,k1 _ _ go,lX,j7⟩ ?_;have br:Inv X pins σ H1 {s1 with heap:=s1.heap.push {cls:=.type "dict_items",data:=.fields #[.ref a]}}:=aL.kept (t':=s1.toks) k1;refine⟨(s1.heap.push {cls:=.type "dict_items",data:=.fields #[.ref a]}).objs.size,[(s1.heap.push {cls:=.type "dict_items",data:=.fields #[.ref a]}).objs.size],_,_,H1,rfl,br.kept (t':=s1.toks) λb o e=>c9 _ e,Zg a _ j7,⟨.none,.none,eY _ rfl⟩,λb ae=>?_,bw⟩;have z:b=(s1.heap.push {cls:=.type "dict_items",data:=.fields #[.ref a]}).objs.size:=by simpa using ae
  subst z;exact br.pN (cL _) (br.bj.fresh (cL _))
end
section
variable{prog:cA}{w:bU}{A:dn}{E:b6}{s:aO}{it d:Addr}{i ep:Nat}{es:Array pe}
theorem abx{Q:Option Value->aO->Prop}(hit:s.heap.IsKeyIter it d i es.size ep)(hd:vn s.heap d es ep)(hi:i<es.size)(et:∀h',h'.IsKeyIter it d (i+1) es.size ep->iK it s.heap h'->Q (some es[i].key) {s with heap:=h'}):aN (a_ prog w) A (gT (.ref it)) Q E s:=by
 obtain⟨CV,uk,BZ,sd⟩:=id hit;obtain⟨o,aI,_,iU⟩:=hd;have T0:=hit.typeIs;have uD:¬((cg d==eT)=true):=ei;have own:D0 "dict_keyiterator"=false:=by decide
 unfold gT;refine aq (xI (xJ (name:=bK "__next__") T0 F.slot_dict_keyiterator_next (m_ F.slot_dict_keyiterator_next T0 F.entry_dict_keyiterator_next ?_ (F.args_dict_keyiterator_next_1 _))));refine aq (ba (aq (aq ?_)))
 first
 |refine aq (O2 T0 (ba (aq (xK uk sd ?_))))
 |refine aq (O4 T0 (ba (aq (xK uk sd ?_))))
 simp only[own,rF,if_false];change aN _ _ (ite ((cg d==eT)=true) _ _) _ _ s;rw[bz uD];refine aq (ba (aq (u7 aI iU ?_)));rw[bz (by simp)];refine aq (ba (aq (DJ aI iU ?_)));rw[bz (by simp)];refine ba ?_;simp only[show¬((i:Int)<0)from by omega,if_false,qw,Yq hi];refine aq ?_
 first
 |refine aq (O2 T0 (ba (aq (XA T0 ?_))))
 |refine aq (O4 T0 (ba (aq (XA T0 ?_))))
 change aN _ _ (zW (.ref it) 1 (jg ((i:Int)+1)) >>=_) _ _ s;refine aq (HJ uk sd (by simp) ?_);have next:(s.heap.update it (Obj.mapFields (·.setIfInBounds 1 (jg ((i:Int)+1))))).IsKeyIter it d (i+1) es.size ep:=
  ⟨_,nj _ uk (ĭ (Jf sd _)),(ī ..).trans BZ,by simp[Jf sd,jg]⟩
 refine aq (jH (aq (XA (s:={s with heap:=s.heap.update it (Obj.mapFields (·.setIfInBounds 1 (jg ((i:Int)+1))))}) next.typeIs ?_)));exact ba (ba ⟨_,rfl,ba (et _ next (tk ..))⟩)
theorem ź{Q:Option Value->aO->Prop}(dh:A.handled=none)(hit:s.heap.IsKeyIter it d i es.size ep)(hd:vn s.heap d es ep)(hi:es.size<=i)(et:∀h',ID it s.heap h'->Q none {s with heap:=h'}):
  aN (a_ prog w) A (gT (cg it)) Q E s:=by
 obtain⟨CV,uk,BZ,sd⟩:=id hit;obtain⟨o,aI,_,iU⟩:=hd;have T0:=hit.typeIs;have uD:¬((cg d==eT)=true):=ei;have own:D0 "dict_keyiterator"=false:=by decide
 unfold gT;refine aq (xI (xJ (name:=bK "__next__") T0 F.slot_dict_keyiterator_next (m_ F.slot_dict_keyiterator_next T0 F.entry_dict_keyiterator_next ?_ (F.args_dict_keyiterator_next_1 _))));refine aq (ba (aq (aq ?_)))
 first
 |refine aq (O2 T0 (ba (aq (xK uk sd ?_))))
 |refine aq (O4 T0 (ba (aq (xK uk sd ?_))))
 simp only[own,rF,if_false];change aN _ _ (ite ((cg d==eT)=true) _ _) _ _ s;rw[bz uD];refine aq (ba (aq (u7 aI iU ?_)));rw[bz (by simp)];refine aq (ba (aq (DJ aI iU ?_)));rw[bz (by simp)];refine ba ?_;simp only[show¬((i:Int)<0)from by omega,if_false,qw,Yr hi];refine aq ?_
 first
 |refine aq (O2 T0 (ba ?_))
 |refine aq (O4 T0 (ba ?_))
 change aN _ _ (zW (.ref it) 0 eT >>=_) _ _ s;refine aq (HJ uk sd (by simp) ?_);change aN _ _ (CI (.type "StopIteration") [] >>=_) _ _ _;refine aq ?_;simp only[CI,newTuple];refine aq (og ?_ (by size_fits));refine aq (m:=BJ _ _) (oh (a:=eT) (by first|rfl|(simp only[BJ];rfl)) (og ?_ (by size_fits)));have i9:A.in1.handled=none:=dh;simp only[raiseNew];refine aq (Xy ?_);rw[i9];refine aq (ba (XF ?_));refine aq (Xz (b:=true) (T:="StopIteration") ⟨_,eY _ rfl,rfl⟩ VI ?_);exact ba (et _ (IE (IE (ZI (tk ..)) _) _))
theorem Ż{Q:b6}(hs:(d==kg)=false)(hd:vn s.heap d es ep)(et:Q (.ref s.heap.objs.size) {s with heap:=s.heap.push {cls:=.type "dict_keyiterator",data:=.fields #[.ref d,.int 0 0,.int es.size 0,.int ep 0]}}):aN (a_ prog w) A (C5 (.ref d)) Q E s:=by
 obtain⟨o,aI,ax,iU⟩:=hd;have T0:s.TypeIs (.ref d) "dict":=⟨o,aI,ax.1⟩
 refine XE T0 F.slot_dict_iter (m_ F.slot_dict_iter T0 F.entry_dict_iter ?_ (F.args_dict_iter_1 _));unfold Builtin.«dict.__iter__» akw;refine aq (aq (O0 T0 ?_));change aN _ _ (pure (cg d)) _ _ s;refine ba ?_;change aN _ _ (H9 d >>=_) _ _ s;unfold H9;rw[bz (by rw[hs];exact ei)];refine aq (ba (aq (u7 aI iU (aq (DJ aI iU ?_)))));refine aq (og ?_);refine ba ⟨_,rfl,"dict_keyiterator",_,⟨_,eY _ rfl,rfl⟩,F.slot_dict_keyiterator_next.lookup,?_⟩;simpa[jg]using et
noncomputable def s6{κ:Type}[DecidableEq κ](kvs:List (κ×V))(k:κ):List (κ×V):=kvs.filter λp=>decide (p.1≠k)
theorem X9{κ β:Type}[DecidableEq κ]{k:κ}:∀{l:List (κ×β)}{j:Nat}{v:β},(l.map (·.1)).Nodup->l[j]?=some (k,v)->l.eraseIdx j=l.filter λp=>decide (p.1≠k)
 |[],j,v,_,h=>by simp at h
 |p::r,0,v,aC,h=>by simp only[RF,Sq]at h;subst h;rw[il,nu]at aC;rw[List.eraseIdx_zero,List.tail_cons,æ];rw[bz (by simp)];symm;rw[RC];intro q bo;have hI:q.1≠k:=λz=>aC.1 (cw.mpr ⟨q,bo,z⟩);exact b4 hI
 |p::r,j+1,v,aC,h=>by
  rw[il,nu]at aC;have h':r[j]?=some (k,v):=by simpa using h
  rw[List.eraseIdx_cons_succ,æ,X9 aC.2 h'];have hI:p.1≠k:=λz=>aC.1 (by rw[z];exact cw.mpr ⟨_,f_ h',rfl⟩);rw[bO (b4 hI)]
end
section
variable{prog:cA}{w:bU}{K:Type}[DecidableEq K]{knd:HeapKind prog w K}{A:dn}{E:b6}{s:aO}
theorem YD{xs:List (K×Addr×Value)}{k:K}{Q:Option pe->aO->Prop}(bL:knd.room A)(y5:knd.is s.heap k a)(hm:s.heap.DictOfH knd d xs)(hz:xs.length<=sizeLine)(FW:(∀(j:Nat)(p:Addr×Value),xs[j]?≠some (k,p))->Q none {s with toks:=s.toks+knd.draws k})(L1:∀(j:Nat)(p:Addr×Value),xs[j]?=some (k,p)->∀h',h'.DictOfH knd d (xs.eraseIdx j)->iK d s.heap h'->Q (some (BC knd (k,p))) {s with heap:=h',toks:=s.toks+knd.draws k}):
  aN (a_ prog w) A (YF d (.ref a)) Q E s:=by
 obtain⟨o,es,ep,aI,ar,hd,he,FN,aX⟩:=hm;have hsz:es.size=xs.length:=WM he;unfold YF
 try with_reducible refine jH ?_
 refine aq (knd.pyHash bL y5 (aq (wpAny_dictFind_heap (s:={s with toks:=s.toks+knd.draws k}) bL y5 aI hd he FN aX (λa8=>?_) λj p bu=>?_)))
 .exact ba (FW a8)
 .have dw:j<xs.length:=(gn.mp bu).1;have BB:es[j]?=some (BC knd (k,p)):=by
   have aF:es.toList[j]?=some (BC knd (k,p)):=by rw[he,d0,bu];rfl
   simpa using aF
  refine aq (u7 (s:={s with toks:=s.toks+knd.draws k}) aI hd ?_);rw[BB];refine aq (aj2 (hz:=by omega) (s:={s with toks:=s.toks+knd.draws k}) aI hd (ba (L1 j p bu _ ⟨_,_,ep+1,nj _ aI (Ĭ (Je hd _)),ar.mapDictKeys _,Je hd _,?_,?_,?_⟩ (tk ..))))
  .have aG:(es.eraseIdxIfInBounds j).toList=es.toList.eraseIdx j:=by obtain⟨l⟩:=es;simp
   rw[aG,he];apply List.ext_getElem?;intro i;simp only[List.getElem?_eraseIdx,d0];split<;>rfl
  .intro x ax;exact knd.keeps (FN x (List.mem_of_mem_eraseIdx ax)) aI hd (tk ..)
  .exact List.Nodup.sublist ((List.eraseIdx_sublist xs j).map _) aX
theorem ż{xs:List (K×Addr×Value)}{k:K}{Q:b6}(hs:(d==kg)=false)(bL:knd.room A.in1)(y5:knd.is s.heap k a)(hm:s.heap.DictOfH knd d xs)(hz:xs.length<=sizeLine)(FW:(∀(j:Nat)(p:Addr×Value),xs[j]?≠some (k,p))->∀t,Q r {s with toks:=t})(L1:∀(j:Nat)(p:Addr×Value),xs[j]?=some (k,p)->∀h' t,h'.DictOfH knd d (xs.eraseIdx j)->iK d s.heap h'->Q p.2 {s with heap:=h',toks:=t}):
  aN (a_ prog w) A (call (.builtin "dict.pop") [.ref d,.ref a,r]) Q E s:=by
 obtain⟨o,es,ep,aI,ar,hd,he,FN,aX⟩:=id hm;have T0:s.TypeIs (.ref d) "dict":=⟨o,aI,ar.1⟩
 refine m_ F.slot_dict_pop T0 F.entry_dict_pop ?_ (F.args_dict_pop_3 _ _ _);unfold Builtin.«dict.pop» akx;refine aq (aq (O0 T0 ?_));change aN _ _ (pure (d,cg a,some r)) _ _ s;refine ba ?_;dsimp only;rw[bz (by simp[keyPart])];refine aq (u7 aI hd (aq (ba ?_)));have hsz:es.size=xs.length:=WM he;by_cases Ly:es.isEmpty=true
 .rw[bO Ly];have x0:xs=[]:=by
   have:es.size=0:=by simpa[Array.isEmpty]using Ly
   exact Em.mp (by omega)
  refine aq (u_ (aq (ba ?_)));rw[bO (show(none:Option pe).isNone=true from rfl)];refine aq (ajV hs (aq (u_ (ba ⟨_,rfl,?_⟩))));exact FW (λj p=>by rw[x0];simp) s.toks
 .rw[bz Ly];refine aq (YD bL y5 hm hz (λa8=>?_) λj p bu h' dd si=>?_)
  .rw[bO (show(none:Option pe).isNone=true from rfl)];exact aq (ajV hs (aq (u_ (ba ⟨_,rfl,FW a8 _⟩))))
  .rw[bz (by simp)];exact aq (jI (ba ⟨_,rfl,L1 j p bu h' _ dd si⟩))
end
section
variable{X:bx}{o e f:Expr}{c1 ty o6:TE}{fb e5:Pos}
noncomputable def aby(c1 ty o6:TE):TE:=λσ H Q=>c1 σ H λx H1=>∃a,x=.ref a/\Ax H1 a/\ty σ H1 λy ah=>o6 σ ah λz aU=>∃kvs k b,y=.ref b/\aU a=some (.bV kvs)/\aU b=some (.tup (k.map c0))/\Q ((b_ kvs k).getD z) (upd aU a (.bV (s6 kvs k)))
theorem P2(bL:X.A.units+1<cLine)(aI:bl X o c1)(he:bl X e ty)(bE:bl X f o6)(m:M2 X o "pop" fb e f e5):bl X (.Call (.Attribute o "pop" fb) [e,f] [] e5) (aby c1 ty o6):=by
 intro pins s σ H Q I h;refine Xv m.base m.cN m.line ED PySem.F.slot_dict_pop PySem.F.type_dict_pop (bA (aI pins s σ H _ I h) λu s1 hz=>?_);obtain⟨x,H1,aL,bf,a,ex,d,bw⟩:=hz;subst ex;obtain rfl:u=cg a:=bf;obtain⟨t1,fh,_⟩:=Do aL d;refine⟨t1,fh,?_⟩;rw[m.trees];refine Aq rfl (D1 (xP (bA (he pins s1 σ H1 _ aL bw) λkE s2⟨y,ah,br,bD,cH⟩=>xP (bA (bE pins s2 σ ah _ br cH) λaf0 aW⟨z,aU,dg,xp,kvs,k,b,dU,aS,dq,q⟩=>D2 ?_))));subst dU;obtain rfl:kE=cg b:=bD;obtain⟨o_,hs,xs,rel,dd⟩:=IP dg.bj aS;have Mf:xs.length<=sizeLine:=by rw[<-tv rel];exact o_
 have l2:kvs.map (·.1)=xs.map (·.1):=by
  have:∀{l:List (List bb×V)}{m:List (List bb×Addr×Value)},KT aU l m->l.map (·.1)=m.map (·.1):=λ{l m}R=>by
   induction R with
   |nil=>rfl
   |cons a t a5=>rw[il,il,a5,a.1]
  exact this rel
 have aC:(kvs.map (·.1)).Nodup:=by obtain⟨_,_,_,_,_,_,_,_,aX⟩:=id dd;rw[l2];exact aX
 have pick:∀{l:List (List bb×V)}{m:List (List bb×Addr×Value)}{j:Nat}{q:List bb×Addr×Value},KT aU l m->m[j]?=some q->∃p,l[j]?=some p/\p.1=q.1/\RelV p.2 q.2.2:=λ{l m j q}R=>by
  induction R generalizing j with
  |nil=>intro h;simp at h
  |cons a t a5=>
   cases j with
   |zero=>intro h;simp at h;subst h;exact⟨_,rfl,a.1,a.2.2⟩
   |succ j=>intro h;simp at h;simpa using a5 h
 refine ż (knd:=sT (h1 X.prog X.w)) hs (z4 bL) (uK dg.bj dq) dd Mf (λa8 t=>?_) λj p bu h' t oD si=>?_
 .have v0:b_ kvs k=none:=by
   have h8:=KT.val rel k;rw[atKey_none_of_get a8]at h8;cases ev:b_ kvs k with
   |none=>rfl
   |some v=>rw[ev]at h8;exact h8.elim
  have ain:s6 kvs k=kvs:=by
   unfold s6;rw[RC];intro p ay;have:(kvs.any λbN=>decide (bN.1=k))=false:=by rw[oM,v0];rfl
   have hI:p.1≠k:=λz=>by rw[ß]at this;exact this p ay (b4 z)
   exact b4 hI
  rw[v0,ain]at q;have dm:upd aU a (.bV kvs)=aU:=by
   funext c;by_cases ar:c=a
   .rw[ar,aE,aS]
   .rw[aV ar]
  rw[dm]at q;exact⟨z,aU,dg.tok t,xp,q⟩
 .obtain⟨gJ,LX,e6,aoK⟩:=pick rel bu;have aX:(xs.map (·.1)).Nodup:=l2▸aC;have cq:=KT.val rel k;rw[atKey_of_get aX bu]at cq;obtain⟨v1,ev,cc⟩:∃v1,b_ kvs k=some v1/\RelV v1 p.2:=by
   cases ev:b_ kvs k with
   |none=>rw[ev]at cq;exact cq.elim
   |some v1=>rw[ev]at cq;exact⟨v1,rfl,cq⟩
  have ep:s6 kvs k=kvs.eraseIdx j:=(X9 aC (v:=gJ.2) (by rw[LX,show gJ=(k,gJ.2)from A' e6 rfl])).symm;rw[ev,ep]at q;have eB:∀{l:List (List bb×V)}{m:List (List bb×Addr×Value)}(j:Nat),KT aU l m->KT aU (l.eraseIdx j) (m.eraseIdx j):=λ{l m}j R=>by
   induction R generalizing j with
   |nil=>exact .nil
   |cons a t a5=>
    cases j with
    |zero=>exact t
    |succ j=>exact .cons a (a5 j)
  obtain⟨ob,es,mS,ai,aj,bC,c5,_,fq⟩:=oD;refine⟨v1,_,De (t':=t) (ob:=.bV (kvs.eraseIdx j)) dg (by rw[aS];exact lJ) si ⟨ob,ai⟩ ⟨?_,hs,xs.eraseIdx j,fH.oW (eB j rel) λp q w=>⟨w.1,?_,w.2.2⟩,ob,es,mS,ai,aj,bC,c5,fq⟩,cc,q⟩
  .exact e1 (List.length_eraseIdx_le ..) o_
  .have jj:=w.2.1;rw[aV (λy=>by rw[y,aS]at jj;cases jj)];exact jj
end
section
variable{X:bx}{e:Expr}{pos:Pos}
noncomputable def acZ(te:Fa)(i:Nat):yy:=λD E σ H=>te (E σ) σ H λv H1=>D.cp (σ.set i (some v)) H1
theorem aaL{i:Nat}{te:Fa}(eH:X.N.Nodup)(hi:X.N[i]?=some x)(ax:Loc X.env.scope x)(he:Ss X e te)(hs:zZ e (some (.Name x pos')) pos.line X.env=pure false:=by rfl)(bE:X.fn x=true\/X.env.scope.names.lookup x=some .local:=by first|exact .inl rfl|exact .inr rfl|assumption):
  Su X (.Assign [.Name x pos'] e pos) (acZ te i):=by intro pins s σ H D E I h;refine ajL (hf (he pins s σ H _ _ I h) (λv s1 hz=>?_) λe s' q=>⟨σ,q⟩) hs;obtain⟨y,H1,aL,cq,bw⟩:=hz;exact GF aL eH hi ax cq (λs2 br=>⟨_,H1,br,bw⟩) bE
end
end b5
namespace c2
open PySem ao b5 cQ
theorem Λ{K:aQ}{wi:el}{te:TE}{rest:ao.St}{H1:af}{Q:a4}{kvs:List (List bb×ao.V)}(hw:∀R:gm->af->Prop,R (IH a o kvs) H1->wi σ H R)(g0:h5 cs σ=none::none::rest)(av:H1 a=some (.ed o (.bV kvs)))(au:kvs.length<sizeLine)(f:Nat->List ao.V)(elt:∀(i:Nat)(k:List bb)(x:ao.V)(b:Addr)(ah:af)(R:a4),kvs[i]?=some (k,x)->aB H1 ah->ah b=some (.tup (k.map c0))->(∀r b1,aB ah b1->b1 r=some (.tup (f i))->R (.ref r) b1)->te (some (.ref b)::some x::rest) ah R)(fin:∀(D:Addr)(H':af)(rs:c7),H1 D=none->H' D=some (.lst (bM rs))->ha H' rs ((gN kvs.length).map f)->aB H1 H'->Q (.ref D) H'):
  o5 wi cs (vm K 2 (p4 (jD 0) (p4 (jD 1) xT))) sY te σ H Q:=by
 refine hw _ λD bF=>?_;refine⟨λi m ys a' H'=>m=kvs.length-i/\i<=kvs.length/\(∃rs,ys=bM rs/\ha H' rs ((gN i).map f))/\(∃iZ rj,a'=iZ::rj::rest)/\aB H1 H'/\H' D=some (.lst ys),⟨kvs.length,by simp,ej _,⟨[],rfl,.nil⟩,⟨none,none,g0⟩,λb o e=>?_,aE⟩,?_⟩
 .rw[aV (cI e bF)];exact e
 .rintro i m ys a' H' ⟨rfl,hi,⟨rs,rfl,dv⟩,⟨iZ,rj,rfl⟩,az,g_⟩;have ln:=dv.len;rw[cj,Eo]at ln;refine⟨g_,qC (by rw[i4];omega) au,?_⟩;by_cases dw:i<kvs.length
  .refine .inr ⟨⟨az _ _ av,dw⟩,λx ah y=>?_⟩;obtain⟨p,b,k,mh,ay,rfl,wg,ae,rfl⟩:=y;have s2:=aZ (o:=.tup [V.ref b,mh]) ay;refine⟨p,_,rfl,cG.of aE,rfl,_,_,rfl,_,_,rfl,rfl,?_⟩;refine elt i k mh b _ _ wg (az.trans s2) (s2 _ _ ae) λr b1 dY al=>⟨dY _ _ (s2 _ _ g_),kvs.length-(i+1),by omega,rfl,dw,⟨rs++[r],ZB rs r,?_⟩,⟨_,_,rfl⟩,λc ob e=>?_,aE⟩
   .rw[RN,fk];exact ha.upd (Paired.snoc (F:=λr d=>b1 r=some (.tup d)) al ((dv.same s2).same dY)) (dY _ _ (s2 _ _ g_)) (by intro d z;cases z)
   .rw[aV (cI e bF)];exact dY _ _ (s2 _ _ (az _ _ e))
  .have e:i=kvs.length:=by omega
   subst e;exact .inl ⟨⟨az _ _ av,cL _⟩,fin D H' rs bF g_ dv az⟩
noncomputable abbrev Row:=Str×Str×Int
noncomputable def td(r:Row):List bb:=[.inr r.1,.inr r.2.1,.inl r.2.2]
noncomputable def o9(r:Row):List ao.V:=[.str r.1,.str r.2.1,.int r.2.2]
noncomputable def b8(rs:List Row):List (List bb×ao.V):=rs.map λr=>([.inr r.1,.inr r.2.1],.int r.2.2)
noncomputable def Jb(rs:List Row):List Nat:=u4 (sE (rs.map td)) rs.length
noncomputable def h8:Row:=(iN,iN,0)
noncomputable def l7(rs:List Row):List Row:=(Jb rs).map λi=>rs.getD i h8
theorem row_shape(rs:List Row):∀d∈rs.map td,kH d=false::[false,true]:=λd hd=>by obtain⟨r,_,rfl⟩:=cw.mp hd;rfl
theorem Μ{H:af}{rs:List Row}(h:ha H cd (rs.map o9)):fH (λr d=>H r=some (.tup (d.map c0))) cd (rs.map td):=by
 have:∀{cd:c7}{rs:List Row},ha H cd (rs.map o9)->fH (λr d=>H r=some (.tup (d.map c0))) cd (rs.map td):=λ{cd rs}=>by
  induction rs generalizing cd with
  |nil=>intro h;cases h;exact .nil
  |cons r q a5=>intro h;cases h with|cons a t=>exact .cons a (a5 t)
 exact this h
end c2
namespace b2
variable{κ:Type}[DecidableEq κ]
structure fU(κ:Type)where
 a:κ
 b:κ
 t:Int
inductive Path(rs:List (fU κ))(s:κ):κ->Int->Prop
 |nil:Path rs s s 0
 |snoc {v:Int} (e:fU κ):Path rs s e.a v->e∈rs->Path rs s e.b (v+e.t)
theorem Path.cons{rs:List (fU κ)}(e:fU κ)(he:e∈rs){g:κ}{w:Int}(p:Path rs e.b g w):Path rs e.a g (e.t+w):=by
 induction p with
 |nil=>
  have:=Path.snoc e (Path.nil (rs:=rs) (s:=e.a)) he
  rwa [xY,<-Int.add_zero e.t]at this
 |snoc f _ bE a5=>
  rw[<-Int.add_assoc];exact Path.snoc f a5 bE
theorem Path.first{rs:List (fU κ)}{s g:κ}{w:Int}(p:Path rs s g w):(s=g/\w=0)\/∃e∈rs,∃u,e.a=s/\Path rs e.b g u/\w=e.t+u:=by
 induction p with
 |nil=>exact .inl ⟨rfl,rfl⟩
 |@snoc v f _ bE a5=>
  refine .inr ?_;rcases a5 with⟨rfl,rfl⟩|⟨e,he,u,aF,p,rfl⟩
  .exact⟨f,bE,0,rfl,.nil,by omega⟩
  .exact⟨e,he,u+f.t,aF,.snoc f p bE,by omega⟩
theorem Path.nonneg{rs:List (fU κ)}(ay:∀e∈rs,1<=e.t){s g:κ}{w:Int}(p:Path rs s g w):0<=w:=by
 induction p with
 |nil=>exact nq _
 |snoc e _ he a5=>have:=ay e he;omega
structure IQ(rs:List (fU κ))(s:κ)(d:κ->Option Int):Prop where
 path:∀k v,d k=some v->Path rs s k v
 least:∀k w,Path rs s k w->∃v,d k=some v/\v<=w
structure ot(rs:List (fU κ))(s:κ)(ns:List κ)(d:κ->Option Int):Prop where
 start:d s=some 0
 path:∀k v,d k=some v->Path rs s k v
 cN:∀k v,d k=some v->v<9*(ns.countP λk=>(d k).isSome)
noncomputable def ok(d:κ->Option Int)(e:fU κ):Prop:=∀v,d e.a=some v->∃u,d e.b=some u/\u<=v+e.t
theorem ot.done{rs:List (fU κ)}{s:κ}{ns:List κ}{d:κ->Option Int}(m:ot rs s ns d)(h:∀e∈rs,ok d e):IQ rs s d:=by
 refine⟨m.path,λk w p=>?_⟩
 induction p with
 |nil=>exact⟨0,m.start,nq _⟩
 |snoc e _ he a5=>
  obtain⟨v,ai,aj⟩:=a5;obtain⟨u,bC,c5⟩:=h e he v ai;exact⟨u,bC,by omega⟩
noncomputable def put(d:κ->Option Int)(b:κ)(v:Int):κ->Option Int:=λk=>if k=b then some v else d k
theorem count_le{p q:κ->Bool}(h:∀k,p k=true->q k=true):∀ns:List κ,ns.countP p<=ns.countP q
 |[]=>by simp
 |k::r=>by have a5:=count_le h r;simp only[ä];have:=h k;split<;>split<;>simp_all<;>omega
theorem Bv{p q:κ->Bool}(h:∀k,p k=true->q k=true){b:κ}(ai:p b=false)(aj:q b=true):∀{ns:List κ},b∈ns->ns.countP p<ns.countP q
 |[],z=>by simp at z
 |k::r,z=>by
  simp only[ä];by_cases e:k=b
  .subst e;have:=count_le h r;simp[ai,aj];omega
  .have a5:=Bv h ai aj (ns:=r) (by rcases dX.mp z with z|z;exact bk z.symm e;exact z);have:=h k;split<;>split<;>simp_all<;>omega
theorem Se{f g:κ->Nat}(h:∀k,f k<=g k):∀ns:List κ,(ns.map f).sum<=(ns.map g).sum
 |[]=>by simp
 |k::r=>by have:=Se h r;have:=h k;simp only[il,Er];omega
theorem Sg{f g:κ->Nat}(h:∀k,f k<=g k){b:κ}(ai:f b<g b):∀{ns:List κ},b∈ns->(ns.map f).sum<(ns.map g).sum
 |[],z=>by simp at z
 |k::r,z=>by
  simp only[il,Er];by_cases e:k=b
  .subst e;have:=Se h r;omega
  .have a5:=Sg h ai (ns:=r) (by rcases dX.mp z with z|z;exact bk z.symm e;exact z);have:=h k;omega
noncomputable def val(n:Nat):Option Int->Nat
 |none=>n
 |some v=>v.toNat
noncomputable def iY(ns:List κ)(d:κ->Option Int):Nat:=(ns.map λk=>val (9*ns.length) (d k)).sum
theorem ot.put{rs:List (fU κ)}{s:κ}{ns:List κ}{d:κ->Option Int}(m:ot rs s ns d)(ay:∀e∈rs,1<=e.t/\e.t<=9){e:fU κ}(he:e∈rs)(ae:e.b∈ns){v:Int}(av:d e.a=some v)(hs:∀u,d e.b=some u->v+e.t<u):
  ot rs s ns (put d e.b (v+e.t))/\iY ns (b2.put d e.b (v+e.t))<iY ns d:=by
 have a7:0<=v:=(m.path _ _ av).nonneg λe he=>(ay e he).1;have cO:=ay e he;have ais:∀k w,b2.put d e.b (v+e.t) k=some w->Path rs s k w:=λk w h=>by
  unfold b2.put at h;split at h
  .rename_i q;cases h;rw[q];exact .snoc e (m.path _ _ av) he
  .exact m.path k w h
 have hm:∀k,(d k).isSome=true->(b2.put d e.b (v+e.t) k).isSome=true:=λk h=>by
  unfold b2.put;split
  .rfl
  .exact h
 have cN:∀k w,b2.put d e.b (v+e.t) k=some w->w<9*(ns.countP λk=>(b2.put d e.b (v+e.t) k).isSome):=λk w h=>by
  have hle:=count_le hm ns;by_cases q:k=e.b
  .have h':w=v+e.t:=by unfold b2.put at h;rw[bO q]at h;exact(fG h).symm
   have aog:=m.cN _ _ av;cases hd:d e.b with
   |some u=>
    have:=hs u hd;have:=m.cN _ _ hd;omega
   |none=>
    have dw:ns.countP (λk=>(d k).isSome)<ns.countP λk=>(b2.put d e.b (v+e.t) k).isSome:=Bv hm (b:=e.b) (by rw[hd];rfl) (by unfold b2.put;rw[bO rfl];rfl) ae;omega
  .have h':d k=some w:=by
    unfold b2.put at h
    rwa [bz q]at h
   have:=m.cN k w h';omega
 refine⟨⟨?_,ais,cN⟩,?_⟩
 .unfold b2.put;split
  .rename_i q;rw[<-q]at hs;have:=hs 0 m.start;omega
  .exact m.start
 .have ar:ns.countP (λk=>(b2.put d e.b (v+e.t) k).isSome)<=ns.length:=IT;have aX:=cN e.b (v+e.t) (by unfold b2.put;rw[bO rfl]);have lt:val (9*ns.length) (b2.put d e.b (v+e.t) e.b)<val (9*ns.length) (d e.b):=by
   have aF:b2.put d e.b (v+e.t) e.b=some (v+e.t):=by unfold b2.put;rw[bO rfl]
   have hz:((v+e.t).toNat:Int)=v+e.t:=vE (by omega);rw[aF];cases hd:d e.b with
   |some u=>
    have:=hs u hd;show(v+e.t).toNat < u.toNat
    omega
   |none=>
    show(v+e.t).toNat < 9*ns.length;omega
  refine Sg (λk=>?_) (b:=e.b) lt ae;by_cases q:k=e.b
  .subst q;exact qB lt
  .have aG:b2.put d e.b (v+e.t) k=d k:=by unfold b2.put;rw[bz q]
   rw[aG];exact cL _
theorem ot.begin{rs:List (fU κ)}{s:κ}{ns:List κ}(hs:s∈ns):ot rs s ns (λk=>if k=s then some 0 else none):=by
 refine⟨by simp,λk v h=>?_,λk v h=>?_⟩
 .split at h
  .rename_i q;cases h;rw[q];exact .nil
  .cases h
 .split at h
  .cases h;have:0<ns.countP λk=>((if k=s then some (0:Int)else none).isSome):=RB.mpr ⟨s,hs,by simp⟩;omega
  .cases h
structure vB(rs:List (fU κ))(f:κ->Option Int)(g:κ):Prop where
 path:∀k v,f k=some v->Path rs k g v
 least:∀k w,Path rs k g w->∃v,f k=some v/\v<=w
section
variable{rs:List (fU κ)}{f:κ->Option Int}{g:κ}(F:vB rs f g)(ay:∀e∈rs,1<=e.t)
include F
theorem vB.back{e:fU κ}(he:e∈rs){u:Int}(h:f e.b=some u):∃v,f e.a=some v/\v<=u+e.t:=by obtain⟨v,ai,aj⟩:=F.least _ _ (Path.cons e he (F.path _ _ h));exact⟨v,ai,by omega⟩
include ay in
theorem vB.goal:f g=some 0:=by obtain⟨v,ai,aj⟩:=F.least g 0 .nil;have:=(F.path _ _ ai).nonneg ay;rw[ai];congr 1;omega
include ay in
theorem vB.other{k:κ}{v:Int}(aD:k≠g)(h:f k=some v):1<=v/\∃e∈rs,∃u,e.a=k/\f e.b=some u/\v=u+e.t:=by
 rcases(F.path _ _ h).first with⟨e,_⟩|⟨e,he,u,rfl,p,rfl⟩
 .exact bk e aD
 .have ai:=p.nonneg ay;have aj:=ay e he;obtain⟨u',bC,c5⟩:=F.least _ _ p;obtain⟨me,fq,wA⟩:=F.back he bC;rw[h]at fq;cases fq;exact⟨by omega,e,he,u',rfl,bC,by omega⟩
end
theorem Path.min{rs:List (fU κ)}(ay:∀e∈rs,1<=e.t){s g:κ}:∀(n:Nat)(w:Int),w.toNat=n->Path rs s g w->∃v,Path rs s g v/\(∀u,Path rs s g u->v<=u):=by
 intro n
 induction n using R8 with
 |_ n a5=>
  intro w hw p;by_cases h:∃u,Path rs s g u/\u<w
  .obtain⟨u,pu,bL⟩:=h;have ai:=pu.nonneg ay;exact a5 u.toNat (by omega) u rfl pu
  .refine⟨w,p,λu pu=>?_⟩;by_cases q:w<=u
   .exact q
   .exact bk ⟨u,pu,by omega⟩ h
open Classical in
noncomputable def dist(rs:List (fU κ))(s g:κ):Option Int:=if h:∃v,Path rs s g v/\∀u,Path rs s g u->v<=u then some (YZ h)else none
theorem Uo{rs:List (fU κ)}{s:κ}{d:κ->Option Int}(L:IQ rs s d)(g:κ):d g=dist rs s g:=by
 unfold dist;cases hd:d g with
 |some v=>
  have p:=L.path g v hd;have zu:∀u,Path rs s g u->v<=u:=λu pu=>by obtain⟨me,ai,aj⟩:=L.least g u pu;rw[hd]at ai;cases ai;exact aj
  have h:∃v,Path rs s g v/\∀u,Path rs s g u->v<=u:=⟨v,p,zu⟩
  rw[dif_pos h];have c:=Ie h;congr 1;have a:=zu _ c.1;have b:=c.2 _ p;omega
 |none=>
  have h:¬∃v,Path rs s g v/\∀u,Path rs s g u->v<=u:=λ⟨v,p,_⟩=>by obtain⟨me,ai,_⟩:=L.least g v p;rw[hd]at ai;cases ai
  rw[dif_neg h]
theorem wm{rs:List (fU κ)}(ay:∀e∈rs,1<=e.t)(g:κ):vB rs (λk=>dist rs k g) g:=by
 refine⟨λk v h=>?_,λk w p=>?_⟩
 .unfold dist at h;split at h
  .rename_i q;cases h;exact(Ie q).1
  .cases h
 .have q:=p.min ay _ _ rfl;show∃v,dist rs k g=some v/\v<=w;unfold dist;rw[dif_pos q];exact⟨_,rfl,(Ie q).2 _ p⟩
end b2
namespace c2
open PySem ao b5 cQ
noncomputable def cV(hs:bt)(d:cQ.fm):b2.fU Str:=⟨S (hs.getD d.a []),S (hs.getD d.b []),d.t⟩
noncomputable def fY(hs:bt)(ds:dc):List (b2.fU Str):=ds.map (cV hs)
structure Tab(kvs:List (bb×ao.V))(D:hP):Prop where
 at_:∀k:Str,b_ kvs (dC k:bb)=(D k).map V.int
 eD:∀bN∈kvs,∃k:Str,bN.1=(dC k:bb)
theorem aaM{kvs:List (bb×ao.V)}(h:∀bN∈kvs,∃k:Str,bN.1=(dC k:bb))(b:Str)(v:ao.V):∀bN∈fv kvs (dC b:bb) v,∃k:Str,bN.1=(dC k:bb):=by
 intro bN aD;unfold fv at aD;split at aD
 .obtain⟨q,bo,e⟩:=cw.mp aD;obtain⟨k,e6⟩:=h q bo;split at e
  .exact⟨k,by rw[<-e];exact e6⟩
  .exact⟨k,by rw[<-e];exact e6⟩
 .rcases ip.mp aD with z|z
  .exact h bN z
  .exact⟨b,by rw[gW.mp z]⟩
theorem Tab.put{kvs:List (bb×ao.V)}{D:hP}(T:Tab kvs D)(b:Str)(v:Int):Tab (fv kvs (dC b:bb) (.int v)) (b2.put D b v):=⟨λk=>by
 rw[zx];unfold b2.put;by_cases h:k=b
 .rw[bO h,bO (ek dC h)];rfl
 .rw[bz h,bz λz=>h (yw z)];exact T.at_ k,aaM T.eD b _⟩
theorem O6{κ:Type}[DecidableEq κ]{kvs:List (κ×ao.V)}{k:κ}(v:ao.V)(h:b_ kvs k=some u):(fv kvs k v).length=kvs.length:=by unfold fv;rw[bO (by rw[oM,h];rfl),cj]
noncomputable def xq(D:hP)(e:b2.fU Str):Bool:=match D e.a with
 |none=>false
 |some v=>match D e.b with
  |none=>true
  |some u=>decide (v+e.t<u)
theorem akv{D:hP}{e:b2.fU Str}(h:xq D e=true):∃v,D e.a=some v/\∀u,D e.b=some u->v+e.t<u:=by
 unfold xq at h;cases av:D e.a with
 |none=>rw[av]at h;cases h
 |some v=>
  rw[av]at h;refine⟨v,rfl,λu bL=>?_⟩;rw[bL]at h;exact rl h
theorem ajC{D:hP}{e:b2.fU Str}(h:xq D e=false):b2.ok D e:=by
 intro v av;unfold xq at h;rw[av]at h;cases ae:D e.b with
 |none=>rw[ae]at h;cases h
 |some u=>
  rw[ae]at h;exact⟨u,rfl,by have:=of_decide_eq_false h;omega⟩
noncomputable def A5:Option Int->ao.V
 |none=>.bJ
 |some v=>.int v
theorem aaN(o:Option Int):(o.map V.int).getD .bJ=A5 o:=by cases o<;>rfl
inductive QX(vs:aR)(H:af)(Q:a4)(gK:bP):Prop where
 |mk (r f:Addr) (hs:bt) (d:cQ.fm) (kvs:List (bb×ao.V)) (D:hP) (aT:vs=[.ref r,.ref f]) (aP:H r=some (.tup (lA hs d))) (bh:H f=some (.cF kvs)) (cf:Tab kvs D) (cP:Q (.aM (xq D (cV hs d))) H)
inductive Pr(K:aQ)(vs:aR)(H:af)(Q:a4)(gK:bP):Prop where
 |mk (b:Addr) (hs:bt) (rs:c7) (ds:dc) (h:Str) (aT:vs=[.ref b,.str h]) (aP:aJ K H b (bM rs)) (bh:gE H hs rs ds) (cf:hs.length<=12) (cP:h∈hs.map S) (dM:∀(p:Addr)(H':af)(kvs:List (bb×ao.V))(D:hP),H p=none->aB H H'->H' p=some (.cF kvs)->Tab kvs D->b2.IQ (fY hs ds) h D->Q (.ref p) H')
section
variable{P:cA}{w:bU}{K:aQ}{mg:b9}{base:Heap}
noncomputable abbrev H4:Stmt:=top 55
noncomputable abbrev DB:Stmt:=top 56
theorem aaO:de yi yi (cy H4):={}
theorem zQ:de ["roads","house","found","changed","road"] vJ (cy DB):={}
theorem ġ{f:Addr}(F:cz K "is_shorter_by" "is_shorter_by" H4 f fd):aK P w K mg base bq 1 f fd yi QX:=by
 refine F.ok aaO (λ_ A _ s H vs Q E al h=>?_)
 .obtain⟨r,wh,hs,d,kvs,D,rfl,bQ,bE,T,q⟩:=h;refine⟨_,(a9 (dH (uF (GG (gs al) (cU fe (aa 0) bc (λ_ _=>rfl)) (aa 1))) (bg (cm iz)) dJ)
   (bg (cm (acK (abp (GG (gs al) (cU fe (aa 0) bc (λ_ _=>rfl)) (aa 1))) (kA (jP uZ (b7 oU (nS (gs al) (aa 1) (cU fe (aa 0) bc (λ_ _=>rfl)) (λ_ _=>rfl)) (cU fe (aa 0) bc (λ_ _=>rfl))) (nS (gs al) (aa 1) (cU fe (aa 0) bc (λ_ _=>rfl)) (λ_ _=>rfl)) (dE _))))))),?_⟩
  try dsimp only[gR,gQ]
  have n3:=T.at_ (S (hs.getD d.a []));have xo:=T.at_ (S (hs.getD d.b []));have ga:=gu.k (k:=dC (S (hs.getD d.a []))) bE;have jB:=gu.k (k:=dC (S (hs.getD d.b []))) bE;rw[n3]at ga;rw[xo]at jB;unfold xq at q;have aS:(cV hs d).a=S (hs.getD d.a []):=rfl;have dq:(cV hs d).b=S (hs.getD d.b []):=rfl;rw[aS,dq]at q;refine⟨_,rfl,r,_,_,_,rfl,rfl,cG.of bQ,rfl,_,rfl,wh,_,rfl,ga,_,rfl,?_⟩;cases av:D (S (hs.getD d.a []))with
  |none=>
   rw[av]at q;exact f6 q
  |some v=>
   rw[av]at q ga;refine f5 ?_;refine⟨_,rfl,r,_,_,_,rfl,rfl,cG.of bQ,rfl,_,rfl,wh,_,rfl,jB,_,rfl,?_⟩;cases ae:D (S (hs.getD d.b []))with
   |none=>
    rw[ae]at q;exact f6 q
   |some u=>
    rw[ae]at q jB;refine f5 ?_;exact⟨_,rfl,_,rfl,r,_,_,_,rfl,rfl,cG.of bQ,rfl,wh,_,rfl,ga,_,rfl,r,_,_,_,rfl,rfl,cG.of bQ,rfl,_,_,rfl,rfl,_,rfl,_,rfl,r,_,_,_,rfl,rfl,cG.of bQ,rfl,wh,_,rfl,jB,_,_,rfl,rfl,q⟩
inductive aeb(b p:Addr)(h':Str)(hs:bt)(ds:dc)(H:af)(m:Nat)(σ:ao.St)(cE:af):Prop where
 |mk (kvs:List (bb×ao.V)) (D:hP) (ch:Bool) (HI:ju) (aT:σ=[some (.ref b),some (.str h'),some (.ref p),some (.aM ch),HI]) (aP:aB H cE) (bh:cE p=some (.cF kvs)) (cf:Tab kvs D) (cP:kvs.length<=(hs.map S).countP (λk=>(D k).isSome)) (dM:b2.ot (fY hs ds) h' (hs.map S) D) (gk:ch=false->∀e∈fY hs ds,b2.ok D e) (ic:m=2*b2.iY (hs.map S) D+(if ch=true then 1 else 0))
inductive aec(b p:Addr)(h':Str)(hs:bt)(ds:dc)(H:af)(D:hP)(i:Nat)(σ:ao.St)(hk:af):Prop where
 |mk (jU:List (bb×ao.V)) (dP:hP) (mO:Bool) (sV:ju) (aT:σ=[some (.ref b),some (.str h'),some (.ref p),some (.aM mO),sV]) (aP:aB H hk) (bh:hk p=some (.cF jU)) (cf:Tab jU dP) (cP:jU.length<=(hs.map S).countP (λk=>(dP k).isSome)) (dM:b2.ot (fY hs ds) h' (hs.map S) dP) (gk:(mO=false/\dP=D/\∀j d,j<i->ds[j]?=some d->b2.ok dP (cV hs d))\/(mO=true/\b2.iY (hs.map S) dP<b2.iY (hs.map S) D))
theorem Ģ{f fs:Addr}(F:cz K "least_turns_from" "least_turns_from" DB f fd)(tP:bX K mg "is_shorter_by" H4 yi fs afS)(Mp:aK P w K mg base bq 1 fs afS yi QX):
  aK P w K mg base bq 2 f fd vJ (Pr K):=by
 refine F.ok zQ (λ_ A _ s H vs Q E al h=>?_)
 .obtain⟨b,hs,rs,ds,h',rfl,ae,bQ,cN,hm,q⟩:=h;refine⟨_,(a9 (c8 (i:=2) zQ.aC rfl (ct rfl) (Qy (PB (aa 1) bc Qx) rfl rfl (by intro z;cases z) (by decide)))
   (a9 (c8 (i:=3) zQ.aC rfl (ct rfl) iz)
   (a9 (G0 jL (i7 (aa 3))
    (a9 (c8 (i:=3) zQ.aC rfl (ct rfl) iz)
   (bg (j6 jL rfl (hU (aa 0)) (eo (i:=4) zQ.aC rfl (ct rfl))
    (bg (dH (i7 (dB Mp al.mono (by rfl) tP.at_ tP.fn.b3 tP.bd .nil cJ (ag (aa 4) (ag (aa 2) aw)))) (a9 (zM (gs al) (aa 2) (cU fe (aa 4) bc (λ_ _=>rfl)) (b7 oU (nS (gs al) (aa 2) (cU fe (aa 4) bc (λ_ _=>rfl)) (λ_ _=>rfl)) (cU fe (aa 4) bc (λ_ _=>rfl))) rfl)
   (bg (c8 (i:=3) zQ.aC rfl (ct rfl) iz))) dJ))))))
   (bg (cm (aa 2)))))),?_⟩
  try dsimp only[gR,gQ]
  have agz:∀e∈fY hs ds,1<=e.t/\e.t<=9:=λe he=>by obtain⟨d,hd,rfl⟩:=cw.mp he;exact(bQ.ok d hd).t
  refineλp ay=>⟨_,rfl,aE,[(dC h',.int 0)],rfl,(by show 1<=15;decide),?_⟩
  have dm:upd (upd H p (.cF [])) p (.cF (xh [] [((dC h':bb),V.int 0)]))=upd H p (.cF [((dC h':bb),V.int 0)]):=by rw[C7];rfl
  rw[dm];have s0:aB H (upd H p (.cF [((dC h':bb),V.int 0)])):=aZ ay;have T0:Tab [((dC h':bb),V.int 0)] (λk=>if k=h' then some 0 else none):=⟨λk=>by
   by_cases z:k=h'
   .rw[lb (ek dC z.symm),bO z];rfl
   .rw[kx λy=>z (yw y).symm,bz z];rfl,λbN aD=>⟨h',by rw[gW.mp aD]⟩⟩
  have m0:b2.ot (fY hs ds) h' (hs.map S) (λk=>if k=h' then some 0 else none):=b2.ot.begin hm;have yF:0<(hs.map S).countP λk=>((if k=h' then some (0:Int)else none).isSome):=RB.mpr ⟨h',hm,by simp⟩;refine⟨aeb b p h' hs ds H,
   ⟨_,_,_,true,none,rfl,s0,aE,T0,yF,m0,λz=>(nomatch z),rfl⟩,?_⟩
  rintro m σ cE ⟨kvs,D,ch,HI,rfl,az,aD,T,len,mid,bj,rfl⟩;refine⟨_,rfl,_,rfl,?_⟩;cases ch with
  |false=>exact f5 ⟨_,rfl,q p cE kvs D ay az aD T (mid.done (bj rfl))⟩
  |true=>
   refine f6 ⟨λa' hk=>∃(jU:List (bb×ao.V))(dP:hP)(mO:Bool)(sV:ju),a'=[some (.ref b),some (.str h'),some (.ref p),some (.aM mO),sV]/\aB H hk/\hk p=some (.cF jU)/\Tab jU dP/\
    jU.length<=(hs.map S).countP (λk=>(dP k).isSome)/\b2.ot (fY hs ds) h' (hs.map S) dP/\((mO=false/\dP=D/\∀e∈fY hs ds,b2.ok dP e)\/(mO=true/\b2.iY (hs.map S) dP<b2.iY (hs.map S) D)),?_,?_⟩
   .rintro a' hk ⟨jU,dP,mO,sV,rfl,hX,qW,k4,Ct,zt,lZ⟩;refine⟨_,?_,jU,dP,mO,sV,rfl,hX,qW,k4,Ct,zt,?_,rfl⟩
    .rcases lZ with⟨rfl,rfl,_⟩|⟨rfl,dw⟩
     .simp
     .simp;omega
    .rintro rfl;rcases lZ with⟨_,_,aI⟩|⟨z,_⟩
     .exact aI
     .cases z
   .refine⟨_,rfl,b,rfl,⟨_,az.seq ae⟩,?_⟩;refine oL (xs:=bM rs) (aec b p h' hs ds H D)
     ⟨kvs,D,false,HI,rfl,az,aD,T,len,mid,.inl ⟨rfl,rfl,λj d bu _=>bk bu (Ex _)⟩⟩ ?_ ?_ ?_
    .rintro i a' hk hi ⟨jU,dP,mO,sV,rfl,hX,_⟩;exact hX.seq ae
    .rintro i z a' hk g9 ⟨jU,dP,mO,sV,rfl,hX,qW,k4,Ct,zt,lZ⟩;unfold bM at g9;rw[d0]at g9;obtain⟨r,eB,rfl⟩:=iq.mp g9;obtain⟨d,BA,uG,hd⟩:=bQ.get eB;have LL:cV hs d∈fY hs ds:=cw.mpr ⟨d,f_ BA,rfl⟩;refine⟨_,rfl,_,rfl,r,p,hs,d,jU,dP,rfl,hX _ _ hd,qW,k4,_,rfl,?_⟩;cases wK:xq dP (cV hs d)with
     |false=>
      refine f5 ⟨jU,dP,mO,_,rfl,hX,qW,k4,Ct,zt,?_⟩;rcases lZ with⟨rfl,rfl,aI⟩|lZ
      .refine .inl ⟨rfl,rfl,λj d' bu g8=>?_⟩;by_cases LD:j=i
       .subst LD;rw[BA]at g8;cases g8;exact ajC wK
       .exact aI j d' (by omega) g8
      .exact .inr lZ
     |true=>
      obtain⟨v,av,ft⟩:=akv wK;have j9:dP (S (hs.getD d.a []))=some v:=av;obtain⟨ahQ,dw⟩:=zt.put agz LL (ra uG.b) av ft;have ga:=gu.k (k:=dC (S (hs.getD d.a []))) qW;rw[k4.at_,j9]at ga;have B0:(hs.map S).countP (λk=>(dP k).isSome)<=(hs.map S).length:=IT;rw[cj]at B0;have pT:=hX _ _ hd;refine f6 ?_;refine⟨_,rfl,_,rfl,r,_,_,_,rfl,rfl,cG.of pT,rfl,p,_,rfl,ga,_,rfl,r,_,_,_,rfl,rfl,cG.of pT,rfl,_,_,rfl,rfl,_,rfl,_,rfl,r,_,_,_,rfl,rfl,cG.of pT,rfl,p,_,rfl,n_.k (k:=dC (S (hs.getD d.b []))) qW (en (by omega)),?_⟩;refine⟨_,b2.put dP (cV hs d).b (v+(cV hs d).t),true,_,rfl,fO ay hX,aE,k4.put _ _,?_,ahQ,.inr ⟨rfl,?_⟩⟩
      .cases c6:dP (S (hs.getD d.b []))with
       |none=>
        have aF:(fv jU (dC (S (hs.getD d.b [])):bb) (V.int (v+d.t))).length=jU.length+1:=by rw[zy _ (by rw[k4.at_,c6];rfl),eS];rfl
        have aG:(hs.map S).countP (λk=>(dP k).isSome)<(hs.map S).countP (λk=>(b2.put dP (cV hs d).b (v+(cV hs d).t) k).isSome):=
         b2.Bv (b:=S (hs.getD d.b [])) (λk aD=>by unfold b2.put;split;rfl;exact aD) (by rw[c6];rfl) (by unfold b2.put;rw[bO (show S (hs.getD d.b [])=(cV hs d).b from rfl)];rfl) (ra uG.b)
        exact e1 (A1 aF) (by omega)
       |some u=>
        have aF:(fv jU (dC (S (hs.getD d.b [])):bb) (V.int (v+d.t))).length=jU.length:=O6 _ (by rw[k4.at_,c6];rfl);have aG:(hs.map S).countP (λk=>(dP k).isSome)<=(hs.map S).countP (λk=>(b2.put dP (cV hs d).b (v+(cV hs d).t) k).isSome):=
         b2.count_le (λk aD=>by unfold b2.put;split;rfl;exact aD) _
        exact e1 (A1 aF) (by omega)
      .rcases lZ with⟨_,rfl,_⟩|⟨_,aj⟩
       .exact dw
       .exact A3 dw aj
    .rintro a' hk ⟨jU,dP,mO,sV,rfl,hX,qW,k4,Ct,zt,lZ⟩;refine⟨jU,dP,mO,sV,rfl,hX,qW,k4,Ct,zt,?_⟩;rcases lZ with⟨rfl,rfl,aI⟩|lZ
     .refine .inl ⟨rfl,rfl,λe he=>?_⟩;obtain⟨d,hd,rfl⟩:=cw.mp he;obtain⟨j,bu⟩:=rM hd;refine aI j d ?_ bu;have ai:=(gn.mp bu).1;have aj:=bQ.len;rw[i4];omega
     .exact .inr lZ
end
end c2
namespace b5
open PySem PySem.Spec PyProof.Rows ao
section
variable{X:bx}
noncomputable def aed(cd:e_):e_:=λD σ H=>∃a kvs,H a=some (.cF kvs)/\∀o,cd ⟨λa' H'=>H' a=some (.ed o (.cF kvs))/\D.cp a' (upd H' a (.cF kvs)),λv H'=>H' a=some (.ed o (.cF kvs))/\D.h9 v (upd H' a (.cF kvs)),λa' H'=>H' a=some (.ed o (.cF kvs))/\D.ho a' (upd H' a (.cF kvs)),λa' H'=>H' a=some (.ed o (.cF kvs))/\D.ec a' (upd H' a (.cF kvs))⟩ σ (upd H a (.ed o (.cF kvs)))
theorem abz{st:Stmt}(hs:fM X st cd):fM X st (aed cd):=by
 intro pins s σ H D I h;obtain⟨a,kvs,av,h⟩:=h;have f1:∀xs,X.mw a≠some (.tup xs):=λxs z=>by have:=I.base.fi a xs z;rw[av]at this;cases this
 have f2:∀o v,X.mw a≠some (.ed o v):=λo v z=>by have:=I.base.iT a o v z;rw[av]at this;cases this
 have cS:∀ps,X.mw a≠some (.qb ps):=λps z=>by obtain⟨m,e⟩:=I.base.ji a ps z;rw[av]at e;cases e
 have ok:=I.bj a _ av;obtain⟨z,y,vs,rel,o,es,ep,e,c⟩:=id ok;have aL:Inv X pins σ (upd H a (.ed o (.cF kvs))) s:=H3 I av (by intro _ w;cases w) (by intro _ w;cases w) ⟨e,z,y,vs,rel,o,es,ep,e,c⟩ f1 f2 cS;have back:∀{a':ao.St}{H':af}{s':aO},Inv X pins a' H' s'->H' a=some (.ed o (.cF kvs))->Inv X pins a' (upd H' a (.cF kvs)) s':=λ{a' H' s'}br j'=>by obtain⟨aF,aT,Ad,ajB,aiI,iZ,Kx,Kw,aG,k9⟩:=br.bj a _ j';exact H3 br (u':=.cF kvs) j' (by intro _ w;cases w) (by intro _ w;cases w) ⟨aT,Ad,ajB,aiI,iZ,Kx,Kw,aG,k9⟩ f1 f2 cS
 refine bA (hs pins s σ _ _ aL (h o)) λf s1 q=>?_;cases f with
 |next=>
  obtain⟨a',H',br,j',q⟩:=q;exact⟨a',_,back br j',q⟩
 |brk=>
  obtain⟨a',H',br,j',q⟩:=q;exact⟨a',_,back br j',q⟩
 |cont=>
  obtain⟨a',H',br,j',q⟩:=q;exact⟨a',_,back br j',q⟩
 |ret v=>
  obtain⟨a',x,H',br,cc,j',q⟩:=q;exact⟨a',x,_,back br j',cc,q⟩
noncomputable def A6(a:Addr)(o:Obj)(kvs:List (bb×V)):gm:=
 ⟨λi H=>H a=some (.ed o (.cF kvs))/\i<kvs.length,λi H v H'=>H'=H/\∃k x,v=c0 k/\kvs[i]?=some (k,x),λi H=>H a=some (.ed o (.cF kvs))/\kvs.length<=i⟩
theorem Ps{H:af}{h:Heap}{o:Obj}{kvs:List (bb×V)}(ok:fj P w H h)(av:H a=some (.ed o (.cF kvs))):h.get? a=some o/\(a==kg)=false/\o.ExactDict/\∃es ep,o.data=.dict es ep/\es.size=kvs.length/\
  ∀(i:Nat)(k:bb)(x:V),kvs[i]?=some (k,x)->∃hi:i<es.size,RelV (c0 k) es[i].key:=by
 obtain⟨dm,_,y,vs,rel,cD,es,ep,aF,ax,hd,_,pr,_⟩:=ok a _ av;rw[dm]at aF;cases aF;have gen:∀{kvs:List (bb×V)}{ys:List (bb×Value)}{yP:List pe},gV kvs ys->Pairs (h1 P w) yP ys->yP.length=kvs.length/\∀(i:Nat)(k:bb)(x:V),kvs[i]?=some (k,x)->∃e,yP[i]?=some e/\RelV (c0 k) e.key:=by
  intro kvs ys yP rel pr
  induction pr generalizing kvs with
  |nil=>
   cases rel;exact⟨rfl,λi k x e=>by simp at e⟩
  |@cons e bN yP ys ai aj t a5=>
   cases rel with
   |@cons p q ps o3 a b=>
    obtain⟨l,f⟩:=a5 b;refine⟨by rw[fV,fV,l],λi k x oF=>?_⟩;cases i with
    |zero=>
     simp only[RF,Sq]at oF;refine⟨e,rfl,?_⟩;have aF:bN.1=k:=by rw[<-a.1,oF]
     rw[aF]at ai;rcases qM (show xA k e.key=true from ai)with⟨n,t,rfl,e6⟩|⟨n,t,rfl,e6⟩
     .exact⟨t,e6⟩
     .exact⟨t,e6⟩
    |succ i=>exact f i k x (by simpa using oF)
 obtain⟨l,f⟩:=gen rel pr;refine⟨dm,y,ax,es,ep,hd,by simpa using l,λi k x hi=>?_⟩;obtain⟨e,BB,r⟩:=f i k x hi;obtain⟨ai,aj⟩:=gn.mp BB;have af6:i<es.size:=by simpa using ai
 refine⟨af6,?_⟩;have:es[i]=e:=by simpa using aj
 rw[this];exact r
end
theorem Zh{K:aQ}{o:Obj}{kvs:List (bb×V)}{es:Array pe}{ep:Nat}(a it:Addr)(hd:o.data=.dict es ep):
  Turn P w K dZ (A6 a o kvs) [it] it (λi h=>h.IsKeyIter it a i es.size ep)where
 mem:=by simp
 obj:=λi h st b ae=>by
  obtain rfl:b=it:=by simpa using ae
  obtain⟨o,e,c,d⟩:=st;exact⟨o,e,λv z=>by rw[d]at z;cases z⟩
 keep:=λi h h' st k=>by obtain⟨o,e,r⟩:=st;exact⟨o,k it (by simp) o e,r⟩
 item:=by
  intro X eV hw eP ar i pins s σ H E I bE st bp;subst eV hw eP;obtain⟨av,hi⟩:=bp;obtain⟨go,_,lX,qP,mS,j7,uc,ge⟩:=Ps I.bj av;rw[hd]at j7;cases j7;obtain⟨l2,wg⟩:∃q,kvs[i]?=some q:=⟨_,dW hi⟩
  obtain⟨y3,uN⟩:=ge i l2.1 l2.2 wg;obtain⟨f0,f1,f2,cS,f4,d7⟩:=bE it (by simp);refine abx st ⟨o,go,lX,hd⟩ y3 λh' eJ eE=>?_;have aL:Inv X pins σ H {s with heap:=h'}:=I.turned (t':=s.toks) (λb o ae e=>(eE.2 b ae).trans e) f0 f1 cS f4 d7;obtain⟨CV,e,c,d⟩:=id eJ;exact⟨_,rfl,xy (s:={s with heap:=h'}) e c d (by decide) ⟨c0 l2.1,H,aL,uN,⟨rfl,l2.1,l2.2,rfl,wg⟩,eJ,λb ae=>(bE b ae).1⟩⟩
 done:=by intro X eV hw eP ar i pins s σ H E I bE st bp;subst eV hw eP;obtain⟨av,hi⟩:=bp;obtain⟨go,_,lX,qP,mS,j7,uc,ge⟩:=Ps I.bj av;rw[hd]at j7;cases j7;obtain⟨f0,f1,f2,cS,f4,d7⟩:=bE it (by simp);exact ź (I.ok.hd ar) st ⟨o,go,lX,hd⟩ (by omega) λh' dq=>⟨rfl,I.turned (t':=s.toks) (λb o ae e=>dq b o ae e) f0 f1 cS f4 d7⟩
 self:=λA i s Q E st h=>by have T0:=st.typeIs;refine XE T0 F.slot_dict_keyiterator_iter (m_ F.slot_dict_keyiterator_iter T0 F.entry_dict_keyiterator_iter ?_ (F.args_dict_keyiterator_iter_1 _));exact ba ⟨_,rfl,"dict_keyiterator",_,T0,F.slot_dict_keyiterator_next.lookup,h⟩
section
variable{X:bx}{dZ:Expr}
noncomputable def aci(c1:TE):el:=λσ H R=>c1 σ H λx H1=>∃a o kvs,x=.ref a/\H1 a=some (.ed o (.cF kvs))/\R (A6 a o kvs) H1
theorem ģ(aI:bl X o c1):mE X dZ o (aci c1):=by
 intro pins s σ H R I h;refine bA (aI pins s σ H _ I h) λv s1 hz=>?_;obtain⟨x,H1,aL,cq,a,ob,kvs,ex,av,bw⟩:=hz;subst ex;cases cq;obtain⟨go,La,lX,es,ep,j7,uc,ge⟩:=Ps aL.bj av;refine Ż La ⟨ob,go,lX,j7⟩ ?_;refine⟨s1.heap.objs.size,[s1.heap.objs.size],_,_,H1,rfl,aL.kept (t':=s1.toks) λb o e=>c9 _ e,Zh a _ j7,⟨_,eY _ rfl,rfl,rfl⟩,λb ae=>?_,bw⟩;obtain rfl:b=s1.heap.objs.size:=by simpa using ae
 exact aL.pN (cL _) (aL.bj.fresh (cL _))
theorem Ν{kvs:List (bb×V)}{g:kr}{aA:e_}{D:Ends}{H:af}(Pv:Nat->ao.St->af->Prop)(a8:Pv 0 σ H)(au:∀i σ H,Pv i σ H->H a=some (.ed o (.cF kvs)))(hs:∀i k x σ H,kvs[i]?=some (k,x)->Pv i σ H->g (c0 k) σ H λgA ah=>aA {D with cp:=Pv (i+1),ec:=Pv (i+1),ho:=D.cp} gA ah)(hd:∀σ H,Pv kvs.length σ H->D.cp σ H):
  ∃W:Nat->Nat->ao.St->af->Prop,(∃m,W 0 m σ H)/\∀i m σ H,W i m σ H->
   ((A6 a o kvs).stop i H/\D.cp σ H)\/((A6 a o kvs).go i H/\∃N:ao.St->af->Prop,(∀a' H',N a' H'->∃c4,c4<m/\W (i+1) c4 a' H')/\∀x H',(A6 a o kvs).oi i H x H'->g x σ H' λgA ah=>aA {D with cp:=N,ec:=N,ho:=D.cp} gA ah):=by
 refine⟨λi m σ H=>m=kvs.length-i/\i<=kvs.length/\Pv i σ H,⟨kvs.length,by simp,ej _,a8⟩,?_⟩;rintro i m σ H ⟨rfl,hi,p⟩;have q:=au i σ H p;by_cases dw:i<kvs.length
 .refine .inr ⟨⟨q,dw⟩,Pv (i+1),λa' H' gJ=>⟨kvs.length-(i+1),by omega,rfl,dw,gJ⟩,λv H' y=>?_⟩;obtain⟨rfl,k,x,rfl,e6⟩:=y;exact hs i k x σ H' e6 p
 .have e:i=kvs.length:=by omega
  subst e;exact .inl ⟨⟨q,cL _⟩,hd σ H p⟩
noncomputable abbrev h6(l:Addr):Obj:={cls:=.type "list_iterator",data:=.fields #[.ref l,.int 0 0]}
theorem eN{α β:Type}{M:mC}{E:b6}(c:Sem α){k:α->Sem β}{Q:β->aO->Prop}(h:aN M A c (λa s'=>aN M A (k a) Q E s') E s):aN M A (c >>=k) Q E s:=aq h
theorem Ag{h:Heap}(e:h.get? b=some o):b≠h.objs.size:=eA (c' e)
theorem rg{h:Heap}(e:h.get? b=some o):b≠h.objs.size+1:=eA (vN (c' e))
theorem Ĥ{A:dn}{R:nz->aO->Prop}{b0 wr:c7}{n:Nat}{P:Nat->Value->Prop}{St:Nat->Heap->Prop}{d:Value}(W:tI prog w A.in1 I b0 wr n P St)(d6:iO)(ar:vl prog w A.in1 .Gt P d6)(S:Addr)(hu:S∉b0):
  ∀(k j:Nat)(s:aO)(eK:Value)(c:Nat),n-(j+1)=k->j+1<=n->St (j+1) s.heap->P (eF d6 j) eK->s.heap.get? S=some ⟨.type "list",none,.seq #[eK,eK] c,#[]⟩->
   (∀v h' aH,P (eF d6 (n-1)) v->(∀b o,b∉wr->b≠S->s.heap.get? b=some o->h'.get? b=some o)->R (.ok (.ret v)) {s with heap:=h',toks:=aH})->
   jv (a_ prog w) A (.builtin "max.loop" ⟨[.ref I,.none,.ref S],[(bK "default",d)]⟩) R s:=by
 have wS:S∉wr:=λh=>hu (W.sub _ h);have nm:(toString "max"++toString ".loop":String)="max.loop":=by decide
 intro k
 induction k with
 |zero=>
  intro j s eK c aD bu st g4 fQ bQ;have iy:j+1=n:=by omega
  refine k_ Ba ?_;rw[ml nw _];refine eN (n6 (.ref S)) (kj fQ rfl (eN (tryCatch (gT (.ref I)) _) (kU (W.done s _ _ (iy▸st) λh' aH bG=>?_))));refine eN (xB S (λ_=>#[])) (qn (bG S _ wS fQ) rfl (aq (jI (ba ?_))));exact bQ eK _ aH (by rw[<-iy];exact g4) λb o cn cC e=>(ik _ _ (d3 cC)).trans (bG b o cn e)
 |succ k a5=>
  intro j s eK c aD bu st g4 fQ bQ;have lt:j+1<n:=by omega
  refine k_ Ba ?_;rw[ml nw _];refine eN (n6 (.ref S)) (kj fQ rfl (eN (tryCatch (gT (.ref I)) _) (kU (W.item (j+1) s _ _ lt st λv h' aH aa eJ bG=>?_))));have hq:=bG S _ wS fQ;refine eN (tryCatch (oO [v,v] (NK .Gt v eK >>=_)) _) (kU (jH (aq (ar (j+1) (eF d6 j) v eK _ _ _ aa g4 (aq (jH (nc (aq (jI (ba ?_))))))))));cases ae:d6 (j+1) (eF d6 j)with
  |true=>
   simp only[if_true];refine aq (qn hq rfl (aq (jI ?_)));rw[nm];refine ba ⟨kO nw _,a5 (j+1) _ v _ (by omega) lt (W.frame _ _ _ eJ λb lM o e=>(ik _ _ (λh:S=b=>hu (by rw[h];exact lM))).trans e) (by simp only[eF,ae,if_true];exact aa) (nj _ hq rfl) λv2 aj iI iH iE=>?_⟩;exact bQ v2 aj iI iH λb o cn cC e=>iE b o cn cC ((ik _ _ (d3 cC)).trans (bG b o cn e))
  |false=>
   simp only[rF,if_false];refine aq (jI ?_);rw[nm];exact ba ⟨kO nw _,a5 (j+1) _ eK c (by omega) lt eJ (by simp only[eF,ae,rF,if_false];exact g4) hq λv2 aj iI iH iE=>bQ v2 aj iI iH λb o cn cC e=>iE b o cn cC (bG b o cn e)⟩
theorem Ξ{A:dn}{R:nz->aO->Prop}{b0 wr:c7}{n:Nat}{P:Nat->Value->Prop}{St:Nat->Heap->Prop}(W:tI prog w A.in1 I b0 wr n P St)(d6:iO)(ar:vl prog w A.in1 .Gt P d6)(S:Addr)(hu:S∉b0){s:aO}{c:Nat}(st:St 0 s.heap)(fQ:s.heap.get? S=some ⟨.type "list",none,.seq #[] c,#[]⟩)(a8:n=0->∀h' aH,(∀b o,b∉wr->b≠S->s.heap.get? b=some o->h'.get? b=some o)->R (.ok (.ret d)) {s with heap:=h',toks:=aH})(ai:0<n->∀v h' aH,P (eF d6 (n-1)) v->(∀b o,b∉wr->b≠S->s.heap.get? b=some o->h'.get? b=some o)->R (.ok (.ret v)) {s with heap:=h',toks:=aH}):
  jv (a_ prog w) A (.builtin "max.loop" ⟨[.ref I,.none,.ref S],[(bK "default",d)]⟩) R s:=by
 have wS:S∉wr:=λh=>hu (W.sub _ h);have nm:(toString "max"++toString ".loop":String)="max.loop":=by decide
 refine k_ Ba ?_;rw[ml nw _];refine eN (n6 (.ref S)) (kj fQ rfl ?_);by_cases hz:n=0
 .refine eN (tryCatch (gT (.ref I)) _) (kU (W.done s _ _ (hz▸st) λh' aH bG=>?_));refine aq (u_ (ba ?_));exact a8 hz h' aH λb o cn _ e=>bG b o cn e
 .refine eN (tryCatch (gT (.ref I)) _) (kU (W.item 0 s _ _ (A4 hz) st λv h' aH aa eJ bG=>?_));have hq:=bG S _ wS fQ;refine eN (xB S (λ_=>#[v,v])) (qn hq rfl ?_);rw[nm];refine ba ⟨kO nw _,Ĥ W d6 ar S hu _ 0 _ v _ rfl (A4 hz) (W.frame _ _ _ eJ λb lM o e=>(ik _ _ (λh:S=b=>hu (by rw[h];exact lM))).trans e) aa (nj _ hq rfl) λv2 aj iI iH iE=>?_⟩;exact ai (A4 hz) v2 aj iI iH λb o cn cC e=>iE b o cn cC ((ik _ _ (d3 cC)).trans (bG b o cn e))
theorem Ο(a v:Value):v5 "max" ⟨[a],[(bK "default",v)]⟩:=by unfold v5;kernel_rfl
theorem Đ{A:dn}{E:b6}{s:aO}{items:ks}{val:Nat->Int}{Q:b6}(dh:A.in1.handled=none)(au:s.heap.IsList l items)(a7:∀i v,items[i]?=some v->∃t,v=oB (val i) t)(a8:items.size=0->∀h' aH,(∀b o,s.heap.get? b=some o->h'.get? b=some o)->Q d {s with heap:=h',toks:=aH})(ai:0<items.size->∀t h' aH,(∀b o,s.heap.get? b=some o->h'.get? b=some o)->Q (oB (val (eF (λi j=>decide (val i>val j)) (items.size-1))) t) {s with heap:=h',toks:=aH}):
  aN (a_ prog w) A (call (.builtin "max") [.ref l] [(bK "default",d)]) Q E s:=by
 have nm:(toString "max"++toString ".loop":String)="max.loop":=by decide
 obtain⟨ol,iV,_⟩:=id au;have hI:l≠s.heap.objs.size:=eA (c' iV);refine Jp ŗ ř ŕ (Ο _ _) ?_;refine eN (H8 "max" ["key","default"] 0 ⟨[],[(bK "default",d)]⟩) (oh (show _=pure [none,some d]from rfl) ?_);refine aq (ba ?_);refine aq (u9 au ?_);refine aq (og ?_);rw[nm];have W:=yB (prog:=prog) (w:=w) (A:=A.in1) dh s.heap.objs.size l hI items;have hY:(s.heap.push (h6 l)).objs.size=s.heap.objs.size+1:=pf ..;have dw:=c' iV;have pO:(s.heap.push (h6 l)).get? s.heap.objs.size=some (h6 l):=eY _ rfl;have iB:=au.push (h6 l);have k1:∀b o,s.heap.get? b=some o->(s.heap.push (h6 l)).get? b=some o:=λb o e=>c9 _ e;dsimp only;generalize s.heap.push (h6 l)=wI at hY pO iB k1⊢;refine ba ⟨kO nw _,Ξ W _ (CmpOf.ints_gt val a7) wI.objs.size (by rw[hY];simp only[dX,di,or_false,not_or];exact⟨Ey _,d3 (rg iV)⟩) ⟨⟨_,c9 _ pO,rfl,rfl⟩,iB.push _⟩ (eY _ rfl) (λhz h' aH bG=>?_) λhz v h' aH aa bG=>?_⟩
 .exact a8 hz h' aH λb o e=>bG b o (by simp only[dX,di,or_false];exact Ag e) (by rw[hY];exact rg e) (c9 _ (k1 b o e))
 .obtain⟨fh,rfl⟩:=a7 _ v aa;exact ai hz fh h' aH λb o e=>bG b o (by simp only[dX,di,or_false];exact Ag e) (by rw[hY];exact rg e) (c9 _ (k1 b o e))
theorem đ{A:dn}{R:nz->aO->Prop}{b0 wr:c7}{n:Nat}{P:Nat->Value->Prop}{St:Nat->Heap->Prop}{d:Value}(W:tI prog w A.in1 I b0 wr n P St)(d6:iO)(ar:vl prog w A.in1 .Lt P d6)(S:Addr)(hu:S∉b0):
  ∀(k j:Nat)(s:aO)(eK:Value)(c:Nat),n-(j+1)=k->j+1<=n->St (j+1) s.heap->P (eF d6 j) eK->s.heap.get? S=some ⟨.type "list",none,.seq #[eK,eK] c,#[]⟩->
   (∀v h' aH,P (eF d6 (n-1)) v->(∀b o,b∉wr->b≠S->s.heap.get? b=some o->h'.get? b=some o)->R (.ok (.ret v)) {s with heap:=h',toks:=aH})->
   jv (a_ prog w) A (.builtin "min.loop" ⟨[.ref I,.none,.ref S],[(bK "default",d)]⟩) R s:=by
 have wS:S∉wr:=λh=>hu (W.sub _ h);have nm:(toString "min"++toString ".loop":String)="min.loop":=by decide
 intro k
 induction k with
 |zero=>
  intro j s eK c aD bu st g4 fQ bQ;have iy:j+1=n:=by omega
  refine k_ Bb ?_;rw[ml nx _];refine eN (n6 (.ref S)) (kj fQ rfl (eN (tryCatch (gT (.ref I)) _) (kU (W.done s _ _ (iy▸st) λh' aH bG=>?_))));refine eN (xB S (λ_=>#[])) (qn (bG S _ wS fQ) rfl (aq (jI (ba ?_))));exact bQ eK _ aH (by rw[<-iy];exact g4) λb o cn cC e=>(ik _ _ (d3 cC)).trans (bG b o cn e)
 |succ k a5=>
  intro j s eK c aD bu st g4 fQ bQ;have lt:j+1<n:=by omega
  refine k_ Bb ?_;rw[ml nx _];refine eN (n6 (.ref S)) (kj fQ rfl (eN (tryCatch (gT (.ref I)) _) (kU (W.item (j+1) s _ _ lt st λv h' aH aa eJ bG=>?_))));have hq:=bG S _ wS fQ;refine eN (tryCatch (oO [v,v] (NK .Lt v eK >>=_)) _) (kU (jH (aq (ar (j+1) (eF d6 j) v eK _ _ _ aa g4 (aq (jH (nc (aq (jI (ba ?_))))))))));cases ae:d6 (j+1) (eF d6 j)with
  |true=>
   simp only[if_true];refine aq (qn hq rfl (aq (jI ?_)));rw[nm];refine ba ⟨kO nx _,a5 (j+1) _ v _ (by omega) lt (W.frame _ _ _ eJ λb lM o e=>(ik _ _ (λh:S=b=>hu (by rw[h];exact lM))).trans e) (by simp only[eF,ae,if_true];exact aa) (nj _ hq rfl) λv2 aj iI iH iE=>?_⟩;exact bQ v2 aj iI iH λb o cn cC e=>iE b o cn cC ((ik _ _ (d3 cC)).trans (bG b o cn e))
  |false=>
   simp only[rF,if_false];refine aq (jI ?_);rw[nm];exact ba ⟨kO nx _,a5 (j+1) _ eK c (by omega) lt eJ (by simp only[eF,ae,rF,if_false];exact g4) hq λv2 aj iI iH iE=>bQ v2 aj iI iH λb o cn cC e=>iE b o cn cC (bG b o cn e)⟩
theorem Ρ{A:dn}{R:nz->aO->Prop}{b0 wr:c7}{n:Nat}{P:Nat->Value->Prop}{St:Nat->Heap->Prop}(W:tI prog w A.in1 I b0 wr n P St)(d6:iO)(ar:vl prog w A.in1 .Lt P d6)(S:Addr)(hu:S∉b0){s:aO}{c:Nat}(st:St 0 s.heap)(fQ:s.heap.get? S=some ⟨.type "list",none,.seq #[] c,#[]⟩)(a8:n=0->∀h' aH,(∀b o,b∉wr->b≠S->s.heap.get? b=some o->h'.get? b=some o)->R (.ok (.ret d)) {s with heap:=h',toks:=aH})(ai:0<n->∀v h' aH,P (eF d6 (n-1)) v->(∀b o,b∉wr->b≠S->s.heap.get? b=some o->h'.get? b=some o)->R (.ok (.ret v)) {s with heap:=h',toks:=aH}):
  jv (a_ prog w) A (.builtin "min.loop" ⟨[.ref I,.none,.ref S],[(bK "default",d)]⟩) R s:=by
 have wS:S∉wr:=λh=>hu (W.sub _ h);have nm:(toString "min"++toString ".loop":String)="min.loop":=by decide
 refine k_ Bb ?_;rw[ml nx _];refine eN (n6 (.ref S)) (kj fQ rfl ?_);by_cases hz:n=0
 .refine eN (tryCatch (gT (.ref I)) _) (kU (W.done s _ _ (hz▸st) λh' aH bG=>?_));refine aq (u_ (ba ?_));exact a8 hz h' aH λb o cn _ e=>bG b o cn e
 .refine eN (tryCatch (gT (.ref I)) _) (kU (W.item 0 s _ _ (A4 hz) st λv h' aH aa eJ bG=>?_));have hq:=bG S _ wS fQ;refine eN (xB S (λ_=>#[v,v])) (qn hq rfl ?_);rw[nm];refine ba ⟨kO nx _,đ W d6 ar S hu _ 0 _ v _ rfl (A4 hz) (W.frame _ _ _ eJ λb lM o e=>(ik _ _ (λh:S=b=>hu (by rw[h];exact lM))).trans e) aa (nj _ hq rfl) λv2 aj iI iH iE=>?_⟩;exact ai (A4 hz) v2 aj iI iH λb o cn cC e=>iE b o cn cC ((ik _ _ (d3 cC)).trans (bG b o cn e))
theorem Τ(a v:Value):v5 "min" ⟨[a],[(bK "default",v)]⟩:=by unfold v5;kernel_rfl
theorem Ē{A:dn}{E:b6}{s:aO}{items:ks}{val:Nat->Int}{Q:b6}(dh:A.in1.handled=none)(au:s.heap.IsList l items)(a7:∀i v,items[i]?=some v->∃t,v=oB (val i) t)(a8:items.size=0->∀h' aH,(∀b o,s.heap.get? b=some o->h'.get? b=some o)->Q d {s with heap:=h',toks:=aH})(ai:0<items.size->∀t h' aH,(∀b o,s.heap.get? b=some o->h'.get? b=some o)->Q (oB (val (eF (λi j=>decide (val i<val j)) (items.size-1))) t) {s with heap:=h',toks:=aH}):
  aN (a_ prog w) A (call (.builtin "min") [.ref l] [(bK "default",d)]) Q E s:=by
 have nm:(toString "min"++toString ".loop":String)="min.loop":=by decide
 obtain⟨ol,iV,_⟩:=id au;have hI:l≠s.heap.objs.size:=eA (c' iV);refine Jp Ř Ś Ŗ (Τ _ _) ?_;refine eN (H8 "min" ["key","default"] 0 ⟨[],[(bK "default",d)]⟩) (oh (show _=pure [none,some d]from rfl) ?_);refine aq (ba ?_);refine aq (u9 au ?_);refine aq (og ?_);rw[nm];have W:=yB (prog:=prog) (w:=w) (A:=A.in1) dh s.heap.objs.size l hI items;have hY:(s.heap.push (h6 l)).objs.size=s.heap.objs.size+1:=pf ..;have dw:=c' iV;have pO:(s.heap.push (h6 l)).get? s.heap.objs.size=some (h6 l):=eY _ rfl;have iB:=au.push (h6 l);have k1:∀b o,s.heap.get? b=some o->(s.heap.push (h6 l)).get? b=some o:=λb o e=>c9 _ e;dsimp only;generalize s.heap.push (h6 l)=wI at hY pO iB k1⊢;refine ba ⟨kO nx _,Ρ W _ (CmpOf.ints_lt val a7) wI.objs.size (by rw[hY];simp only[dX,di,or_false,not_or];exact⟨Ey _,d3 (rg iV)⟩) ⟨⟨_,c9 _ pO,rfl,rfl⟩,iB.push _⟩ (eY _ rfl) (λhz h' aH bG=>?_) λhz v h' aH aa bG=>?_⟩
 .exact a8 hz h' aH λb o e=>bG b o (by simp only[dX,di,or_false];exact Ag e) (by rw[hY];exact rg e) (c9 _ (k1 b o e))
 .obtain⟨fh,rfl⟩:=a7 _ v aa;exact ai hz fh h' aH λb o e=>bG b o (by simp only[dX,di,or_false];exact Ag e) (by rw[hY];exact rg e) (c9 _ (k1 b o e))
noncomputable def W3(K:aQ)(f:List Int->Int)(t:fo)(c1:TE):TE:=λσ H Q=>t σ H λvs H1=>l4 c1 AD σ H1 λzs ah=>∃yL a ns,zs=[yL]/\vs=[.ref a]/\aJ K ah a (ns.map V.int)/\(ns=[]->Q yL ah)/\(ns≠[]->Q (.int (f ns)) ah)
theorem QY{val:Nat->Int}:∀k,eF (λi j=>decide (val i>val j)) k<=k/\∀j,j<=k->val j<=val (eF (λi j=>decide (val i>val j)) k)
 |0=>⟨cL _,λj h=>by rw[Ę.mp h];exact nq _⟩
 |k+1=>by
  obtain⟨a,b⟩:=QY (val:=val) k;simp only[eF];by_cases h:val (k+1)>val (eF (λi j=>decide (val i>val j)) k)
  .rw[bO (b4 h)];refine⟨cL _,λj bu=>?_⟩;rcases vM j (k+1)with ai|ai
   .exact Ee (b j (by omega)) (IG h)
   .rw[show j=k+1 by omega];exact nq _
  .rw[bz (by rw[cM h];exact ei)];refine⟨by omega,λj bu=>?_⟩;rcases vM j (k+1)with ai|ai
   .exact b j (by omega)
   .rw[show j=k+1 by omega];omega
theorem P4{val:Nat->Int}:∀k,eF (λi j=>decide (val i<val j)) k<=k/\∀j,j<=k->val (eF (λi j=>decide (val i<val j)) k)<=val j
 |0=>⟨cL _,λj h=>by rw[Ę.mp h];exact nq _⟩
 |k+1=>by
  obtain⟨a,b⟩:=P4 (val:=val) k;simp only[eF];by_cases h:val (k+1)<val (eF (λi j=>decide (val i<val j)) k)
  .rw[bO (b4 h)];refine⟨cL _,λj bu=>?_⟩;rcases vM j (k+1)with ai|ai
   .exact Ee (IG h) (b j (by omega))
   .rw[show j=k+1 by omega];exact nq _
  .rw[bz (by rw[cM h];exact ei)];refine⟨by omega,λj bu=>?_⟩;rcases vM j (k+1)with ai|ai
   .exact b j (by omega)
   .rw[show j=k+1 by omega];omega
noncomputable def oZ(ns:jM):Int:=ns.getD (eF (λi j=>decide (ns.getD i 0>ns.getD j 0)) (ns.length-1)) 0
theorem acj:h0 "max"=some (.builtin "max"):=by decide+kernel
end
theorem aaP{X:bx}{p b3:Pos}{t:fo}(ar:X.calm=true)(bp:ij X "max")(hm:X.mg "max"=none)(av:fl X [e] t)(hd:bl X aG c1)(pQ:(kv pos (kI [⟨some "default",aG,b3⟩] X.env)).all (·.1.isSome)=true:=by rfl)(LG:(kv pos (kI [⟨some "default",aG,b3⟩] X.env)).filterMap (·.1)=[bK "default"]:=by rfl)(he:dt [e] X.env=(false,eval e X.env)::dt [] X.env:=by rfl)(fg:(gX pos (dt [e] X.env)).any (·.1)=false:=by rfl)(LH:(kv pos (kI [⟨some "default",aG,b3⟩] X.env)).any (·.1.isNone)=false:=by rfl):
  bl X (.Call (.Name "max" p) [e] [⟨some "default",aG,b3⟩] pos) (W3 X.K oZ t c1):=by
 intro pins s σ H Q I h;refine xH (rb I bp hm acj ?_ (by decide) (by decide));refine afm fg LH (evalArgs_kw2 pQ (bA (av pos pins s σ H _ I h) λus s1⟨vs,H1,aL,r,q⟩=>bA ((Qs hd Q9) pos pins s1 σ H1 _ aL q) λws s2 hz=>?_) he);obtain⟨zs,ah,br,xp,cH⟩:=hz;obtain⟨yL,a,ns,rfl,rfl,bo,C6,bw⟩:=cH;obtain⟨u,rfl,dF⟩:=vals1 r;obtain⟨d8,rfl,dS⟩:=vals1 xp;cases dF;rw[LG];obtain⟨its,cc,pl,hz⟩:=br.list bo;have hlen:ns.length=its.length:=by have:=cc.length;rwa [cj]at this
 refine Đ (val:=λi=>ns.getD i 0) (items:=its.toArray) (br.ok.hd ar) pl.isList (λi v ev=>?_) (λz h' aH bG=>?_) λz t h' aH bG=>?_
 .have oI:its[i]?=some v:=by simpa using ev
  have hi:i<ns.length:=by rw[hlen];exact(gn.mp oI).1
  obtain⟨u',bB,cT⟩:=cc.get (x:=V.int (ns.getD i 0)) (i:=i) (by rw[d0,dW hi];simp[eb,hi]);rw[oI]at bB;cases bB;exact cT
 .have cZ:ns=[]:=Em.mp (by rw[hlen];simpa using z);exact⟨yL,ah,br.kept bG,dS,C6 cZ⟩
 .have cZ:ns≠[]:=λe=>by rw[e]at hlen;have:its=[]:=Em.mp hlen.symm;rw[this]at z;simp at z
  refine⟨.int (oZ ns),ah,br.kept bG,⟨t,?_⟩,bw cZ⟩;unfold oZ;rw[hlen];simp
noncomputable def nY(ns:jM):Int:=ns.getD (eF (λi j=>decide (ns.getD i 0<ns.getD j 0)) (ns.length-1)) 0
theorem ack:h0 "min"=some (.builtin "min"):=by decide+kernel
theorem aaQ{X:bx}{p b3:Pos}{t:fo}(ar:X.calm=true)(bp:ij X "min")(hm:X.mg "min"=none)(av:fl X [e] t)(hd:bl X aG c1)(pQ:(kv pos (kI [⟨some "default",aG,b3⟩] X.env)).all (·.1.isSome)=true:=by rfl)(LG:(kv pos (kI [⟨some "default",aG,b3⟩] X.env)).filterMap (·.1)=[bK "default"]:=by rfl)(he:dt [e] X.env=(false,eval e X.env)::dt [] X.env:=by rfl)(fg:(gX pos (dt [e] X.env)).any (·.1)=false:=by rfl)(LH:(kv pos (kI [⟨some "default",aG,b3⟩] X.env)).any (·.1.isNone)=false:=by rfl):
  bl X (.Call (.Name "min" p) [e] [⟨some "default",aG,b3⟩] pos) (W3 X.K nY t c1):=by
 intro pins s σ H Q I h;refine xH (rb I bp hm ack ?_ (by decide) (by decide));refine afm fg LH (evalArgs_kw2 pQ (bA (av pos pins s σ H _ I h) λus s1⟨vs,H1,aL,r,q⟩=>bA ((Qs hd Q9) pos pins s1 σ H1 _ aL q) λws s2 hz=>?_) he);obtain⟨zs,ah,br,xp,cH⟩:=hz;obtain⟨yL,a,ns,rfl,rfl,bo,C6,bw⟩:=cH;obtain⟨u,rfl,dF⟩:=vals1 r;obtain⟨d8,rfl,dS⟩:=vals1 xp;cases dF;rw[LG];obtain⟨its,cc,pl,hz⟩:=br.list bo;have hlen:ns.length=its.length:=by have:=cc.length;rwa [cj]at this
 refine Ē (val:=λi=>ns.getD i 0) (items:=its.toArray) (br.ok.hd ar) pl.isList (λi v ev=>?_) (λz h' aH bG=>?_) λz t h' aH bG=>?_
 .have oI:its[i]?=some v:=by simpa using ev
  have hi:i<ns.length:=by rw[hlen];exact(gn.mp oI).1
  obtain⟨u',bB,cT⟩:=cc.get (x:=V.int (ns.getD i 0)) (i:=i) (by rw[d0,dW hi];simp[eb,hi]);rw[oI]at bB;cases bB;exact cT
 .have cZ:ns=[]:=Em.mp (by rw[hlen];simpa using z);exact⟨yL,ah,br.kept bG,dS,C6 cZ⟩
 .have cZ:ns≠[]:=λe=>by rw[e]at hlen;have:its=[]:=Em.mp hlen.symm;rw[this]at z;simp at z
  refine⟨.int (nY ns),ah,br.kept bG,⟨t,?_⟩,bw cZ⟩;unfold nY;rw[hlen];simp
theorem alq{ns:jM}(h:ns≠[]):oZ ns∈ns/\∀x∈ns,x<=oZ ns:=by
 have ay:0<ns.length:=En.mpr h;obtain⟨a,b⟩:=QY (val:=λi=>ns.getD i 0) (ns.length-1);have hi:eF (λi j=>decide (ns.getD i 0>ns.getD j 0)) (ns.length-1)<ns.length:=by omega
 refine⟨?_,λx ax=>?_⟩
 .unfold oZ;rw[eb,dW hi];exact qy hi
 .obtain⟨j,bu,rfl⟩:=I4.mp ax;have:=b j (by omega);have e:ns.getD j 0=ns[j]:=by rw[eb,dW bu];rfl
  rw[<-e];exact this
theorem R5{ns:jM}(h:ns≠[]):nY ns∈ns/\∀x∈ns,nY ns<=x:=by
 have ay:0<ns.length:=En.mpr h;obtain⟨a,b⟩:=P4 (val:=λi=>ns.getD i 0) (ns.length-1);have hi:eF (λi j=>decide (ns.getD i 0<ns.getD j 0)) (ns.length-1)<ns.length:=by omega
 refine⟨?_,λx ax=>?_⟩
 .unfold nY;rw[eb,dW hi];exact qy hi
 .obtain⟨j,bu,rfl⟩:=I4.mp ax;have:=b j (by omega);have e:ns.getD j 0=ns[j]:=by rw[eb,dW bu];rfl
  rw[<-e];exact this
theorem Υ{A:dn}{R:nz->aO->Prop}{b0 wr:c7}{n:Nat}{P:Nat->Value->Prop}{St:Nat->Heap->Prop}(W:tI prog w A.in1 I b0 wr n P St)(d6:iO)(ar:vl prog w A.in1 .Lt P d6)(S:Addr)(hu:S∉b0):
  ∀(k j:Nat)(s:aO)(eK:Value)(c:Nat),n-(j+1)=k->j+1<=n->St (j+1) s.heap->P (eF d6 j) eK->s.heap.get? S=some ⟨.type "list",none,.seq #[eK,eK] c,#[]⟩->
   (∀v h' aH,P (eF d6 (n-1)) v->(∀b o,b∉wr->b≠S->s.heap.get? b=some o->h'.get? b=some o)->R (.ok (.ret v)) {s with heap:=h',toks:=aH})->
   jv (a_ prog w) A (.builtin "min.loop" ⟨[.ref I,.none,.ref S],[]⟩) R s:=by
 have wS:S∉wr:=λh=>hu (W.sub _ h);have nm:(toString "min"++toString ".loop":String)="min.loop":=by decide
 intro k
 induction k with
 |zero=>
  intro j s eK c aD bu st g4 fQ bQ;have iy:j+1=n:=by omega
  refine k_ Bb ?_;rw[ml nx _];refine eN (n6 (.ref S)) (kj fQ rfl (eN (tryCatch (gT (.ref I)) _) (kU (W.done s _ _ (iy▸st) λh' aH bG=>?_))));refine eN (xB S (λ_=>#[])) (qn (bG S _ wS fQ) rfl (aq (jI (ba ?_))));exact bQ eK _ aH (by rw[<-iy];exact g4) λb o cn cC e=>(ik _ _ (d3 cC)).trans (bG b o cn e)
 |succ k a5=>
  intro j s eK c aD bu st g4 fQ bQ;have lt:j+1<n:=by omega
  refine k_ Bb ?_;rw[ml nx _];refine eN (n6 (.ref S)) (kj fQ rfl (eN (tryCatch (gT (.ref I)) _) (kU (W.item (j+1) s _ _ lt st λv h' aH aa eJ bG=>?_))));have hq:=bG S _ wS fQ;refine eN (tryCatch (oO [v,v] (NK .Lt v eK >>=_)) _) (kU (jH (aq (ar (j+1) (eF d6 j) v eK _ _ _ aa g4 (aq (jH (nc (aq (jI (ba ?_))))))))));cases ae:d6 (j+1) (eF d6 j)with
  |true=>
   simp only[if_true];refine aq (qn hq rfl (aq (jI ?_)));rw[nm];refine ba ⟨kO nx _,a5 (j+1) _ v _ (by omega) lt (W.frame _ _ _ eJ λb lM o e=>(ik _ _ (λh:S=b=>hu (by rw[h];exact lM))).trans e) (by simp only[eF,ae,if_true];exact aa) (nj _ hq rfl) λv2 aj iI iH iE=>?_⟩;exact bQ v2 aj iI iH λb o cn cC e=>iE b o cn cC ((ik _ _ (d3 cC)).trans (bG b o cn e))
  |false=>
   simp only[rF,if_false];refine aq (jI ?_);rw[nm];exact ba ⟨kO nx _,a5 (j+1) _ eK c (by omega) lt eJ (by simp only[eF,ae,rF,if_false];exact g4) hq λv2 aj iI iH iE=>bQ v2 aj iI iH λb o cn cC e=>iE b o cn cC (bG b o cn e)⟩
theorem Zi{A:dn}{R:nz->aO->Prop}{b0 wr:c7}{n:Nat}{P:Nat->Value->Prop}{St:Nat->Heap->Prop}(W:tI prog w A.in1 I b0 wr n P St)(d6:iO)(ar:vl prog w A.in1 .Lt P d6)(S:Addr)(hu:S∉b0){s:aO}{c:Nat}(st:St 0 s.heap)(fQ:s.heap.get? S=some ⟨.type "list",none,.seq #[] c,#[]⟩)(hz:0<n)(ai:∀v h' aH,P (eF d6 (n-1)) v->(∀b o,b∉wr->b≠S->s.heap.get? b=some o->h'.get? b=some o)->R (.ok (.ret v)) {s with heap:=h',toks:=aH}):
  jv (a_ prog w) A (.builtin "min.loop" ⟨[.ref I,.none,.ref S],[]⟩) R s:=by
 have wS:S∉wr:=λh=>hu (W.sub _ h);have nm:(toString "min"++toString ".loop":String)="min.loop":=by decide
 refine k_ Bb ?_;rw[ml nx _];refine eN (n6 (.ref S)) (kj fQ rfl ?_);refine eN (tryCatch (gT (.ref I)) _) (kU (W.item 0 s _ _ hz st λv h' aH aa eJ bG=>?_));have hq:=bG S _ wS fQ;refine eN (xB S (λ_=>#[v,v])) (qn hq rfl ?_);rw[nm];refine ba ⟨kO nx _,Υ W d6 ar S hu _ 0 _ v _ rfl hz (W.frame _ _ _ eJ λb lM o e=>(ik _ _ (λh:S=b=>hu (by rw[h];exact lM))).trans e) aa (nj _ hq rfl) λv2 aj iI iH iE=>?_⟩;exact ai v2 aj iI iH λb o cn cC e=>iE b o cn cC ((ik _ _ (d3 cC)).trans (bG b o cn e))
theorem Φ(a:Value):v5 "min" ⟨[a],[]⟩:=by unfold v5;kernel_rfl
theorem ē{A:dn}{E:b6}{s:aO}{items:ks}{val:Nat->Int}{Q:b6}(dh:A.in1.handled=none)(au:s.heap.IsList l items)(a7:∀i v,items[i]?=some v->∃t,v=oB (val i) t)(hz:0<items.size)(ai:∀t h' aH,(∀b o,s.heap.get? b=some o->h'.get? b=some o)->Q (oB (val (eF (λi j=>decide (val i<val j)) (items.size-1))) t) {s with heap:=h',toks:=aH}):
  aN (a_ prog w) A (call (.builtin "min") [.ref l] []) Q E s:=by
 have nm:(toString "min"++toString ".loop":String)="min.loop":=by decide
 obtain⟨ol,iV,_⟩:=id au;have hI:l≠s.heap.objs.size:=eA (c' iV);refine Jp Ř Ś Ŗ (Φ _) ?_;refine eN (H8 "min" ["key","default"] 0 ⟨[],[]⟩) (oh (show _=pure [none,none]from rfl) ?_);refine aq (ba ?_);refine aq (u9 au ?_);refine aq (og ?_);rw[nm];have W:=yB (prog:=prog) (w:=w) (A:=A.in1) dh s.heap.objs.size l hI items;have hY:(s.heap.push (h6 l)).objs.size=s.heap.objs.size+1:=pf ..;have dw:=c' iV;have pO:(s.heap.push (h6 l)).get? s.heap.objs.size=some (h6 l):=eY _ rfl;have iB:=au.push (h6 l);have k1:∀b o,s.heap.get? b=some o->(s.heap.push (h6 l)).get? b=some o:=λb o e=>c9 _ e;dsimp only;generalize s.heap.push (h6 l)=wI at hY pO iB k1⊢;refine ba ⟨kO nx _,Zi W _ (CmpOf.ints_lt val a7) wI.objs.size (by rw[hY];simp only[dX,di,or_false,not_or];exact⟨Ey _,d3 (rg iV)⟩) ⟨⟨_,c9 _ pO,rfl,rfl⟩,iB.push _⟩ (eY _ rfl) hz λv h' aH aa bG=>?_⟩;obtain⟨fh,rfl⟩:=a7 _ v aa;exact ai fh h' aH λb o e=>bG b o (by simp only[dX,di,or_false];exact Ag e) (by rw[hY];exact rg e) (c9 _ (k1 b o e))
theorem Oi{X:bx}(ar:X.calm=true):jc X (.builtin "min") (λxs H Q=>∃a ns,xs=[.ref a]/\aJ X.K H a (ns.map V.int)/\ns≠[]/\Q (.int (nY ns)) H):=by
 intro pins s σ H xs us Q I r h;obtain⟨a,ns,rfl,bo,cZ,q⟩:=h;obtain⟨u,rfl,dF⟩:=vals1 r;cases dF;obtain⟨its,cc,pl,hz⟩:=I.list bo;have hlen:ns.length=its.length:=by have:=cc.length;rwa [cj]at this
 refine ē (val:=λi=>ns.getD i 0) (items:=its.toArray) (I.ok.hd ar) pl.isList (λi v ev=>?_) (by rw[gp,<-hlen];exact En.mpr cZ) λt h' aH bG=>?_
 .have oI:its[i]?=some v:=by simpa using ev
  have hi:i<ns.length:=by rw[hlen];exact(gn.mp oI).1
  obtain⟨u',bB,cT⟩:=cc.get (x:=V.int (ns.getD i 0)) (i:=i) (by rw[d0,dW hi];simp[eb,hi]);rw[oI]at bB;cases bB;exact cT
 .refine⟨.int (nY ns),H,I.kept bG,⟨t,?_⟩,q⟩;unfold nY;rw[hlen];simp
end b5
namespace c2
open PySem ao b5 cQ
noncomputable def TabAt(H:af)(p:Addr)(D:hP):Prop:=∃kvs,fm H p (.cF kvs)/\Tab kvs D
theorem TabAt.get{D:hP}(T:TabAt H p D)(g:Str):gu H p (.str g) ((D g).map V.int):=by obtain⟨kvs,r,t⟩:=T;exact .inl ⟨kvs,dC g,r,rfl,(t.at_ g).symm⟩
noncomputable def v8(Da Db:hP)(g:Str)(t:Int):Bool:=match Db g with
 |none=>false
 |some u=>decide (some (t+u)=Da g)
inductive Tg(vs:aR)(H:af)(Q:a4)(gK:bP):Prop where
 |mk (r f iG g4:Addr) (hs:bt) (d:cQ.fm) (kvs:List (bb×ao.V)) (g:Str) (Da Db:hP) (aT:vs=[.ref r,.ref f,.str g]) (aP:H r=some (.tup (lA hs d))) (bh:H f=some (.cF kvs)) (cf:b_ kvs (dC (S (hs.getD d.a [])):bb)=some (.ref iG)) (cP:b_ kvs (dC (S (hs.getD d.b [])):bb)=some (.ref g4)) (dM:TabAt H iG Da) (gk:TabAt H g4 Db) (ic:(∀u,Db g=some u->∃v,Da g=some v)) (qo:Q (.aM (v8 Da Db g d.t)) H)
noncomputable abbrev fK(hs:bt)(ds:dc)(h:Str):Str->Option Int:=λg=>b2.dist (fY hs ds) h g
noncomputable def Dr(hs:bt)(ds:dc)(i:Int):Str:=S (hs.getD (ds.getD i.toNat fp).b [])
noncomputable def s4(hs:bt)(ds:dc)(h g:Str)(i:Int):Bool:=v8 (fK hs ds h) (fK hs ds (Dr hs ds i)) g (ds.getD i.toNat fp).t
noncomputable def fit(hs:bt)(ds:dc)(h g:Str):List Int:=(jG hs ds (·.a) h).filter (s4 hs ds h g)
noncomputable def best(hs:bt)(ds:dc)(h g:Str):Int:=nY (fit hs ds h g)
theorem Iu(fZ:∀e∈fY hs ds,1<=e.t){v:Int}(a7:fK hs ds h g=some v)(aX:h≠g):fit hs ds h g≠[]:=by
 obtain⟨_,e,he,u,aS,lS,ev⟩:=(b2.wm fZ g).other fZ aX a7;obtain⟨d,hd,rfl⟩:=cw.mp he;obtain⟨i,hi⟩:=rM hd;have au:=(gn.mp hi).1;have dm:ds.getD i fp=d:=zO hi;refine ò (a:=(i:Int)) (ph.mpr ⟨?_,?_⟩)
 .unfold jG Dy;refine cw.mpr ⟨i,ph.mpr ⟨rN.mpr au,?_⟩,rfl⟩;have Fm:S (hs.getD d.a [])=h:=aS;rw[dm,Fm];exact b4 rfl
 .unfold s4 v8 Dr;rw[qw,dm];have afK:fK hs ds (S (hs.getD d.b [])) g=some u:=lS;have oI:v=u+d.t:=ev;rw[afK,a7];refine b4 ?_;congr 1;omega
theorem P5(fZ:∀e∈fY hs ds,1<=e.t){g:Str}{v:Int}(a7:fK hs ds h g=some v)(aX:h≠g):best hs ds h g∈jG hs ds (·.a) h/\s4 hs ds h g (best hs ds h g)=true:=
 ph.mp (R5 (Iu fZ a7 aX)).1
structure pb(i3:Str->Str->Int)(L:ck)(kvs:hA)(M:Str->Str->Prop):Prop where
 yes:∀h g,M h g->b_ kvs (dy h g)=some (.int (i3 h g))
 no:∀h g,¬M h g->b_ kvs (dy h g)=none
 key:∀k∈kvs.map (·.1),∃h g,k=dy h g/\h∈L/\g∈L
 aC:(kvs.map (·.1)).Nodup
theorem DC{h' g':Str}(e:dy h g=dy h' g'):h=h'/\g=g':=by unfold dy at e;simp only[á,aa4,and_true]at e;exact e
theorem P6{κ:Type}[DecidableEq κ]{kvs:List (κ×ao.V)}{k:κ}(v:ao.V)(h:b_ kvs k=some u):(fv kvs k v).map (·.1)=kvs.map (·.1):=by unfold fv;rw[bO (by rw[oM,h];rfl),jK];refine AL λq _=>?_;show(if q.1=k then(q.1,v)else q).1=q.1;split<;>rfl
theorem pb.put{i3:Str->Str->Int}{L:ck}{kvs:hA}{M:Str->Str->Prop}(B:pb i3 L kvs M){h g:Str}(dh:h∈L)(bp:g∈L):pb i3 L (fv kvs (dy h g) (.int (i3 h g))) (λh' g'=>M h' g'\/(h'=h/\g'=g)):=by
 refine⟨λh' g' m=>?_,λh' g' m=>?_,?_,?_⟩
 .rw[zx];by_cases e:dy h' g'=dy h g
  .obtain⟨rfl,rfl⟩:=DC e;rw[bO rfl]
  .rw[bz e];refine B.yes h' g' (m.resolve_right λz=>e ?_);rw[z.1,z.2]
 .rw[zx,bz λe=>m (.inr (DC e))];exact B.no h' g' λz=>m (.inl z)
 .intro k aD;cases a7:b_ kvs (dy h g)with
  |none=>
   rw[zy _ a7,fk]at aD;rcases ip.mp aD with z|z
   .exact B.key k z
   .exact⟨h,g,gW.mp z,dh,bp⟩
  |some u=>
   rw[P6 _ a7]at aD;exact B.key k aD
 .cases a7:b_ kvs (dy h g)with
  |none=>exact PP _ B.aC a7
  |some u=>rw[P6 _ a7];exact B.aC
theorem pb.iff{i3:Str->Str->Int}{L:ck}{kvs:hA}{M RT:Str->Str->Prop}(B:pb i3 L kvs M)(e:∀h g,M h g↔RT h g):pb i3 L kvs RT:=
 ⟨λh g m=>B.yes h g ((e h g).mpr m),λh g m=>B.no h g λz=>m ((e h g).mp z),B.key,B.aC⟩
theorem pb.cN{i3:Str->Str->Int}{L:ck}{kvs:hA}{M:Str->Str->Prop}(B:pb i3 L kvs M)(au:L.length<=12):kvs.length<=144:=by
 have ai:=zp (L:=L.flatMap λh=>L.map (dy h)) B.aC λk aD=>by obtain⟨h,g,rfl,dh,bp⟩:=B.key k aD;exact I3.mpr ⟨h,dh,cw.mpr ⟨g,bp,rfl⟩⟩
 have aj:(L.flatMap λh=>L.map (dy h)).length=L.length*L.length:=by simp[î,List.map_const']
 rw[aj,cj]at ai;exact e1 ai (R7 au au)
theorem aaR(az:aB H H')(z:hN):aB (upd H a z) (upd H' a z):=λb o e=>by
 by_cases ae:b=a
 .rw[ae,aE]at e⊢;exact e
 .rw[aV ae]at e⊢;exact az b o e
theorem Ĕ{H:af}(av:H a=some u)(az:aB (upd H a z) H'):aB H (upd H' a u):=λb o e=>by
 by_cases ae:b=a
 .rw[ae,aE];rw[ae,av]at e;exact e
 .rw[aV ae];exact az b o (by rw[aV ae];exact e)
section
variable{P:cA}{w:bU}{K:aQ}{mg:b9}{base:Heap}
noncomputable abbrev EX:Stmt:=top 60
theorem Th:de ["road","far_from","goal","behind"] AP (cy EX):={}
theorem acm{f:Addr}(F:cz K "begins_shortest" "begins_shortest" EX f fd):aK P w K mg base bq 1 f fd AP Tg:=by
 refine F.ok Th (λ_ A _ s H vs Q E al h=>?_)
 .obtain⟨r,wh,iG,g4,hs,d,kvs,g,Da,Db,rfl,bQ,bE,HH,eK,rX,Bl,a7,q⟩:=h;refine⟨_,(a9 (c8 (i:=3) Th.aC rfl (ct rfl) (Ot (gs al) (nS (gs al) (aa 1) (cU fe (aa 0) bc (λ_ _=>rfl)) (λ_ _=>rfl)) (aa 2) ⟨rfl,rfl,rfl,rfl⟩))
   (bg (cm (hF (jP Ń (aa 3) oT (dE _)) (kA (jP jd (b7 oU (cU fe (aa 0) bc (λ_ _=>rfl)) (aa 3)) (nS (gs al) (nS (gs al) (aa 1) (cU fe (aa 0) bc (λ_ _=>rfl)) (λ_ _=>rfl)) (aa 2) (λ_ _=>rfl)) (dE _))))))),?_⟩
  have ga:=gu.k (k:=dC (S (hs.getD d.a []))) bE;have jB:=gu.k (k:=dC (S (hs.getD d.b []))) bE;rw[HH]at ga;rw[eK]at jB;have bW:=rX.get g;have aA:=Bl.get g;unfold v8 at q;have jS:Ax H g4:=by obtain⟨Mq,h8,_⟩:=Bl;exact .inl ⟨Mq,h8⟩
  refine⟨_,rfl,_,rfl,r,_,_,_,rfl,rfl,cG.of bQ,rfl,wh,_,rfl,jB,g4,rfl,jS,_,rfl,_,aA,_,rfl,?_⟩;cases ae:Db g with
  |none=>
   rw[ae]at q;exact⟨rfl,_,rfl,c3 (by decide) q⟩
  |some u=>
   rw[ae]at q;obtain⟨v,a7⟩:=a7 u ae;have UR:=bW;rw[a7]at UR q;refine⟨rfl,_,rfl,cY (by simp) ⟨_,rfl,r,_,_,_,rfl,rfl,cG.of bQ,rfl,_,rfl,_,_,rfl,rfl,_,rfl,_,rfl,r,_,_,_,rfl,rfl,cG.of bQ,rfl,wh,_,rfl,ga,_,rfl,iG,_,rfl,UR,rfl,?_⟩⟩;have BB:decide (V.int (d.t+u)=V.int v)=decide (some ((d.t:Int)+u)=some v):=by simp
   rw[BB];exact q
theorem P8{hs:bt}{y:Str}(h:y∈hs.map S):inD (.str y) (bF hs)=true:=by
 obtain⟨x,ax,rfl⟩:=cw.mp h;obtain⟨k,aD,e6⟩:=IZ ax;have e:hs.getD k []=x:=by rw[eb,dW aD,e6];rfl
 have:=aaB aD
 rwa [e]at this
theorem HB{hs:bt}{h g:Str}(a:h∈hs.map S)(b:g∈hs.map S)(n:h≠g):fX (bF hs) (.str h) (.str g)=true:=by unfold fX;rw[P8 a,P8 b,Hm,cM n];rfl
theorem HV{hs:bt}(G:Good hs){c:Str}(h:c∈hs.map S):cW H (.str c) (.str c):=by obtain⟨x,ax,rfl⟩:=cw.mp h;have n:=G.nm x ax;exact .str _ (by rw[dR];have:=n.2.1;omega) (GS n)
noncomputable def Ti(H1 H:af)(q:Addr)(lV:List (bb×ao.V))(hs:bt)(ds:dc)(h:Str):Prop:=∃(p:Addr)(bN:List (bb×ao.V)),b_ lV (dC h:bb)=some (.ref p)/\p≠q/\H1 p=none/\H p=some (.cF bN)/\Tab bN (fK hs ds h)
theorem e4{H H':af}(az:aB H H')(ay:H' p=none):H p=none:=by
 cases e:H p with
 |none=>rfl
 |some o=>rw[az _ _ e]at ay;cases ay
theorem f9{H:af}(av:H a=some o)(ae:H b=none):a≠b:=λe=>by rw[e,ae]at av;cases av
theorem TP{hs:bt}{i:Nat}(e:(bY hs)[i]?=some v):∃h,v=.str h/\(hs.map S)[i]?=some h:=by unfold bY at e;rw[d0]at e;obtain⟨x,ax,rfl⟩:=iq.mp e;exact⟨S x,rfl,by rw[d0,ax];rfl⟩
theorem X'{κ:Type}[DecidableEq κ]{k:κ}{x:ao.V}:∀{kvs:List (κ×ao.V)},(k,x)∈kvs->(b_ kvs k).isSome=true:=λ{kvs}h=>by rw[<-oM];exact pg.mpr ⟨_,h,b4 rfl⟩
theorem Oj{κ:Type}[DecidableEq κ]{k:κ}{kvs:List (κ×ao.V)}(h:(b_ kvs k).isSome=true):∃(j:Nat)(x:ao.V),kvs[j]?=some (k,x):=by rw[<-oM]at h;obtain⟨⟨iX,x⟩,hm,e⟩:=pg.mp h;obtain⟨j,bu⟩:=rM hm;exact⟨j,x,by rw[bu,show iX=k from rl e]⟩
theorem aaS{hs:bt}{ds:dc}(R:∀d∈ds,d.Ok hs.length){h g:Str}{u:Int}(p:b2.Path (fY hs ds) h g u)(hm:h∈hs.map S):g∈hs.map S:=by
 cases p with
 |nil=>exact hm
 |snoc e _ he=>
  obtain⟨d,hd,rfl⟩:=cw.mp he;exact ra (R d hd).b
theorem Hn{hs:bt}{ds:dc}{h:Str}{i:Nat}(e:((jG hs ds (·.a) h).map V.int)[i]?=some v):∃(k:Nat)(d:cQ.fm),v=.int (k:Int)/\ds[k]?=some d/\S (hs.getD d.a [])=h:=by obtain⟨z,hz,rfl⟩:=cw.mp (f_ e);unfold jG Dy at hz;obtain⟨k,aD,rfl⟩:=cw.mp hz;obtain⟨ai,aj⟩:=ph.mp aD;have au:=rN.mp ai;have aF:ds[k]?=some ds[k]:=dW au;refine⟨k,ds[k],rfl,aF,?_⟩;rw[zO aF]at aj;have:=rl aj;cases this;rfl
theorem QZ{te:TE}{g:kr}{u:e_}{D:Ends}(h:te σ H λv H1=>g v σ H1 (u D)):ht (xU te g) u D σ H:=h
end
theorem aaT{K:aQ}{wi:el}{tt:ir}{te:TE}{rest:ao.St}{H:af}{Q:a4}{xs:aR}(hw:∀R:gm->af->Prop,(∀p H1,H p=none->aB H H1->H1 p=some (.lst xs)->R (kW K p) H1)->wi σ H R)(g0:h5 cs σ=none::rest)(au:xs.length<sizeLine)(p:ao.V->Bool)(f:ao.V->ao.V)(test:∀(i:Nat)(x:ao.V)(ah:af)(R:Bool->af->Prop),xs[i]?=some x->aB H ah->(∀b1,aB ah b1->R (p x) b1)->tt (some x::rest) ah R)(elt:∀(i:Nat)(x:ao.V)(ah:af)(R:a4),xs[i]?=some x->p x=true->aB H ah->(∀b1,aB ah b1->R (f x) b1)->te (some x::rest) ah R)(fin:∀(D:Addr)(H':af),H D=none->H' D=some (.lst ((xs.filter p).map f))->aB H H'->Q (.ref D) H'):o5 wi cs (jD 0) tt te σ H Q:=
 hw _ λq H1 aoG s1 bo=>SU g0 (q5 (aJ.of bo)) au p f (λi x ah R ex az h=>test i x ah R ex (s1.trans az) h) (λi x ah R ex ait az h=>elt i x ah R ex ait (s1.trans az) h) λD H' l_ bF az=>fin D H' (e4 s1 l_) bF (s1.trans az)
noncomputable def Told(hs:bt)(ds:dc)(i:Nat)(h g:Str):Prop:=(∃j,j<i/\(hs.map S)[j]?=some h)/\h≠g/\(fK hs ds h g).isSome=true
noncomputable def iu(hs:bt)(ds:dc)(i:Nat)(h:Str)(bN:List (bb×ao.V))(j:Nat)(h' g:Str):Prop:=Told hs ds i h' g\/(h'=h/\h≠g/\∃oQ z,oQ<j/\bN[oQ]?=some (dC g,z))
section
variable{hs:bt}{ds:dc}{i j:Nat}{h g:Str}{bN:List (bb×ao.V)}{z:ao.V}
theorem iu.zero(h' g':Str):Told hs ds i h' g'↔iu hs ds i h bN 0 h' g':=⟨.inl,λz=>z.resolve_right λ⟨_,_,oQ,_,y,_⟩=>bk y (Ex _)⟩
theorem iu.less:iu hs ds i h bN j h' g'->iu hs ds i h bN (j+1) h' g'
 |.inl y=>.inl y
 |.inr ⟨a,b,oQ,cZ,bu,g9⟩=>.inr ⟨a,b,oQ,cZ,vN bu,g9⟩
theorem iu.more(e6:bN[j]?=some (dC g,z))(t:iu hs ds i h bN (j+1) h' g'):iu hs ds i h bN j h' g'\/(h'=h/\h≠g'/\g'=g):=by
 rcases t with y|⟨a,b,oQ,cZ,bu,g9⟩
 .exact .inl (.inl y)
 .rcases vM oQ j with y|y
  .exact .inl (.inr ⟨a,b,oQ,cZ,y,g9⟩)
  .have:oQ=j:=Ė (ė bu) y;subst this;rw[e6]at g9;cases g9;exact .inr ⟨a,b,rfl⟩
theorem iu.skip(e6:bN[j]?=some (dC h,z))(h' g':Str):iu hs ds i h bN j h' g'↔iu hs ds i h bN (j+1) h' g':=⟨.less,λt=>(iu.more e6 t).elim id λ⟨_,b,c⟩=>bk c.symm b⟩
theorem iu.put(e6:bN[j]?=some (dC g,z))(ne:h≠g)(h' g':Str):(iu hs ds i h bN j h' g'\/(h'=h/\g'=g))↔iu hs ds i h bN (j+1) h' g':=⟨λt=>t.elim .less λ⟨a,b⟩=>.inr ⟨a,b▸ne,j,z,vO _,b▸e6⟩,λt=>(iu.more e6 t).imp id λ⟨a,_,c⟩=>⟨a,c⟩⟩
theorem iu.end(rX:Tab bN (fK hs ds h))(i6:(hs.map S)[i]?=some h)(h' g':Str):iu hs ds i h bN bN.length h' g'↔Told hs ds (i+1) h' g':=by
 constructor
 .rintro(⟨⟨j,bu,g8⟩,b,c⟩|⟨rfl,b,oQ,z,_,g9⟩)
  .exact⟨⟨j,vN bu,g8⟩,b,c⟩
  .refine⟨⟨i,vO _,i6⟩,b,?_⟩;have:=X' (f_ g9);rw[rX.at_]at this;simpa using this
 .rintro⟨⟨j,bu,g8⟩,b,c⟩;by_cases e:h'=h
  .subst e;have:(b_ bN (dC g':bb)).isSome=true:=by rw[rX.at_];simpa using c
   obtain⟨oQ,z,g9⟩:=Oj this;exact .inr ⟨rfl,b,oQ,z,(gn.mp g9).1,g9⟩
  .refine .inl ⟨⟨j,?_,g8⟩,b,c⟩;rcases vM j i with y|y
   .exact y
   .have:j=i:=Ė (ė bu) y;subst this;rw[i6]at g8;cases g8;exact bk rfl e
end
structure nL(hs:bt)(ds:dc)(kvs:hA):Prop where
 i3:pb (best hs ds) (hs.map S) kvs (λh g=>h∈hs.map S/\h≠g/\(fK hs ds h g).isSome=true)
section
variable{P:cA}{w:bU}{K:aQ}{mg:b9}{base:Heap}
noncomputable abbrev Hd:Stmt:=top 61
theorem tg:de ["net","roads","far_from","house","ways","goal","fitting"] ["net"] (cy Hd):={}
inductive TQ(C a3:Addr)(vs:aR)(H:af)(Q:a4)(gK:bP):Prop where
 |mk (n bR bI:Addr) (hs:bt) (rs:c7) (ds:dc) (aT:vs=[.ref n]) (aP:ka a3 H n bR bI (bY hs) (bM rs)) (bh:Good hs) (cf:gE H hs rs ds) (cP:rs.length<=40) (dM:∀(x t:Addr)(H':af)(kvs:hA),H x=none->H t=none->aB H H'->sJ C a3 H' x n t bR bI (bY hs) (bM rs) kvs->nL hs ds kvs->Q (.ref x) H')
inductive aee(n i0 ey gx:Addr)(hs:bt)(ds:dc)(H1:af)(i:Nat)(σ:ao.St)(cE:af):Prop where
 |mk (lV:List (bb×ao.V)) (xE:ju) (aT:σ=[some (.ref n),some (.ref i0),some (.ref ey),xE,none,none,none]) (aP:aB H1 cE) (bh:cE gx=some (.lst (bY hs))) (cf:cE ey=some (.cF lV)) (cP:lV.length<=i) (dM:∀j h,j<i->(hs.map S)[j]?=some h->Ti H1 cE ey lV hs ds h)
inductive aef(C ak n i0 ey x t gy:Addr)(hs:bt)(ds:dc)(cE:af)(i:Nat)(σ:ao.St)(hk:af):Prop where
 |mk (kvs:hA) (xE qi o':ju) (aT:σ=[some (.ref n),some (.ref i0),some (.ref ey),xE,some (.ref x),qi,o']) (aP:aB cE hk) (bh:hk gy=some (.lst (bY hs))) (cf:hk x=some (.ins C ak (kb n t))) (cP:hk t=some (.bV kvs)) (dM:pb (best hs ds) (hs.map S) kvs (Told hs ds i))
inductive aeg(C ak n i0 ey x t gy iG:Addr)(hs:bt)(ds:dc)(cE:af)(o:Obj)(bN:List (bb×ao.V))(h:Str)(i:Nat)(j:Nat)(σ:ao.St)(qu:af):Prop where
 |mk (kvs:hA) (qi o':ju) (aT:σ=[some (.ref n),some (.ref i0),some (.ref ey),some (.str h),some (.ref x),qi,o']) (aP:aB (upd cE iG (.ed o (.cF bN))) qu) (bh:qu gy=some (.lst (bY hs))) (cf:qu x=some (.ins C ak (kb n t))) (cP:qu t=some (.bV kvs)) (dM:pb (best hs ds) (hs.map S) kvs (iu hs ds i h bN j))
theorem acP{f:Addr}(F:cz K "shortest" "shortest" Hd f fd)(B:eR mg)(e3:ut K C)(fc:fw K a3)(pV:mg "Ways"=some (.ref C))(hT:d_ K a3 "houses" "Net.houses" uw fD f1 dN)(k8:aK P w K mg base bq 1 f1 dN fD (zk a3))(lN:d_ K a3 "roads" "Net.roads" zN fD f2 eU)(r4:aK P w K mg base bq 1 f2 eU fD (GR a3))(pH:d_ K a3 "out_of" "Net.out_of" AX j3 cS jQ)(y':aK P w K mg base (eW P w) 2 cS jQ j3 (I7 a3 dz (·.a)))(nB:bX K mg "least_turns_from" DB vJ f4 wo)(yK:aK P w K mg base bq 2 f4 wo vJ (Pr K))(tO:bX K mg "begins_shortest" EX AP d7 BH)(aiP:aK P w K mg base bq 1 d7 BH AP Tg)(Dg:ou K C hG)(lO:nk K C "Ways.__init__" zT kq hG r7)(r5:aK P w K mg base bq 1 hG r7 kq (EI C))(lL:d_ K C "set_way" "Ways.set_way" zS qA KA afO)(r2:aK P w K mg base (eW P w) 3 KA afO qA (EJ C a3 dz gb)):
  aK P w K mg base bq 4 f fd ["net"] (TQ C a3):=by
 have jw:=e3.cl;refine F.ok tg (λ_ A _ s H vs Q E al h=>?_)
 .obtain⟨n,bR,bI,hs,rs,ds,rfl,N,G,bQ,cN,q⟩:=h;refine⟨_,(a9 (c8 (i:=1) tg.aC rfl (qE rfl) (qY (aa 0) fc lN.gi r4 al.mono lN.bd .nil cJ))
   (a9 (c8 (i:=2) tg.aC rfl (qE rfl) Ò)
   (a9 (j6 jL rfl (hU (qY (aa 0) fc hT.gi k8 al.mono hT.bd .nil cJ)) (eo (i:=3) tg.aC rfl (ct rfl))
    (bg (zM (gs al) (aa 2) (aa 3) (dB yK al.mono (by rfl) nB.at_ nB.fn.b3 nB.bd .nil cJ (ag (aa 1) (ag (aa 3) aw))) rfl)))
   (a9 (c8 (i:=4) tg.aC rfl (ct rfl) (xb Dg r5 al.mono (by rfl) pV lO.bd .nil cJ (ag (aa 0) aw)))
   (a9 (j6 jL rfl (hU (qY (aa 0) fc hT.gi k8 al.mono hT.bd .nil cJ)) (eo (i:=3) tg.aC rfl (ct rfl))
    (bg (abz (j6 jL rfl (ģ (nS (gs al) (aa 2) (aa 3) (λ_ _=>rfl))) (eo (i:=5) tg.aC rfl (qE rfl))
    (bg (dH (dG rm (aa 5) (aa 3) (dE _)) (a9 (GN (i:=6) tg.aC rfl rfl rfl (N':=["number","far_from","goal","roads"]) (cs:=[none,some 2,some 5,some 1]) rfl (hU (iS (aa 0) fc pH.gi y' al.mono pH.bd .nil IM (ag (aa 3) aw))) rfl (by decide+kernel) rfl (by decide+kernel) (jy (dj.mpr ⟨rfl,(dj.mpr ⟨rfl,(dj.mpr ⟨rfl,(λp ay=>bk ay (di))⟩)⟩)⟩)) rfl
    (.own (.mM rfl (.inl rfl) (.inl rfl) rfl (.mM rfl (.inl rfl) (.inl rfl) rfl (.mM rfl (.inl rfl) (.inl rfl) rfl .nil))))
    (λC aW aU b0 ez=>⟨(eo (i:=0) (by show(["number","far_from","goal","roads"]:ck).Nodup;decide+kernel) rfl (.inl rfl)),(Hy (i7 (dB aiP al.mono (by rfl) tO.at_ tO.fn.b3 tO.bd .nil cJ (ag (cU (Ð (K:=K) rfl) (aa 3) (aa 0) (λ_ _=>rfl)) (ag (aa 1) (ag (aa 2) aw)))))),(aa 0)⟩))
   (bg (gZ (iS (aa 4) jw lL.gi r2 al.mono lL.bd .nil IM (ag (aa 3) (ag (aa 5) (ag (df (Oi rfl) (by rfl) B.min I5 (ag (aa 6) aw)) aw))))))) dJ))))))
   (bg (cm (aa 4)))))))),?_⟩
  try dsimp only[gR,gQ]
  obtain⟨gP,aX⟩:=N.ins;have hlen:=bQ.len;have UD:=G.cN;refine⟨_,rfl,n,gP,_,rfl,aX,rfl,n,bR,bI,_,_,rfl,N,λi0 Gn=>?_⟩;have s1:aB H (upd H i0 (.lst (bM rs))):=aZ Gn;have ai:upd H i0 (.lst (bM rs)) i0=some (.lst (bM rs)):=aE;generalize upd H i0 (.lst (bM rs))=H1 at s1 ai⊢
  refineλey We=>?_
  have s2:aB H1 (upd H1 ey (.cF [])):=aZ We;have aj:upd H1 ey (.cF []) ey=some (.cF []):=aE;generalize upd H1 ey (.cF [])=ah at s2 aj⊢;refine⟨_,rfl,n,gP,_,rfl,s2 _ _ (s1 _ _ aX),rfl,n,bR,bI,_,_,rfl,(N.same s1).same s2,λgx Wf=>⟨gx,rfl,⟨_,aJ.of aE⟩,?_⟩⟩;have VU:ey≠gx:=f9 aj Wf;refine oL (xs:=bY hs) (aee n i0 ey gx hs ds H1)
   ⟨[],none,rfl,s2.trans (aZ Wf),aE,by rw[aV VU];exact aj,cL _,λj h bu _=>bk bu (Ex _)⟩ ?_ ?_ ?_
  .rintro i σ cE hi ⟨lV,xE,rfl,az,bC,_⟩;exact aJ.of bC
  .rintro i v σ cE ev ⟨lV,xE,rfl,az,bC,bE,agF,qT⟩;obtain⟨h,rfl,i6⟩:=TP ev;have aok:i<hs.length:=by have:=(gn.mp i6).1;rwa [cj]at this
   refine⟨_,rfl,_,rfl,i0,hs,rs,ds,h,rfl,aJ.of (az _ _ ai),(bQ.same s1).same az,UD,f_ i6,λp H' bN D np uS aD T L=>?_⟩;refine⟨_,rfl,_,rfl,ey,_,rfl,n_.k (k:=dC h) (uS _ _ bE) (en (by omega)),?_⟩;have ah7:H1 p=none:=e4 az np;have V6:p≠ey:=d3 (f9 bE np);have pM:D=fK hs ds h:=funext λg=>b2.Uo L g;subst pM;refine⟨_,_,rfl,fO We (az.trans uS),by rw[aV (d3 VU)];exact uS _ _ bC,aE,?_,λj h' bu Kv=>?_⟩
   .cases a7:b_ lV (dC h:bb)with
    |none=>rw[zy _ a7,eS];simp only[fV,x_];omega
    |some u=>rw[O6 _ a7];omega
   .by_cases e:h'=h
    .subst e;exact⟨p,bN,by rw[zx,bO rfl],V6,ah7,by rw[aV V6];exact aD,T⟩
    .have LD:j<i:=by
      rcases vM j i with z|z
      .exact z
      .have:j=i:=by omega
       subst this;rw[i6]at Kv;cases Kv;exact bk rfl e
     obtain⟨gJ,ahF,me,ne',ah1,qW,k4⟩:=qT j h' LD Kv;exact⟨gJ,ahF,by rw[zx,bz λz=>e (yw z)];exact me,ne',ah1,by rw[aV ne'];exact uS _ _ qW,k4⟩
  .rintro σ cE ⟨lV,xE,rfl,az,bC,bE,agF,qT⟩;have UZ:∀h∈hs.map S,Ti H1 cE ey lV hs ds h:=λh hm=>by obtain⟨j,bu⟩:=rM hm;exact qT j h (by have:=(gn.mp bu).1;rw[cj]at this;unfold bY;rw[cj];exact this) bu
   refine⟨_,rfl,λx ak cp zD aih=>⟨x,ak,_,rfl,aE,λt eI=>⟨rfl,?_⟩⟩⟩;have ma:cE t=none:=by refine e4 (fO (o:=.ins C ak []) cp (aZ (o:=.own x) zD)) eI
   have o6:x≠t:=f9 (H:=upd (upd cE ak (.own x)) x (.ins C ak [])) aE eI;have n5:aB cE (upd (upd (upd (upd cE ak (.own x)) x (.ins C ak [])) t (.bV [])) x (.ins C ak (kb n t))):=fO cp (fO ma (fO cp (aZ zD)));have Ma:upd (upd (upd (upd cE ak (.own x)) x (.ins C ak [])) t (.bV [])) x (.ins C ak (kb n t)) x=some (.ins C ak (kb n t)):=aE;have uo:upd (upd (upd (upd cE ak (.own x)) x (.ins C ak [])) t (.bV [])) x (.ins C ak (kb n t)) t=some (.bV []):=by rw[aV (d3 o6),aE]
   show ht _ _ _ _ (upd (upd (upd (upd cE ak (.own x)) x (.ins C ak [])) t (.bV [])) x (.ins C ak (kb n t)));generalize upd (upd (upd (upd cE ak (.own x)) x (.ins C ak [])) t (.bV [])) x (.ins C ak (kb n t))=ZO at n5 Ma uo⊢;have Sa:ka a3 cE n bR bI (bY hs) (bM rs):=(N.same s1).same az;refine⟨_,rfl,n,gP,_,rfl,n5 _ _ (az _ _ (s1 _ _ aX)),rfl,n,bR,bI,_,_,rfl,Sa.same n5,λgy Go=>⟨gy,rfl,⟨_,aJ.of aE⟩,?_⟩⟩;have ah8:cE gy=none:=e4 n5 Go;have ahT:x≠gy:=f9 Ma Go;have VW:t≠gy:=f9 uo Go;refine oL (xs:=bY hs) (aef C ak n i0 ey x t gy hs ds cE)
    ⟨[],xE,none,none,rfl,n5.trans (aZ Go),aE,by rw[aV ahT];exact Ma,by rw[aV VW];exact uo,⟨λh g m=>?_,λh g _=>rfl,λk aD=>(nomatch aD),oq⟩⟩ ?_ ?_ ?_
   .obtain⟨⟨j,bu,_⟩,_⟩:=m;exact bk bu (Ex _)
   .rintro i σ hk hi ⟨kvs,Xp,qi,o',rfl,dO,c5,_⟩;exact aJ.of c5
   .rintro i v σ hk ev ⟨kvs,Xp,qi,o',rfl,dO,c5,ax,cO,BT⟩;obtain⟨h,rfl,i6⟩:=TP ev;have hm:h∈hs.map S:=f_ i6;obtain⟨iG,bN,HH,VZ,VY,y4,rX⟩:=UZ h hm;have Wj:x≠iG:=d3 (f9 y4 cp);have Nk:t≠iG:=d3 (f9 y4 ma);have VV:gy≠iG:=d3 (f9 y4 ah8);refine⟨iG,bN,dO _ _ y4,λo=>?_⟩;have UQ:=gu.k (k:=dC h) (show upd hk iG (.ed o (.cF bN)) ey=some (.cF lV) by rw[aV (d3 VZ)];exact dO _ _ bE);rw[HH]at UQ;refine⟨_,rfl,_,rfl,ey,_,rfl,UQ,iG,o,bN,rfl,aE,?_⟩;refine Ν (aeg C ak n i0 ey x t gy iG hs ds cE o bN h i)
     ⟨kvs,qi,o',rfl,aaR dO _,by rw[aV VV];exact c5,by rw[aV Wj];exact ax,by rw[aV Nk];exact cO,BT.iff iu.zero⟩ ?_ ?_ ?_
    .rintro j σ qu ⟨kvs,qi,o',rfl,h_,_⟩;exact h_ _ _ aE
    .rintro j k z σ qu e6 ⟨kvs,qi,o',rfl,h_,FA,y8,F2,Am⟩;obtain⟨g,tZ⟩:=rX.eD _ (f_ e6);have afB:k=dC g:=tZ;subst afB;have fZ:∀e∈fY hs ds,1<=e.t:=λe he=>by obtain⟨d,hd,rfl⟩:=cw.mp he;exact(bQ.ok d hd).t.1
     have ahk:(fK hs ds h g).isSome=true:=by have:=X' (f_ e6);rw[rX.at_]at this;simpa using this
     obtain⟨v,a7⟩:=pq.mp ahk;have bp:g∈hs.map S:=aaS bQ.ok ((b2.wm fZ g).path h v a7) hm;refine⟨_,rfl,_,rfl,rfl,_,rfl,?_⟩;by_cases e:g=h
     .subst e;exact c3 (show(!decide (V.str g=V.str g))=false by rw[b4 rfl];rfl) ⟨kvs,_,o',rfl,h_,FA,y8,F2,Am.iff (iu.skip e6)⟩
     .refine cY (show(!decide (V.str g=V.str h))=true by rw[cM λy=>e (V.str.inj y)];rfl) ?_;have hI:h≠g:=d3 e;have NS:aB H (upd cE iG (.ed o (.cF bN))):=s1.trans (fO VY az);have Sb:=N.same (NS.trans h_);have Lg:=bQ.same (NS.trans h_);have ag1:=h_ _ _ ((fO (o:=.ed o (.cF bN)) VY az) _ _ ai);have ag2:=h_ _ _ (show upd cE iG (.ed o (.cF bN)) ey=some (.cF lV) by rw[aV (d3 VZ)];exact bE);refine QZ ?_;refine aaT (K:=K) (rest:=[some (.ref ey),some (.str g),some (.ref i0)]) (xs:=(jG hs ds (·.a) h).map V.int) (λR agk=>?_) rfl (by rw[cj];have:=ZZ hs ds (·.a) h;exact en (by omega)) (λy=>match y with|.int i=>s4 hs ds h g i|_=>false) id (λi y kn R dU n4 Lf=>?_) (λi y kn R dU _ jZ Lf=>⟨_,rfl,Lf kn (aB.refl _)⟩) (λD kn l_ bF n4=>?_)
      .exact⟨_,rfl,n,gP,_,rfl,(NS.trans h_) _ _ aX,rfl,_,rfl,n,bR,bI,hs,rs,ds,h,rfl,Sb,Lg,cN,λ_ uH b1 ah9 dY fq=>⟨uH,rfl,⟨_,aJ.of fq⟩,agk uH b1 ah9 dY fq⟩,λy=>bk hm y⟩
      .obtain⟨k,d,rfl,nH,aS⟩:=Hn dU;obtain⟨r,eB⟩:∃r,rs[k]?=some r:=⟨_,dW (by rw[hlen];exact(gn.mp nH).1)⟩
       obtain⟨d',Ux,uG,nQ⟩:=Lg.get eB;rw[nH]at Ux;cases Ux;obtain⟨g4,Mq,eK,aoB,aoA,LF,Bl⟩:=UZ _ (ra uG.b);have aa8:TabAt kn iG (fK hs ds h):=⟨bN,.inr ⟨o,n4 _ _ (h_ _ _ aE)⟩,rX⟩
       have aa9:TabAt kn g4 (fK hs ds (S (hs.getD d.b []))):=by
        by_cases dq:g4=iG
        .subst dq;rw[y4]at LF;cases LF;exact⟨bN,.inr ⟨o,n4 _ _ (h_ _ _ aE)⟩,Bl⟩
        .exact⟨Mq,.inl (n4 _ _ (h_ _ _ (by rw[aV dq];exact LF))),Bl⟩
       have BD:ao.hD (bM rs) (k:Int)=some (.ref r):=mV (by unfold bM;rw[d0,eB];rfl);refine⟨_,rfl,_,rfl,i0,_,_,_,rfl,rfl,aJ.of (n4 _ _ ag1),BD,_,rfl,_,rfl,r,ey,iG,g4,hs,d,lV,g,_,_,rfl,n4 _ _ nQ,n4 _ _ ag2,by rw[aS];exact HH,eK,aa8,aa9,λu bL=>⟨v,a7⟩,_,rfl,?_⟩;have ep:s4 hs ds h g (k:Int)=v8 (fK hs ds h) (fK hs ds (S (hs.getD d.b []))) g d.t:=by unfold s4 Dr;rw[qw,zO nH]
       rw[<-ep];exact Lf kn (aB.refl _)
      .have afA:(((jG hs ds (·.a) h).map V.int).filter λy=>match y with|.int i=>s4 hs ds h g i|_=>false).map id=(fit hs ds h g).map V.int:=by rw[List.map_id,RD];rfl
       rw[afA]at bF;refine⟨_,rfl,x,ak,_,rfl,n4 _ _ y8,rfl,_,rfl,_,rfl,_,rfl,D,_,rfl,aJ.of bF,Iu fZ a7 hI,x,n,t,bR,bI,hs,rs,ds,kvs,h,g,_,rfl,⟨⟨ak,n4 _ _ y8⟩,Sb.same n4,n4 _ _ F2⟩,G,Lg.same n4,cN,HV G hm,HV G bp,en (by have:=Am.cN (by rw[cj];exact UD);omega),λ_ _ jJ ke=>?_,λy=>bk (HB hm bp hI) (by rw[y];decide),λ_ y=>bk (P5 fZ a7 hI).1 y⟩;have NP:=n4.trans ke;exact⟨_,_,_,rfl,fO (by rw[aV Nk];exact ma) (h_.trans NP),by rw[aV (d3 VW)];exact NP _ _ FA,by rw[aV o6];exact NP _ _ y8,aE,(Am.put hm bp).iff (iu.put e6 hI)⟩
    .rintro σ qu ⟨kvs,qi,o',rfl,h_,FA,y8,F2,Am⟩;exact⟨h_ _ _ aE,kvs,_,qi,o',rfl,Ĕ y4 h_,by rw[aV VV];exact FA,by rw[aV Wj];exact y8,by rw[aV Nk];exact F2,Am.iff (iu.end rX i6)⟩
   .rintro σ hk ⟨kvs,Xp,qi,o',rfl,dO,c5,ax,cO,BT⟩;refine⟨_,rfl,q x t hk kvs (e4 (s1.trans az) cp) (e4 (s1.trans az) ma) ((s1.trans az).trans dO) ⟨⟨ak,ax⟩,Sa.same dO,cO⟩ ⟨BT.iff λh g=>⟨λ⟨⟨j,_,g8⟩,b,c⟩=>⟨f_ g8,b,c⟩,λ⟨m,b,c⟩=>⟨?_,b,c⟩⟩⟩⟩;obtain⟨j,bu⟩:=rM m;exact⟨j,by have:=(gn.mp bu).1;rw[cj]at this;unfold bY;rw[cj];exact this,bu⟩
theorem OJ{κ:Type}[DecidableEq κ]{kvs:List (κ×ao.V)}{k:κ}(h:b_ kvs k=some v):k∈kvs.map (·.1):=by obtain⟨j,x,e⟩:=Oj (show(b_ kvs k).isSome=true by rw[h];rfl);exact cw.mpr ⟨_,f_ e,rfl⟩
end
theorem nL.get{hs:bt}{kvs:hA}(T:nL hs ds kvs){k:List bb}(e:b_ kvs k=some v):∃h g,k=dy h g/\h∈hs.map S/\g∈hs.map S/\h≠g/\(fK hs ds h g).isSome=true/\v=.int (best hs ds h g):=by
 obtain⟨h,g,rfl,ahP,mg⟩:=T.i3.key k (OJ e);by_cases m:h∈hs.map S/\h≠g/\(fK hs ds h g).isSome=true
 .have:=T.i3.yes h g m;rw[e]at this;exact⟨h,g,rfl,ahP,mg,m.2.1,m.2.2,fG this⟩
 .rw[T.i3.no h g m]at e;cases e
end c2
namespace b5
open PySem PySem.Spec PyProof.Rows ao PySem.W
structure als(n:Nat)(lt:iO):Prop where
 xv:∀i j k,lt i j=true->lt j k=true->lt i k=true
 to:∀i j,i<n->j<n->i≠j->lt i j=true\/lt j i=true
 aol:∀i,lt i i=false
noncomputable abbrev lX(p:tF)(a:Nat):Nat:=p.getD a 0
end b5
namespace c2
open PySem ao b5 cQ
theorem Gy(rs:List Row):(l7 rs).Perm rs:=by unfold l7 Jb;refine((XG _ _).map _).trans ?_;rw[show(gN rs.length).map (λi=>rs.getD i h8)=rs from ?_];refine IW (by simp) λi ai aj=>?_;rw[RI,List.getElem_range,eb,dW aj];rfl
theorem Q0:∀{kvs:List (List bb×ao.V)},(∀p∈kvs,∃r:Row,p=([.inr r.1,.inr r.2.1],.int r.2.2))->∃rs,kvs=b8 rs
 |[],_=>⟨[],rfl⟩
 |p::q,h=>by obtain⟨r,rfl⟩:=h p (.head _);obtain⟨rs,rfl⟩:=Q0 (kvs:=q) λp ay=>h p (.tail _ ay);exact⟨r::rs,rfl⟩
noncomputable def Nq(hs:bt)(ds:dc)(g h:Str):Bool:=decide (h≠g)&&(fK hs ds h g).isSome
noncomputable def aeh(hs:bt)(ds:dc)(g:Str)(L:ck):List Row:=(L.filter (Nq hs ds g)).map λh=>(h,g,best hs ds h g)
noncomputable def EY(hs:bt)(ds:dc)(L:ck):List Row:=L.flatMap λg=>aeh hs ds g (hs.map S)
theorem take_snoc{α:Type}{L:List α}{j:Nat}{x:α}(e:L[j]?=some x):L.take (j+1)=L.take j++[x]:=by rw[yd,e];rfl
theorem HC{hs:bt}{L:ck}{r:Row}(h:r∈EY hs ds L):r.1∈hs.map S/\r.2.1∈L/\r.1≠r.2.1/\(fK hs ds r.1 r.2.1).isSome=true/\r.2.2=best hs ds r.1 r.2.1:=by obtain⟨g,bp,al⟩:=I3.mp h;obtain⟨k,aD,rfl⟩:=cw.mp al;obtain⟨ai,aj⟩:=ph.mp aD;unfold Nq at aj;simp only[ie,decide_eq_true_eq]at aj;exact⟨ai,bp,aj.1,aj.2,rfl⟩
theorem aaU{hs:bt}{L:ck}{h g:Str}(dh:h∈hs.map S)(bp:g∈L)(ne:h≠g)(is:(fK hs ds h g).isSome=true):(h,g,best hs ds h g)∈EY hs ds L:=by refine I3.mpr ⟨g,bp,cw.mpr ⟨h,ph.mpr ⟨dh,?_⟩,rfl⟩⟩;unfold Nq;rw[b4 ne,is];rfl
theorem Pn{κ:Type}[DecidableEq κ]{k:κ}:∀{l:List (κ×ao.V)}{j:Nat},(l.map (·.1)).Nodup->l[j]?=some (k,v)->b_ l k=some v
 |[],j,_,h=>by simp at h
 |p::r,0,aC,h=>by simp only[RF,Sq]at h;subst h;exact lb rfl
 |p::r,j+1,aC,h=>by
  rw[il,nu]at aC;have h':r[j]?=some (k,v):=by simpa using h
  rw[kx (λz=>aC.1 (by rw[z];exact cw.mpr ⟨_,f_ h',rfl⟩))];exact Pn aC.2 h'
theorem nL.rows{hs:bt}{kvs:hA}(T:nL hs ds kvs):∃rs:List Row,kvs=b8 rs/\rs.Nodup/\∀r,r∈rs↔r∈EY hs ds (hs.map S):=by
 have val:∀p∈kvs,b_ kvs p.1=some p.2:=λp ay=>by obtain⟨j,bu⟩:=rM ay;exact Pn T.i3.aC (show kvs[j]?=some (p.1,p.2)from bu)
 obtain⟨rs,e⟩:=Q0 (kvs:=kvs) λp ay=>by obtain⟨h,g,aF,_,_,_,_,aG⟩:=T.get (val p ay);exact⟨(h,g,best hs ds h g),A' aF aG⟩
 subst e;refine⟨rs,rfl,?_,λr=>⟨λal=>?_,λal=>?_⟩⟩
 .have aC:=T.i3.aC;unfold b8 at aC;rw[jK]at aC;exact(vI.mp aC).imp λh z=>h (by rw[z])
 .have ay:(([.inr r.1,.inr r.2.1],.int r.2.2):List bb×ao.V)∈b8 rs:=cw.mpr ⟨r,al,rfl⟩;obtain⟨h,g,aF,gh,gv,ne,is,aG⟩:=T.get (val _ ay);obtain⟨cR,hV⟩:=DC (h:=r.1) (g:=r.2.1) aF;have mR:r=(h,g,best hs ds h g):=A' cR (A' hV (V.int.inj aG));rw[mR];exact aaU gh gv ne is
 .obtain⟨gh,gv,ne,is,e⟩:=HC al;have a7:=T.i3.yes r.1 r.2.1 ⟨gh,ne,is⟩;obtain⟨j,y,g8⟩:=Oj (show(b_ (b8 rs) (dy r.1 r.2.1)).isSome=true by rw[a7];rfl);have dU:=val _ (f_ g8);rw[a7]at dU;obtain⟨cT,h3,bB⟩:=cw.mp (f_ g8);obtain⟨cR,hV⟩:=DC (h:=cT.1) (g:=cT.2.1) (ek Prod.fst bB);have tW:V.int cT.2.2=y:=ek Prod.snd bB;have Fj:cT.2.2=best hs ds r.1 r.2.1:=by have:=fG dU;rw[<-tW]at this;exact(V.int.inj this).symm
  have mR:r=cT:=A' cR.symm (A' hV.symm (by rw[e,Fj]));rw[mR];exact h3
inductive TR(C:Addr)(vs:aR)(H:af)(Q:a4)(gK:bP):Prop where
 |mk (x ak n t:Addr) (rs:List Row) (aT:vs=[.ref x]) (aP:H x=some (.ins C ak (kb n t))) (bh:H t=some (.bV (b8 rs))) (cf:rs.length<64) (cP:∀(l:Addr)(H':af)(cd:c7),H l=none->aB H H'->H' l=some (.lst (jF .bJ (sE (rs.map td)) (bM cd)))->ha H' cd (rs.map o9)->Q (.ref l) H')
section
variable{P:cA}{w:bU}{K:aQ}{mg:b9}{base:Heap}
noncomputable abbrev G_:Stmt:=iC (top 59) 5
theorem aeG:de fD fD (cy G_):={}
theorem acQ{f:Addr}(F:cz K "pairs" "Ways.pairs" G_ f fd)(B:eR mg)(e3:ut K C):aK P w K mg base bq 1 f fd fD (TR C):=by
 refine F.ok aeG (λcdv A outer s H vs Q E al h=>?_)
 .obtain⟨x,ak,n,t,rs,rfl,ax,cO,cN,q⟩:=h;refine⟨_,(bg (cm (df aks (by rfl) B.sorted Κ (ag (acY (lq (N':=["pair","road"]) (cs:=[none,none]) rfl (Ġ (gf (aa 0) (by rfl))) rfl (by decide+kernel) rfl (by decide+kernel) (jy (λp ay=>bk ay (di))) rfl
    (.own (.own .nil))
    (λC aW aU b0 ez=>⟨(Hz (K:=K) (n:=2) rfl rfl (oK (eo (i:=0) (by show(["pair","road"]:ck).Nodup;decide+kernel) rfl (.inl rfl)) (oK (eo (i:=1) (by show(["pair","road"]:ck).Nodup;decide+kernel) rfl (.inl rfl)) zJ))),lg,(hE (ag (cU (Dd (K:=K) rfl) (aa 0) bc (λ_ _=>rfl)) (ag (cU (Dd (K:=K) rfl) (aa 0) bc (λ_ _=>rfl)) (ag (aa 1) aw))))⟩))) aw)))),?_⟩
  have rp:(b8 rs).length=rs.length:=by unfold b8;rw[cj]
  have Gq:x≠t:=λz=>by rw[z,cO]at ax;cases ax
  dsimp only[rz,qa,l4];refine⟨t,b8 rs,cO,λo=>?_⟩;have fu:upd H t (.ed o (.bV (b8 rs))) x=some (.ins C ak (kb n t)):=by rw[aV Gq];exact ax
  refine Λ (H1:=upd H t (.ed o (.bV (b8 rs)))) (a:=t) (o:=o) (kvs:=b8 rs) (rest:=[]) (λR h=>⟨_,rfl,x,C,ak,_,_,rfl,fu,e3.cl,e3.eI,rfl,t,o,_,rfl,aE,h⟩) rfl aE (en (by omega)) (λi=>o9 (rs.getD i h8)) (λi k mh b ah R e6 az ae qU=>?_) (λD H1 cd l_ bF dv uQ=>?_)
  .unfold b8 at e6;rw[d0]at e6;obtain⟨r,eB,aG⟩:=iq.mp e6;cases aG;rw[ada eB]at qU;exact⟨_,rfl,b,_,_,_,rfl,rfl,cG.of ae,rfl,_,rfl,b,_,_,_,rfl,rfl,cG.of ae,rfl,_,rfl,(by show 3<=sizeLine;decide),λz Gr=>qU z _ (aZ Gr) aE⟩
  .have ajl:(gN (b8 rs).length).map (λi=>o9 (rs.getD i h8))=rs.map o9:=by rw[rp];exact range_getD o9 h8 rs
   rw[ajl]at dv;have age:D≠t:=λz=>by rw[z,aE]at l_;cases l_
   have Vz:=uQ _ _ (aE (H:=H) (a:=t) (o:=.ed o (.bV (b8 rs))));have sB:aB H (upd H1 t (.bV (b8 rs))):=λb v e=>by
    by_cases ae:b=t
    .rw[ae]at e⊢;rw[aE,<-e,cO]
    .rw[aV ae];exact uQ _ _ (by rw[aV ae];exact e)
   have W8:ha (upd H1 t (.bV (b8 rs))) cd (rs.map o9):=dv.upd Vz (by intro d z;cases z);have du:=dv.len;rw[cj]at du;refine⟨Vz,D,cd,rs.map td,false,[false,true],rfl,aJ.of (by rw[aV age];exact bF),Μ W8,by omega,row_shape rs,λl nl=>?_⟩;have bZ:=aZ (o:=.lst (jF V.bJ (sE (rs.map td)) (cd.map V.ref))) nl;refine q l _ cd ?_ (sB.trans bZ) aE (W8.same bZ);cases e:H l with
   |none=>rfl
   |some u=>rw[sB _ _ e]at nl;cases nl
theorem č{rs:List Row}(dv:ha H cd (rs.map o9)):∃kS,jF V.bJ (sE (rs.map td)) (bM cd)=bM kS/\ha H kS ((l7 rs).map o9):=by
 have ln:(bM cd).length=rs.length:=by have:=dv.len;rw[cj]at this;rw[i4,this]
 unfold jF l7 Jb;rw[ln];have all:∀is:List Nat,(∀i∈is,i<rs.length)->∃kS,(is.map λi=>(bM cd).getD i .bJ)=bM kS/\ha H kS ((is.map λi=>rs.getD i h8).map o9):=λis=>by
  induction is with
  |nil=>intro _;exact⟨[],rfl,.nil⟩
  |cons i q a5=>
   intro hi;obtain⟨kS,aF,Ht⟩:=a5 λj bu=>hi j (.tail _ bu);have lt:=hi i (.head _);have ahL:i<cd.length:=by rw[i4]at ln;omega
   have aG:cd[i]?=some cd[i]:=dW ahL;obtain⟨y,ai,aj⟩:=fH.get dv aG;rw[d0,dW lt]at ai;cases ai;refine⟨cd[i]::kS,?_,.cons ?_ Ht⟩
   .rw[il,aF];show(bM cd).getD i .bJ::bM kS=V.ref cd[i]::bM kS;congr 1;show((bM cd)[i]?).getD .bJ=_;unfold bM;rw[d0,aG];rfl
   .show H cd[i]=some (hN.tup (o9 (rs.getD i h8)));rw[show rs.getD i h8=rs[i] by rw[eb,dW lt];rfl];exact aj
 exact all _ λi hi=>P0 hi
theorem Χ{κ:Type}[DecidableEq κ]{l ea:List (κ×ao.V)}(p:l.Perm ea)(aC:(l.map (·.1)).Nodup)(k:κ):b_ l k=b_ ea k:=by
 have M0:(ea.map (·.1)).Nodup:=(p.map _).nodup_iff.mp aC;cases e:b_ l k with
 |some v=>
  obtain⟨bN,ai,aj⟩:=iq.mp e;have bC:=RK ai;have c5:=RE ai;obtain⟨j,bu,aG⟩:=IZ (p.mem_iff.mp bC);have cR:bN=(k,v):=by obtain⟨a,b⟩:=bN;have:a=k:=rl c5;rw[this,<-aj]
  exact(Pn M0 (by rw[dW bu,aG,cR])).symm
 |none=>
  cases bB:b_ ea k with
  |none=>rfl
  |some v=>
   obtain⟨bN,ai,aj⟩:=iq.mp bB;have bC:=RK ai;have c5:bN.1=k:=rl (RE (p:=λbN:κ×ao.V=>decide (bN.1=k)) ai);exact bk (cw.mpr ⟨bN,p.mem_iff.mpr bC,c5⟩) (PC e)
theorem Ď{rs:List Row}(aC:(rs.map λr=>(r.1,r.2.1)).Nodup):((b8 rs).map (·.1)).Nodup:=by unfold b8;rw[jK];refine vI.mpr ((vI.mp aC).imp λ{a b}h z=>h ?_);have z:([.inr a.1,.inr a.2.1]:List bb)=[.inr b.1,.inr b.2.1]:=z;simp at z;rw[z.1,z.2]
theorem Ψ{rs:List Row}(aC:(rs.map λr=>(r.1,r.2.1)).Nodup){i:Nat}{r:Row}(e:rs[i]?=some r):fv (b8 (rs.take i)) (dy r.1 r.2.1) (.int r.2.2)=b8 (rs.take (i+1)):=by
 have aH:rs.take (i+1)=rs.take i++[r]:=by rw[yd,e];rfl
 rw[aH];have cC:(rs.take (i+1)).map (λr=>(r.1,r.2.1)) |>.Nodup:=by rw[List.map_take];exact aC.sublist (õ _ _)
 rw[aH,fk]at cC;have ajA:b_ (b8 (rs.take i)) (dy r.1 r.2.1)=none:=by
  cases z:b_ (b8 (rs.take i)) (dy r.1 r.2.1)with
  |none=>rfl
  |some v=>
   have:=c2.OJ z;unfold b8 at this;rw[jK]at this;obtain⟨q,bo,eq⟩:=cw.mp this;have eq:([.inr q.1,.inr q.2.1]:List bb)=[.inr r.1,.inr r.2.1]:=eq;simp at eq;have:=(Ep.mp cC).2.2 (q.1,q.2.1) (cw.mpr ⟨q,bo,rfl⟩) (r.1,r.2.1) (by simp);exact bk (by rw[eq.1,eq.2]) this
 rw[zy _ ajA];unfold b8;rw[fk];rfl
theorem ď{L:ck}:∀{ps:List (Str×Str)},ps.Nodup->(∀p∈ps,p.1∈L/\p.2∈L)->ps.length<=L.length*L.length:=λ{ps}aC h=>by
 have sub:ps ⊆ L.flatMap λa=>L.map λb=>(a,b):=λp ay=>by obtain⟨ai,aj⟩:=h p ay;exact I3.mpr ⟨p.1,ai,cw.mpr ⟨p.2,aj,rfl⟩⟩
 have:=zp aC sub;rw[î]at this;have e:(L.map λa=>(L.map λb=>(a,b)).length)=L.map λ_=>L.length:=AL λa _=>cj ..;rw[e]at this;have s:∀(M:ck),((M.map λ_=>L.length).sum)=M.length*L.length:=λM=>by
  induction M with
  |nil=>simp
  |cons a r a5=>rw[il,Er,a5,fV,R9];omega
 rw[s]at this;exact this
noncomputable abbrev NU:Stmt:=iC (top 8) 0
theorem aeH:de yh yh (cy NU):={}
theorem adv{f:Addr}(F:cz K "__init__" "NoWay.__init__" NU f fd)(B:eR mg)(hv:nA K mg "RoadError" C R)(lK:mg "RoadError"=some (.ref R))(ai:c_ K (.ref C) "reason"=some none)(aj:c_ K (.ref C) "seen"=some none):aK P w K mg base bq 1 f fd yh (JL C):=by
 refine F.ok aeH (λcdv A outer s H vs Q E al h=>?_)
 .obtain⟨e,s,v,zs,rfl,he,hs,q⟩:=h;refine⟨_,(a9 (gZ (PT (by rfl) lK hv.eQ hv.Fq hv.Hh (ag (aa 0) (ag cv aw))))
   (a9 (Pj (y:="RoadError") (R:=R) (aa 0) (aa 1) rfl)
   (bg (Pj (y:="RoadError") (R:=R) (aa 0) (iv y9 (by rfl) B.list q6 (ag (aa 2) aw)) rfl)))),?_⟩
  refine⟨_,rfl,e,C,_,rfl,he,hv,(by show 1<=sizeLine;decide),?_⟩;refine⟨_,rfl,_,rfl,e,C,rfl,hv,ai,.inl ⟨he,λak aC rf=>?_⟩⟩;have ahc:s≠e:=λz=>by rw[z,he]at hs;cases hs
  have ahb:s≠ak:=λz=>by rw[z,aC]at hs;cases hs
  refine⟨_,rfl,s,zs,rfl,.inl (aJ.of (by rw[aV ahc,aV ahb];exact hs)),λl nl=>?_⟩;have zF:l≠e:=λz=>by rw[z,aE]at nl;cases nl
  rw[aV zF]at nl;have Gj:l≠ak:=λz=>by rw[z,aE]at nl;cases nl
  rw[aV Gj]at nl;refine⟨_,rfl,e,C,rfl,hv,aj,.inr ⟨ak,[("reason",v)],?_,?_,(by show 1<100;decide),?_⟩⟩
  .rw[aV (d3 zF)];exact aE
  .rw[aV (d3 Gj),aV rf];exact aE
  refine q ak l _ aC nl (d3 Gj) (λb o ae lj=>?_) ?_ ?_ ?_
  .rw[aV (λz=>by rw[z,aC]at ae;cases ae),aV (λz=>by rw[z,nl]at ae;cases ae),aV lj,aV (λz=>by rw[z,aC]at ae;cases ae)];exact ae
  .rw[aV (d3 rf),aV (d3 zF)];exact aE
  .exact aE
  .rw[aV Gj];exact aE
noncomputable abbrev Hb:Stmt:=iC (top 59) 4
noncomputable abbrev ahX:List Str:=["self","house","goal","taken","seen","number","come_to"]
theorem A0:de ahX hO (cy Hb):={}
theorem adw{f:Addr}(F:cz K "route" "Ways.route" Hb f fd)(e3:ut K C)(fc:fw K a3)(jN:d_ K a3 "need_house" "Net.need_house" Af j3 f1 dN)(pC:aK P w K mg base (eW P w) 1 f1 dN j3 (HZ a3 dz))(wU:d_ K a3 "road" "Net.road" H0 j2 f2 eU)(Zj:aK P w K mg base (eW P w) 1 f2 eU j2 (Qm a3 gb))(C2:nA K mg "RoadError" eL R)(sq:mg "NoWay"=some (.ref eL))(P9:mF K (.ref eL)=true)(P':c_ K (.ref eL) "__init__"=some (some (.ref nI)))(PO:qF K (.ref nI)=true)(F9:aK P w K mg base bq 1 nI KJ yh (JL eL))(PQ:Binds K KJ yh []):
  aK P w K mg base (mq P w) 3 f fd hO (TT C a3 dz eL):=by
 refine CY F A0 (λcdv A outer s H vs Q E al h=>?_)
 .obtain⟨x,n,t,bR,bI,hs,rs,ds,kvs,h',g',rfl,W,G,bQ,tab,q,gU⟩:=h;obtain⟨ak,ax⟩:=W.ins;obtain⟨gP,aX⟩:=W.hb.ins;refine⟨_,(a9 (gZ (iS (gf (aa 0) (by rfl)) fc jN.gi pC al.mono jN.bd .nil OG (ag (aa 1) aw)))
   (a9 (gZ (iS (gf (aa 0) (by rfl)) fc jN.gi pC al.mono jN.bd .nil OG (ag (aa 2) aw)))
   (a9 (c8 (i:=3) A0.aC rfl (ct rfl) (d5 aw))
   (a9 (c8 (i:=4) A0.aC rfl (ct rfl) (d5 (ag (aa 1) aw)))
   (a9 (G0 ń (dG rm (cU gr (aa 4) (IL Ic bc) (λ_ _=>rfl)) (aa 2) (dE _))
    (a9 (c8 (i:=5) A0.aC rfl (ct rfl) (Ot (gs al) (gf (aa 0) (by rfl)) (hE (ag (cU gr (aa 4) (IL Ic bc) (λ_ _=>rfl)) (ag (aa 2) aw))) ⟨rfl,rfl,rfl,rfl⟩))
   (a9 (dH (dG DA (aa 5) oT (dE _)) (bg (GI C2 sq P9 P' PO F9 al.mono PQ rfl (ag cv (ag (aa 4) aw)))) dJ)
   (a9 (c8 (i:=6) A0.aC rfl (ct rfl) (cU fe (iS (gf (aa 0) (by rfl)) fc wU.gi Zj al.mono wU.bd .nil OG (ag (aa 5) aw)) bc (λ_ _=>rfl)))
   (a9 (dH (dG ux (aa 6) (aa 4) (by rfl)) (bg (GI C2 sq P9 P' PO F9 al.mono PQ rfl (ag cv (ag (b7 uJ (aa 4) (d5 (ag (aa 6) aw))) aw)))) dJ)
   (a9 (gZ (l5 rT tw tx qR (aa 3) (ag (aa 5) aw)))
   (bg (gZ (l5 rT tw tx qR (aa 4) (ag (aa 6) aw))))))))))
   (bg (cm (aa 3)))))))),?_⟩
  refine⟨_,rfl,x,C,ak,_,_,rfl,ax,e3.cl,e3.nn,rfl,n,gP,_,rfl,aX,rfl,_,rfl,n,bR,bI,hs,_,h',rfl,W.hb,λgh=>?_,λnP=>gU (.inl nP)⟩;refine⟨_,rfl,x,C,ak,_,_,rfl,ax,e3.cl,e3.nn,rfl,n,gP,_,rfl,aX,rfl,_,rfl,n,bR,bI,hs,_,g',rfl,W.hb,λgv=>?_,λnP=>gU (.inr nP)⟩;refine⟨ej _,λgx fB=>⟨_,rfl,(by show 1<=sizeLine;decide),λgy kL=>?_⟩⟩;have q:=q gh gv;have aW:=aZ (o:=.lst []) fB;have cK:=aZ (o:=.lst [V.str h']) kL;have w8:gy≠gx:=λz=>by rw[z,aE]at kL;cases kL
  have MM:H gy=none:=by rw[aV w8]at kL;exact kL
  refine⟨λm σ cE=>∃(c:Str)(sn:ck)(aH:cx)(rv v6:ju),σ=[some (.ref x),some (.str h'),some (.str g'),some (.ref gx),some (.ref gy),rv,v6]/\aB H cE/\cE gx=some (.lst (nats aH))/\cE gy=some (.lst (lz sn))/\
   ao.hD (lz sn) (-1)=some (.str c)/\(∀y∈sn,y∈hs.map S)/\sn.Nodup/\JM eL (kJ kvs hs ds g' m c sn aH) H Q E/\m+sn.length=14/\aH.length+1=sn.length,⟨13,h',[h'],[],none,none,rfl,aW.trans cK,cK _ _ aE,aE,rfl,?_,?_,q,rfl,rfl⟩,?_⟩
  .intro y cb;rw[gW.mp cb];exact gh
  .exact nu.mpr ⟨di,oq⟩
  rintro m σ cE ⟨c,sn,aH,rv,v6,rfl,az,bC,c5,last,sub,aC,q,hm,au⟩;have ahG:sn.length<=12:=by have:=zp aC sub;rw[cj]at this;exact e1 this G.cN
  obtain⟨m,rfl⟩:∃c4,m=c4+1:=⟨m-1,by omega⟩
  have aha:(lz sn).length=sn.length:=cj _;refine⟨_,rfl,_,rfl,gy,_,_,_,rfl,rfl,aJ.of c5,last,_,rfl,rfl,_,rfl,?_⟩;unfold kJ at q;by_cases sb:c=g'
  .rw[bO sb]at q;refine c3 (by rw[sb];simp) ⟨_,rfl,q gx cE fB az bC⟩
  rw[bz sb]at q;refine cY (by simp[sb]) ⟨_,λa' H' h=>⟨m,vO _,h⟩,?_⟩;have ahp:=az _ _ ax;refine⟨_,rfl,x,C,ak,_,_,rfl,ahp,e3.cl,e3.eI,rfl,t,rfl,.inr ⟨kvs,.inl (az _ _ W.told)⟩,_,rfl,_,rfl,gy,_,_,_,rfl,rfl,aJ.of c5,last,_,rfl,(by show 2<=sizeLine;decide),λr fS=>⟨_,gu.t (k:=dy c g') ((aZ fS) _ _ (az _ _ W.told)) aE,?_⟩⟩;have rq:=aZ (o:=.tup [V.str c,V.str g']) fS;have n9:=az.trans rq;have wz:=rq _ _ bC;have ud:=rq _ _ c5;generalize upd cE r (.tup [V.str c,V.str g'])=H1 at rq n9 wz ud⊢;rcases tab.get c g' with⟨aF,aG⟩|⟨i,aF,aG,hi⟩
  .rw[aG]at q;rw[aF];exact⟨_,rfl,rfl,_,rfl,cY (by decide) ⟨_,rfl,(by show 2<=sizeLine;decide),λe ne=>Te q n9 ud ne⟩⟩
  .rw[aG]at q;rw[aF];refine⟨_,rfl,rfl,_,rfl,c3 (by simp) ?_⟩;obtain⟨cT,eB⟩:∃cT,rs[i]?=some cT:=⟨_,dW (by rw[bQ.len];exact hi)⟩
   obtain⟨d,cV,Kp,nQ⟩:=bQ.get eB;have lR:tb hs ds i=S (hs.getD d.b []):=by unfold tb;rw[zO cV]
   have BD:ao.hD (bM rs) (i:Int)=some (.ref cT):=mV (by unfold bM;rw[d0,eB];rfl);refine⟨_,rfl,x,C,ak,_,_,rfl,n9 _ _ ax,e3.cl,e3.nn,rfl,n,gP,_,rfl,n9 _ _ aX,rfl,_,rfl,n,bR,bI,_,_,(i:Int),rfl,W.hb.same n9,λ_=>⟨_,BD,?_⟩,λnP=>bk ⟨by omega,by rw[i4,bQ.len];omega⟩ nP⟩;refine⟨cT,_,_,_,rfl,rfl,cG.of (n9 _ _ nQ),rfl,?_⟩;simp only[lR]at q;have Cz:S (hs.getD d.b [])∈hs.map S:=cw.mpr ⟨_,getD_mem' Kp.b,rfl⟩;generalize S (hs.getD d.b [])=gY at q Cz⊢;refine⟨_,rfl,_,rfl,gy,_,rfl,.inl (aJ.of ud),rfl,uy _,_,rfl,?_⟩;by_cases i9:gY∈sn
   .rw[bO i9]at q;refine cY (xc i9) ⟨_,rfl,_,rfl,(by show 1<=sizeLine;decide),λaiE CC=>⟨gy,aiE,_,_,rfl,rfl,(aZ CC) _ _ ud,aE,qB (en (by show(lz sn).length+1<=1000;omega)),λWy sF=>⟨(by show 2<=sizeLine;decide),λe ne=>Te q (n9.trans ((aZ CC).trans (aZ sF))) (by rw[aE];unfold lz;rw[fk];rfl) ne⟩⟩⟩
   .rw[bz i9]at q;refine c3 (CB i9) ?_;have B_:(nats aH).length=aH.length:=cj _;refine⟨_,rfl,.inl ⟨rfl,_,aJ.of wz⟩,_,rfl,gx,_,_,rfl,rfl,wz,en (by omega),?_⟩;have BP:upd H1 gx (.lst (nats aH++[V.int (i:Int)])) gy=some (.lst (lz sn)):=by rw[aV w8];exact ud
    refine⟨_,rfl,.inl ⟨rfl,_,aJ.of BP⟩,_,rfl,gy,_,_,rfl,rfl,BP,en (by omega),?_⟩;refine⟨gY,sn++[gY],aH++[i],_,_,rfl,fO MM (fO fB n9),?_,?_,?_,?_,?_,q,?_,?_⟩
    .rw[aV (d3 w8),aE];unfold nats;rw[fk];rfl
    .rw[aE];unfold lz;rw[fk];rfl
    .exact Pw sn gY
    .intro y cb;rcases ip.mp cb with cb|cb
     .exact sub y cb
     .rw[gW.mp cb];exact Cz
    .exact Xo aC i9
    .rw[eS];show m+(sn.length+1)=14;omega
    .rw[eS,eS];show aH.length+1+1=sn.length+1;omega
inductive T8(C a3 dz:Addr)(vs:aR)(H:af)(Q:a4)(E:bP):Prop where
 |mk (x n t bR bI:Addr) (hs:bt) (ys:aR) (kvs:hA) (h g:Str) (aT:vs=[.ref x,.str h,.str g]) (aP:sJ C a3 H x n t bR bI (bY hs) ys kvs) (bh:Good hs) (cf:cW H (.str h) (.str h)) (cP:cW H (.str g) (.str g)) (dM:(fX (bF hs) (.str h) (.str g)=true->∀H',aB H H'->Q .bJ (upd H' t (.bV (s6 kvs (dy h g)))))) (gk:(fX (bF hs) (.str h) (.str g)=false->∀H',aB H H'->E (.ref dz) none H'))
noncomputable abbrev G7:Stmt:=iC (top 59) 2
theorem aeI:de hO hO (cy G7):={}
theorem adx{f:Addr}(F:cz K "drop_way" "Ways.drop_way" G7 f fd)(e3:ut K C)(pD:d_ K C "need_pair" "Ways.need_pair" Dh hO f2 eU)(yJ:aK P w K mg base (eW P w) 2 f2 eU hO (JK C a3 dz)):
  aK P w K mg base (eW P w) 3 f fd hO (T8 C a3 dz):=by
 have jw:=e3.cl;refine o1 F aeI (λ_ A _ s H vs Q E al h=>?_)
 .obtain⟨x,n,t,bR,bI,hs,ys,kvs,h',g',rfl,W,G,a7,bL,q,gU⟩:=h;obtain⟨ak,ax⟩:=W.ins;refine⟨_,(a9 (gZ (iS (aa 0) jw pD.gi yJ al.mono pD.bd .nil oR (ag (aa 1) (ag (aa 2) aw))))
   (bg (gZ (P2 (gs al) (gf (aa 0) (by rfl)) (hE (ag (aa 1) (ag (aa 2) aw))) oT ⟨rfl,rfl,rfl,rfl⟩)))),?_⟩
  refine⟨_,rfl,x,ak,_,rfl,ax,rfl,_,rfl,_,rfl,x,n,t,bR,bI,hs,_,kvs,.str h',.str g',.str h',.str g',rfl,W,G,a7,bL,(by show 0<=60;decide),(by show 0<=60;decide),λar H1 s1=>?_,gU⟩;refine⟨_,rfl,x,C,ak,_,_,rfl,s1 _ _ ax,e3.cl,e3.eI,rfl,t,rfl,.inr ⟨_,.inl (s1 _ _ W.told)⟩,_,rfl,_,rfl,(by show 2<=sizeLine;decide),λr fS=>?_⟩;have aW:=aZ (o:=.tup [V.str h',V.str g']) fS;exact⟨kvs,dy h' g',r,rfl,aW _ _ (s1 _ _ W.told),aE,q ar _ (s1.trans aW)⟩
inductive Tj(C R:Addr)(vs:aR)(H:af)(Q:a4)(E:bP):Prop where
 |mk (x bR bI:Addr) (hs:bt) (rs:c7) (ds:dc) (h g:Str) (aT:vs=[.ref x,.str h,.str g]) (aP:ka C H x bR bI (bY hs) (bM rs)) (bh:gE H hs rs ds) (cf:hs.length<=12) (cP:h∈hs.map S->g∈hs.map S->∀H',aB H H'->Q (A5 (b2.dist (fY hs ds) h g)) H') (dM:h∉hs.map S\/g∉hs.map S->E (.ref R) none H)
noncomputable abbrev EZ:Stmt:=iC (top 57) 6
theorem ady:de hO hO (cy EZ):={}
theorem acn{f fn:Addr}(F:cz K "far" "Net.far" EZ f fd)(fE:s3 K C)(jN:d_ K C "need_house" "Net.need_house" Af j3 fn KN)(pC:aK P w K mg base (eW P w) 1 fn KN j3 (HZ C R))(nB:bX K mg "least_turns_from" DB vJ fz afR)(yK:aK P w K mg base bq 2 fz afR vJ (Pr K)):
  aK P w K mg base (eW P w) 3 f fd hO (Tj C R):=by
 have fc:=fE.cl;refine o1 F ady (λcdv A outer s H vs Q E al h=>?_)
 .obtain⟨x,bR,bI,hs,rs,ds,h',g',rfl,n,bQ,cN,q,gU⟩:=h;obtain⟨ak,ax⟩:=n.ins;refine⟨_,(a9 (gZ (iS (aa 0) fc jN.gi pC al.mono jN.bd .nil oR (ag (aa 1) aw)))
   (a9 (gZ (iS (aa 0) fc jN.gi pC al.mono jN.bd .nil oR (ag (aa 2) aw)))
   (bg (cm (Ot (gs al) (dB yK al.mono (by rfl) nB.at_ nB.fn.b3 nB.bd .nil cJ (ag (gf (aa 0) (by rfl)) (ag (aa 1) aw))) (aa 2) ⟨rfl,rfl,rfl,rfl⟩))))),?_⟩
  refine⟨_,rfl,x,ak,_,rfl,ax,rfl,_,rfl,x,bR,bI,hs,_,h',rfl,n,λdh=>?_,λz=>gU (.inl z)⟩;refine⟨_,rfl,x,ak,_,rfl,ax,rfl,_,rfl,x,bR,bI,hs,_,g',rfl,n,λbp=>?_,λz=>gU (.inr z)⟩;refine⟨_,rfl,x,C,ak,_,_,rfl,ax,fE.cl,fE.fS,rfl,_,rfl,bI,hs,rs,ds,h',rfl,aJ.of n.p_,bQ,cN,dh,λp H' kvs D np az aD T L=>?_⟩;refine⟨p,rfl,.inl ⟨kvs,.inl aD⟩,_,rfl,_,gu.k (k:=dC g') aD,?_⟩;rw[T.at_,aaN,b2.Uo L];exact q dh bp H' az
end
structure JX(mg:b9):Prop where
 Ą:rG mg "MOST_LETTERS" 40
 ą:rG mg "MOST_TURN" 1000000000
 ă:rG mg "MOST_APART" 30
noncomputable def lP(hs:fa):PyData->Bool
 |.tuple [a,t,g]=>fX hs a g&&uA 0 1000000000 t
 |_=>false
theorem akj{ds:fa}(h:ds.length≠3):lP hs (.tuple ds)=false:=by rcases ds with _|⟨a,_|⟨b,_|⟨c,_|⟨e,r⟩⟩⟩⟩<;>first|rfl|(simp at h)
noncomputable def nZ:PyData->Int
 |.tuple [_,.int t,_]=>t
 |_=>0
theorem akk{d:PyData}(h:lP hs d=true):∃a t g,d=.tuple [a,.int t,g]/\0<=t/\t<=1000000000:=by
 unfold lP at h;split at h
 .rename_i a t g;rw[ie]at h;cases t with
  |int i=>
   have aj:(decide (0<=i)&&decide (i<=1000000000))=true:=h.2;rw[ie]at aj;exact⟨a,i,g,rfl,rl aj.1,rl aj.2⟩
  |_=>cases h.2
 .cases h
noncomputable def DD(ns:jM):Int:=if ns=[]then 0 else oZ ns-nY ns
inductive Sl(vs:aR)(H:af)(Q:a4)(gK:bP):Prop where
 |mk (a:Addr) (hs:fa) (v:ao.V) (d:PyData) (aT:vs=[.ref a,v]) (aP:cW H (.ref a) (.list hs)) (bh:cW H v d) (cf:d.depth<=61) (cP:Q (.aM (lP hs d)) H)
inductive QA(vs:aR)(H:af)(Q:a4)(gK:bP):Prop where
 |mk (v:ao.V) (hs ds:fa) (aT:vs=[v]) (aP:cW H v (.list ds)) (bh:(∀d∈ds,lP hs d=true)) (cf:∀H',aB H H'->Q (.int (DD (ds.map nZ))) H')
inductive JY(C:Addr)(vs:aR)(H:af)(Q:a4)(gK:bP):Prop where
 |mk (e:Addr) (v:ao.V) (aT:vs=[.ref e,v]) (aP:H e=some (lU e C)) (bh:∀ak,H ak=none->ak≠e->Q .bJ (upd (upd H ak (nf ak [("number",v)])) e (lT e C ak)))
noncomputable def oJ(hs:fa):List PyData->Option Nat
 |[]=>none
 |d::r=>if lP hs d=true then(oJ hs r).map (·+1)else some 0
noncomputable def T9:Option Nat->ao.V
 |some i=>.int i
 |none=>.bJ
noncomputable def vv(hs ds:fa):Prop:=oJ hs ds=none/\ds.length<=40/\DD (ds.map nZ)<=30
inductive Tl(C eZ:Addr)(vs:aR)(H:af)(Q:a4)(E:bP):Prop where
 |mk (x bR bI:Addr) (hs:bt) (zs:aR) (v:ao.V) (ds:fa) (aT:vs=[.ref x,v]) (aP:ka C H x bR bI (bY hs) zs) (bh:Good hs) (cf:cW H v (.list ds)) (cP:(PyData.list ds).depth<=62) (dM:(vv (bF hs) ds->∀l H',H l=none->aB H H'->cW H' (.ref l) (.list ds)->Q (.ref l) H')) (gk:(¬vv (bF hs) ds->∀ak H',H ak=none->aB H H'->H' ak=some (nf ak [("number",T9 (oJ (bF hs) ds))])->E (.ref eZ) (some ak) H'))
section
variable{P:cA}{w:bU}{K:aQ}{mg:b9}{base:Heap}
noncomputable abbrev NT:Stmt:=iC (top 6) 0
theorem aeJ:de j2 j2 (cy NT):={}
theorem adz{f:Addr}(F:cz K "__init__" "NoLetter.__init__" NT f fd)(hv:nA K mg "RoadError" C R)(lK:mg "RoadError"=some (.ref R))(aX:c_ K (.ref C) "number"=some none):aK P w K mg base bq 1 f fd j2 (JY C):=by
 refine F.ok aeJ (λ_ A _ s H vs Q E al h=>?_)
 .obtain⟨e,v,rfl,he,q⟩:=h;refine⟨_,(a9 (gZ (PT (by rfl) lK hv.eQ hv.Fq hv.Hh (ag (aa 0) (ag cv aw))))
   (bg (Pj (y:="RoadError") (R:=R) (aa 0) (aa 1) rfl))),?_⟩
  refine⟨_,rfl,e,C,_,rfl,he,hv,(by show 1<=sizeLine;decide),?_⟩;exact⟨_,rfl,_,rfl,e,C,rfl,hv,aX,.inl ⟨he,q⟩⟩
noncomputable abbrev E0:Stmt:=top 24
theorem adA:de lG lG (cy E0):={}
theorem aco{f:Addr}(F:cz K "is_letter" "is_letter" E0 f fd)(vf:JX mg)(jO:bX K mg "is_tuple_of" xl pj f1 dN)(wj:aK P w K mg base bq 1 f1 dN pj OH)(hZ:bX K mg "are_unlike_houses" uB nv f2 eU)(r0:aK P w K mg base bq 1 f2 eU nv GJ)(hR:bX K mg "is_whole_within" xd pk cS jQ)(r1:aK P w K mg base bq 2 cS jQ pk Og):
  aK P w K mg base bq 3 f fd lG Sl:=by
 refine F.ok adA (λ_ A _ s H vs Q E al h=>?_)
 .obtain⟨a,hs,v,d,rfl,av,h,dd,q⟩:=h;refine⟨_,(bg (cm (hF (dB wj al.mono (by rfl) jO.at_ jO.fn.b3 jO.bd .nil cJ (ag (aa 1) (ag bc aw))) (hF (dB r0 al.mono (by rfl) hZ.at_ hZ.fn.b3 hZ.bd .nil cJ (ag (aa 0) (ag (cU fe (aa 1) bc (λ_ _=>rfl)) (ag (cU fe (aa 1) bc (λ_ _=>rfl)) aw)))) (kA (dB r1 al.mono (by rfl) hR.at_ hR.fn.b3 hR.bd .nil cJ (ag (cU fe (aa 1) bc (λ_ _=>rfl)) (ag bc (ag (nK (by rfl) vf.ą) aw))))))))),?_⟩;refine⟨_,rfl,v,d,_,rfl,h,_,rfl,?_⟩;cases h with
  |@tup r xs ds h3 z t=>
   show if decide ((ds.length:Int)=3)=true then _ else _
   by_cases c5:ds.length=3
   .refine cY (b4 (by omega)) ?_;have sl:xs.length=3:=by rw[t.len];exact c5
    obtain⟨x0,eg,gj,rfl⟩:∃x0 eg gj,xs=[x0,eg,gj]:=by rcases xs with _|⟨a,_|⟨b,_|⟨c,_|⟨d,r⟩⟩⟩⟩<;>first|exact⟨_,_,_,rfl⟩|(simp at sl)
    cases t with
    |cons t0 t=>
     cases t with
     |cons t1 t=>
      cases t with
      |cons fh t=>
       cases t;rename_i fp fJ fy;have q:Q (.aM (fX hs fp fy&&uA 0 1000000000 fJ)) H:=q;have Lw:ow [fp,fJ,fy]+1<=61:=dd;have kt:fp.depth<=60:=e1 (zm (by simp:fp∈[fp,fJ,fy])) (by omega);have iP:fy.depth<=60:=e1 (zm (by simp:fy∈[fp,fJ,fy])) (by omega);refine⟨_,rfl,_,rfl,r,_,_,_,rfl,rfl,cG.of h3,rfl,_,rfl,r,_,_,_,rfl,rfl,cG.of h3,rfl,a,hs,x0,gj,fp,fy,rfl,av,t0,fh,kt,iP,_,rfl,?_⟩;cases ai:fX hs fp fy with
       |false=>
        rw[ai]at q;exact f5 q
       |true=>
        rw[ai,vc]at q;exact f6 ⟨_,rfl,r,_,_,_,rfl,rfl,cG.of h3,rfl,eg,fJ,_,_,rfl,t1,q⟩
   .refine c3 (cM (by omega)) ?_;rw[akj c5]at q;exact q
  |_=>exact f5 q
noncomputable abbrev HW:Stmt:=top 25
theorem QB:de ["letters","turns"] ["letters"] (cy HW):={}
theorem X_:∀{vs:aR}{ds:fa},dQ H vs ds->(∀d∈ds,lP hs d=true)->vs.map (λv=>V.int (nZ (r3 H v)))=(ds.map nZ).map V.int
 |_,_,.nil,_=>rfl
 |_,_,.cons a b,h=>by simp only[il];rw[C0 a,X_ b λd hd=>h d (mz _ hd)]
theorem Į{f:Addr}(F:cz K "turns_apart" "turns_apart" HW f fd)(B:eR mg):aK P w K mg base bq 1 f fd ["letters"] QA:=by
 refine F.ok QB (λ_ A _ s H vs Q E al h=>?_)
 .obtain⟨v,hs,ds,rfl,a7,au,q⟩:=h;obtain⟨a,xs,rfl,av,hz,t⟩:=Ry a7;refine⟨_,(a9 (GN (i:=1) QB.aC rfl rfl rfl (N':=["letter"]) (cs:=[none]) rfl (hU (aa 0)) rfl (by decide+kernel) rfl (by decide+kernel) (jy (λp ay=>bk ay (di))) rfl
    (.own .nil)
    (λC aW aU b0 ez=>⟨(eo (i:=0) (by show(["letter"]:ck).Nodup;decide+kernel) rfl (.inl rfl)),lg,(cU (Dd (K:=K) rfl) (aa 0) bc (λ_ _=>rfl))⟩))
   (bg (cm (b7 zU (aaP rfl (by rfl) B.max (ag (aa 1) aw) bc) (aaQ rfl (by rfl) B.min (ag (aa 1) aw) bc))))),?_⟩
  dsimp only[ht,xU];refine q2 (J:=kW K a) (H1:=H) (xs:=xs) (rest:=[]) (λR h=>⟨_,rfl,a,rfl,⟨_,aJ.of av⟩,h⟩) rfl (q5 (aJ.of av)) (en (by omega)) (λv=>.int (nZ (r3 H v))) (λi x ah R ex az bQ=>?_) (λD H' ai aj bC=>?_)
  .obtain⟨d,cV,hd⟩:=t.get ex;obtain⟨afr,ao0,cB,rfl,_,_⟩:=akk (au d (f_ cV));have qU:=bQ ah (aB.refl _);rw[C0 hd]at qU;clear bQ;obtain⟨r,ys,rfl,h3,_,ty⟩:=abQ (hd.same az);cases ty with
   |cons t0 ty=>
    cases ty with
    |cons t1 ty=>
     cases ty with
     |cons fh ty=>
      cases ty;obtain rfl:=abP t1;exact⟨_,rfl,r,_,_,_,rfl,rfl,cG.of h3,rfl,qU⟩
  .rw[X_ t au]at aj;have q:=q H' bC;unfold DD at q;by_cases hz:ds.map nZ=[]
   .rw[bO hz]at q;refine⟨_,rfl,.int 0,D,ds.map nZ,rfl,rfl,aJ.of aj,λ_=>?_,λz=>bk hz z⟩;exact⟨_,rfl,.int 0,D,ds.map nZ,rfl,rfl,aJ.of aj,λ_=>⟨_,_,rfl,rfl,q⟩,λz=>bk hz z⟩
   .rw[bz hz]at q;refine⟨_,rfl,.int 0,D,ds.map nZ,rfl,rfl,aJ.of aj,λz=>bk z hz,λ_=>?_⟩;exact⟨_,rfl,.int 0,D,ds.map nZ,rfl,rfl,aJ.of aj,λz=>bk z hz,λ_=>⟨_,_,rfl,rfl,q⟩⟩
noncomputable abbrev E1:Stmt:=top 26
theorem D_:de ["net","some","houses","number","thing"] AU (cy E1):={}
theorem Xh:∀{ds:fa}{i:Nat},(∀j,j<i->∀d,ds[j]?=some d->lP hs d=true)->(∃d,ds[i]?=some d/\lP hs d=false)->oJ hs ds=some i
 |[],i,_,⟨d,e,_⟩=>by simp at e
 |x::r,0,_,⟨d,e,h⟩=>by simp at e;subst e;unfold oJ;rw[bz (by rw[h];exact ei)]
 |x::r,i+1,a8,⟨d,e,h⟩=>by unfold oJ;rw[bO (a8 0 (by omega) x rfl),Xh (ds:=r) (i:=i) (λj bu d cV=>a8 (j+1) (by omega) d (by simpa using cV)) ⟨d,by simpa using e,h⟩];rfl
theorem F5:∀{ds:fa},(∀d∈ds,lP hs d=true)↔oJ hs ds=none
 |[]=>by simp[oJ]
 |x::r=>by
  unfold oJ;by_cases h:lP hs x=true
  .rw[bO h];constructor
   .intro q;rw[F5.mp λd hd=>q d (mz _ hd)];rfl
   .intro q;have cH:oJ hs r=none:=by
     cases e:oJ hs r with
     |none=>rfl
     |some k=>rw[e]at q;cases q
    intro d hd;rcases dX.mp hd with rfl|hd
    .exact h
    .exact F5.mpr cH d hd
  .rw[bz h];constructor
   .intro q;exact bk (q x (ts ..)) h
   .intro q;cases q
theorem acp{f:Addr}(F:cz K "letters_of" "letters_of" E1 f fd)(B:eR mg)(vf:JX mg)(fc:fw K C)(hT:d_ K C "houses" "Net.houses" uw fD f1 dN)(k8:aK P w K mg base bq 1 f1 dN fD (zk C))(t6:bX K mg "is_letter" E0 lG f2 eU)(Nv:aK P w K mg base bq 3 f2 eU lG Sl)(tS:bX K mg "turns_apart" HW ["letters"] cS jQ)(M6:aK P w K mg base bq 1 cS jQ ["letters"] QA)(Cp:nA K mg "RoadError" eZ R)(r6:mg "NoLetter"=some (.ref eZ))(Xi:mF K (.ref eZ)=true)(Xj:c_ K (.ref eZ) "__init__"=some (some (.ref nI)))(W_:qF K (.ref nI)=true)(F6:aK P w K mg base bq 1 nI KJ j2 (JY eZ))(Xa:Binds K KJ j2 []):
  aK P w K mg base (mq P w) 4 f fd AU (Tl C eZ):=by
 refine CY F D_ (λ_ A _ s H vs Q E al h=>?_)
 .obtain⟨x,bR,bI,hs,zs,v,ds,rfl,n,G,a7,dd,q,gU⟩:=h;obtain⟨ak,ax⟩:=n.ins;obtain⟨a,xs,rfl,av,hz,t⟩:=Ry a7;refine⟨_,(a9 (c8 (i:=2) D_.aC rfl (ct rfl) (qY (aa 0) fc hT.gi k8 al.mono hT.bd .nil cJ))
   (a9 (j6 ń rfl (Pg rfl B.enumerate (ag (aa 1) aw)) (Ih rfl (oK (eo (i:=3) D_.aC rfl (ct rfl)) (oK (eo (i:=4) D_.aC rfl (ct rfl)) zJ)))
    (bg (dH (jx (i7 (dB Nv al.mono (by rfl) t6.at_ t6.fn.b3 t6.bd .nil cJ (ag (aa 2) (ag (aa 4) aw))))) (bg (GI Cp r6 Xi Xj W_ F6 al.mono Xa rfl (ag (aa 3) aw))) dJ)))
   (a9 (dH (hl.pt (jb (dG sL (df iQ (by rfl) B.len g7 (ag (aa 1) aw)) (nK (by rfl) vf.Ą) (dE _)) (kz (dG sL (dB M6 al.mono (by rfl) tS.at_ tS.fn.b3 tS.bd .nil cJ (ag (aa 1) aw)) (nK (by rfl) vf.ă) (dE _))))) (bg (GI Cp r6 Xi Xj W_ F6 al.mono Xa rfl (ag oT aw))) dJ)
   (bg (cm (iv y9 (by rfl) B.list q6 (ag (aa 1) aw))))))),?_⟩
  refine⟨_,rfl,x,ak,_,rfl,ax,rfl,x,bR,bI,_,_,rfl,n,λl nl=>?_⟩;have s1:aB H (upd H l (.lst (bY hs))):=aZ nl;have iB:=I6 (H:=upd H l (.lst (bY hs))) G aE;generalize upd H l (.lst (bY hs))=H1 at s1 iB⊢;have go:∀(ah:af)(v:ao.V),aB H ah->v=T9 (oJ (bF hs) ds)->¬vv (bF hs) ds->∀e,ah e=none->JY eZ (V.ref e::[v]) (upd ah e (lU e eZ)) (λu aU=>u=.bJ/\∃ak,aU e=some (lT e eZ ak)/\E (.ref eZ) (some ak) (del aU e)) mv:=λah v s2 ev nP e ne=>by
   refine⟨e,v,rfl,aE,λak aC rf=>⟨rfl,ak,aE,?_⟩⟩;have zC:ah ak=none:=by rw[aV rf]at aC;exact aC
   have aF:del (upd (upd (upd ah e (lU e eZ)) ak (nf ak [("number",v)])) e (lT e eZ ak)) e=upd ah ak (nf ak [("number",v)]):=by
    funext b;by_cases ae:b=e
    .subst ae;rw[PU,aV (d3 rf)];exact ne.symm
    .rw[p3 ae,aV ae];by_cases pR:b=ak
     .subst pR;rw[aE,aE]
     .rw[aV pR,aV pR,aV ae]
   rw[aF];refine gU nP ak _ (s2.free zC) (s2.trans (aZ zC)) ?_;rw[aE,ev]
  refine⟨_,rfl,a,rfl,⟨_,aJ.of (s1 _ _ av)⟩,?_⟩;refine Ö (K:=K) (a:=a) (xs:=xs) (λi σ ah=>aB H1 ah/\(∀j,j<i->∀d,ds[j]?=some d->lP (bF hs) d=true)/\∃u v,σ=[some (.ref x),some (.ref a),some (.ref l),u,v]) ⟨aB.refl _,λj bu=>bk bu (by omega),none,none,rfl⟩ (λi σ ah h=>aJ.of (h.1 _ _ (s1 _ _ av))) ?_ ?_
  .rintro i z σ ah p g9 ⟨s2,ae,u,v,rfl⟩ np;obtain⟨d,cV,hd⟩:=t.get g9;have aW:=aZ (o:=.tup [V.int (i:Int),z]) np;have fC:=s1.trans (s2.trans aW);have Lw:ow ds+1<=62:=dd;have kt:d.depth<=61:=e1 (zm (f_ cV)) (by omega);refine⟨p,_,rfl,cG.of aE,rfl,_,_,rfl,_,_,rfl,rfl,?_⟩;refine⟨_,rfl,_,rfl,l,bF hs,z,d,rfl,iB.same (s2.trans aW),hd.same fC,kt,_,rfl,?_⟩;cases hi:lP (bF hs) d with
   |true=>exact f5 ⟨s2.trans aW,λj bu d' nH=>by
     rcases vM j i with h|h
     .exact ae j h d' nH
     .rw[show j=i by omega,cV]at nH;cases nH;exact hi,some (.int (i:Int)),some z,rfl⟩
   |false=>
    have yU:=Xh (hs:=bF hs) ae ⟨d,cV,hi⟩;refine f6 ⟨_,rfl,(by show 1<=sizeLine;decide),go _ _ fC (by rw[yU];rfl) λmY=>?_⟩;have:=mY.1;rw[yU]at this;cases this
  .rintro σ ah ⟨s2,ae,u,v,rfl⟩;have hK:=s1.trans s2;have Vi:∀d∈ds,lP (bF hs) d=true:=λd hd=>by obtain⟨j,bu,rfl⟩:=I4.mp hd;exact ae j (by rw[t.len];exact bu) _ (dW bu)
   have yU:=F5.mp Vi;have agn:=hK _ _ av;have hlen:=t.len;refine⟨_,rfl,a,xs,rfl,.inl (aJ.of agn),_,_,rfl,rfl,_,rfl,?_⟩;by_cases BO:ds.length<=40
   .refine c3 (cM (by omega)) ⟨_,rfl,.ref a,bF hs,ds,rfl,a7.same hK,Vi,λaU aW=>?_⟩;have fC:=hK.trans aW;refine⟨_,_,rfl,rfl,_,rfl,?_⟩;by_cases US:DD (ds.map nZ)<=30
    .refine c3 (cM (by omega)) ?_;refine⟨_,rfl,a,xs,rfl,.inl (aJ.of (fC _ _ av)),λeu V_=>?_⟩;have cK:=aZ (o:=.lst xs) V_;exact q ⟨yU,BO,US⟩ eu _ (fC.free V_) (fC.trans cK) (.lst aE hz (t.same (fC.trans cK)))
    .refine cY (b4 (by omega)) ⟨(by show 1<=sizeLine;decide),go _ _ fC (by rw[yU];rfl) λmY=>US mY.2.2⟩
   .refine cY (b4 (by omega)) ?_;exact f6 ⟨(by show 1<=sizeLine;decide),go _ _ hK (by rw[yU];rfl) λmY=>BO mY.2.1⟩
noncomputable def p6(n l y:Addr):List (Str×ao.V):=[("net",.ref n),("kept_letters",.ref l),("ways",.ref y),("day",.bJ)]
end
structure p7(K:aQ)(C:Addr):Prop where
 cl:fw K C
 nn:c_ K (.ref C) "net"=some none
 nl:c_ K (.ref C) "kept_letters"=some none
 hW:c_ K (.ref C) "ways"=some none
 aC:c_ K (.ref C) "day"=some none
set_option genInjectivity false in
structure e' where
 (ak n l y t bR bI:Addr)
 rs:List Addr
set_option genInjectivity false in
structure fL where
 hs:List cx
 ds:List cQ.fm
 bS:List Bn
 aA:List Row
noncomputable def l6(d:Bn):PyData:=.tuple [.str d.1,.int d.2.1,.str d.2.2]
structure mD(H:af)(A eh:e'):Prop where
 t:eh.t=A.t\/H eh.t=none
 l:eh.l=A.l\/H eh.l=none
 a:eh.bR=A.bR\/H eh.bR=none
 b:eh.bI=A.bI\/H eh.bI=none
theorem mD.refl(H:af)(A:e'):mD H A A:=⟨.inl rfl,.inl rfl,.inl rfl,.inl rfl⟩
structure e7(a6 CW a3:Addr)(H:af)(x:Addr)(A:e')(s:fL):Prop where
 ins:H x=some (.ins a6 A.ak (p6 A.n A.l A.y))
 dK:sJ CW a3 H A.y A.n A.t A.bR A.bI (bY s.hs) (bM A.rs) (b8 s.aA)
 g5:gE H s.hs A.rs s.ds
 lt:cW H (.ref A.l) (.list (s.bS.map l6))
theorem e7.same{A:e'}{s:fL}(D:e7 a6 CW a3 H x A s)(az:aB H H'):e7 a6 CW a3 H' x A s:=⟨az _ _ D.ins,D.dK.same az,D.g5.same az,D.lt.same az⟩
noncomputable def Tame(o:hN):Prop:=(∀C d n l y,o≠.ins C d (p6 n l y))/\∀k,o≠.bV k
noncomputable def rn(H H':af):Prop:=∀b o,Tame o->H b=some o->H' b=some o
theorem q0:Tame (.lst l):=⟨λ_ _ _ _ _=>nofun,λ_=>nofun⟩
theorem PR:Tame (.tup l):=⟨λ_ _ _ _ _=>nofun,λ_=>nofun⟩
theorem CU{t:Addr}:Tame (.ins C d (kb n t)):=⟨λ_ _ _ _ _ h=>(by injection h with _ _ h;exact bk (ek tq h) (show¬(2:Nat)=4 by decide)),λ_=>nofun⟩
theorem į:Tame (.ins C d (JQ a b)):=⟨λ_ _ _ _ _ h=>(by injection h with _ _ h;exact bk (ek tq h) (show¬(2:Nat)=4 by decide)),λ_=>nofun⟩
theorem ka.hL(n:ka C H x bR bI xs ys)(az:rn H H'):ka C H' x bR bI xs ys:=
 let⟨ak,h⟩:=n.ins
 ⟨⟨ak,az _ _ į h⟩,az _ _ q0 n.wH,az _ _ q0 n.p_⟩
theorem ha.hL{rs ds}(h:ha H rs ds)(az:rn H H'):ha H' rs ds:=fH.oW h λ_ _ e=>az _ _ PR e
theorem gE.hL{hs rs ds}(r:gE H hs rs ds)(az:rn H H'):gE H' hs rs ds:=⟨r.fi.hL az,r.ok⟩
mutual
theorem cW.hL{H:af}:∀{v:ao.V}{d:PyData},cW H v d->rn H H'->cW H' v d
 |_,_,.bJ,_=>.bJ
 |_,_,.aM b,_=>.aM b
 |_,_,.int i,_=>.int i
 |_,_,.str x z ok,_=>.str x z ok
 |_,_,.lst h z t,az=>.lst (az _ _ q0 h) z (dQ.hL t az)
 |_,_,.tup h z t,az=>.tup (az _ _ PR h) z (dQ.hL t az)
theorem dQ.hL{H:af}:∀{vs:aR}{ds:fa},dQ H vs ds->rn H H'->dQ H' vs ds
 |_,_,.nil,_=>.nil
 |_,_,.cons a b,az=>.cons (cW.hL a az) (dQ.hL b az)
end
noncomputable def om(x t:Addr)(H H':af):Prop:=∀b o,b≠x->b≠t->H b=some o->H' b=some o
theorem OQ{hs ms:bt}{k:Nat}(h:k<hs.length):(hs++ms).getD k []=hs.getD k []:=by rw[eb,eb,El h]
theorem aaV{hs:bt}{d:cQ.fm}(ok:d.Ok hs.length)(ms:bt):lA (hs++ms) d=lA hs d:=by unfold lA;rw[OQ ok.a,OQ ok.b]
theorem gE.r'{hs rs ds}(r:gE H hs rs ds)(ms:bt):gE H (hs++ms) rs ds:=by
 refine⟨?_,λd hd=>?_⟩
 .rw[AL λd hd=>aaV (r.ok d hd) ms];exact r.fi
 .have o:=r.ok d hd;have l:(hs++ms).length=hs.length+ms.length:=eS;exact⟨by rw[l];exact i1 o.a (R6 ..),by rw[l];exact i1 o.b (R6 ..),o.ne,o.t,o.m⟩
structure l8(hs:bt)(ds:dc)(r:Row):Prop where
 a:r.1∈hs.map S
 b:r.2.1∈hs.map S
 ne:r.1≠r.2.1
 at_:∃(k:Nat)(d:cQ.fm),r.2.2=(k:Int)/\ds[k]?=some d/\S (hs.getD d.a [])=r.1
theorem l8.un{r:Row}(o:l8 hs ds r):fX (bF hs) (.str r.1) (.str r.2.1)=true:=HB o.a o.b o.ne
theorem OR{hs:bt}{ds:dc}{k:Nat}{d:cQ.fm}{h:Str}(e:ds[k]?=some d)(i6:S (hs.getD d.a [])=h):(k:Int)∈jG hs ds (·.a) h:=by
 unfold jG Dy;refine cw.mpr ⟨k,ph.mpr ⟨rN.mpr (gn.mp e).1,b4 ?_⟩,rfl⟩;have cV:ds.getD k fp=d:=by rw[eb,e];rfl
 rw[cV];exact ek V.str i6
theorem l8.ajh{r:Row}(o:l8 hs ds r):r.2.2∈jG hs ds (·.a) r.1:=by obtain⟨k,d,e,cV,i6⟩:=o.at_;rw[e];exact OR cV i6
theorem l8.r'{hs:bt}{ds:dc}{r:Row}(o:l8 hs ds r)(ok:∀d∈ds,d.Ok hs.length)(ms:bt):l8 (hs++ms) ds r:=by
 obtain⟨k,d,e,cV,i6⟩:=o.at_;refine⟨?_,?_,o.ne,k,d,e,cV,?_⟩
 .rw[fk];exact yb _ o.a
 .rw[fk];exact yb _ o.b
 .rw[OQ (ok d (f_ cV)).a];exact i6
theorem l8.K_{ds:dc}{r:Row}(o:l8 hs ds r)(es:dc):l8 hs (ds++es) r:=by obtain⟨k,d,e,cV,i6⟩:=o.at_;refine⟨o.a,o.b,o.ne,k,d,e,?_,i6⟩;rw[El (gn.mp cV).1];exact cV
structure gG(hs:bt)(ds:dc)(aA:List Row):Prop where
 aC:(aA.map λr=>(r.1,r.2.1)).Nodup
 cN:aA.length<64
 ok:∀r∈aA,l8 hs ds r
section
variable{P:cA}{w:bU}{K:aQ}{mg:b9}{base:Heap}
inductive JZ(a6 CW a3:Addr)(vs:aR)(H:af)(Q:a4)(E:bP):Prop where
 |mk (x ew a2 fW:Addr) (A:e') (s:fL) (hs:bt) (rs:c7) (ds:dc) (aT:vs=[.ref x,.ref ew]) (aP:e7 a6 CW a3 H x A s) (bh:ka a3 H ew a2 fW (bY hs) (bM rs)) (cf:Good hs) (cP:gE H hs rs ds) (dM:rs.length<=40) (gk:gG hs ds s.aA)
   (ic:∀H' d9 t',H d9=none->H t'=none->(∀b o,b≠x->H b=some o->H' b=some o)->e7 a6 CW a3 H' x ⟨A.ak,ew,A.l,d9,t',a2,fW,rs⟩ ⟨hs,ds,s.bS,l7 s.aA⟩->Q .bJ H')
noncomputable abbrev Df:Stmt:=iC (top 120) 2
theorem J0:de ["self","net","ways","pair"] kq (cy Df):={}
inductive ο(ah:af)(x ew d9 t':Addr)(rows:List Row)(j:Nat)(σ:ao.St)(H:af):Prop where
 |mk (v:ju) (aT:σ=[some (.ref x),some (.ref ew),some (.ref d9),v]) (aP:∀b o,b≠t'->ah b=some o->H b=some o) (bh:H t'=some (.bV (b8 (rows.take j))))
theorem adB{f:Addr}(F:cz K "change_net" "Desk.change_net" Df f fd)(da:p7 K a6)(jw:fw K CW)(pV:mg "Ways"=some (.ref CW))(Dg:ou K CW hG)(lO:nk K CW "Ways.__init__" zT kq hG r7)(r5:aK P w K mg base bq 1 hG r7 kq (EI CW))(wx:d_ K CW "pairs" "Ways.pairs" G_ fD f1 dN)(akl:aK P w K mg base bq 1 f1 dN fD (TR CW))(lL:d_ K CW "set_way" "Ways.set_way" zS qA f2 eU)(r2:aK P w K mg base (eW P w) 3 f2 eU qA (EJ CW a3 dz gb)):
  aK P w K mg base bq 4 f fd kq (JZ a6 CW a3):=by
 refine F.ok J0 (λ_ qq _ s0 H vs Q E al h=>?_)
 .obtain⟨x,ew,a2,fW,A,s,hs,rs,ds,rfl,D,N,G,R,aiD,T,q⟩:=h;refine⟨_,(a9 (c8 (i:=2) J0.aC rfl (ct rfl) (xb Dg r5 al.mono (by rfl) pV lO.bd .nil cJ (ag (aa 1) aw)))
   (a9 (j6 jL rfl (hU (qY (gf (aa 0) (by rfl)) jw wx.gi akl al.mono wx.bd .nil cJ)) (eo (i:=3) J0.aC rfl (ct rfl))
    (bg (gZ (iS (aa 2) jw lL.gi r2 al.mono lL.bd .nil IM (ag (cU fe (aa 3) bc (λ_ _=>rfl)) (ag (cU fe (aa 3) bc (λ_ _=>rfl)) (ag (cU fe (aa 3) bc (λ_ _=>rfl)) aw)))))))
   (a9 (l1 (aa 0) (aa 1) rfl)
   (bg (l1 (aa 0) (aa 2) rfl))))),?_⟩
  try dsimp only[gR,gQ]
  refine cut λcu bT=>?_;refine⟨_,rfl,λd9 dp hW w9 Wk=>⟨d9,dp,_,rfl,aE,λt' eI=>⟨rfl,?_⟩⟩⟩;have ma:H t'=none:=e4 (fO (o:=.ins CW dp []) hW (aZ (o:=.own d9) w9)) eI;have ty:d9≠t':=cI (H:=upd (upd H dp (.own d9)) d9 (.ins CW dp [])) aE eI;have n5:aB H (upd (upd (upd (upd H dp (.own d9)) d9 (.ins CW dp [])) t' (.bV [])) d9 (.ins CW dp (kb ew t'))):=fO hW (fO ma (fO hW (aZ w9)));have Mc:upd (upd (upd (upd H dp (.own d9)) d9 (.ins CW dp [])) t' (.bV [])) d9 (.ins CW dp (kb ew t')) d9=some (.ins CW dp (kb ew t')):=aE;have uo:upd (upd (upd (upd H dp (.own d9)) d9 (.ins CW dp [])) t' (.bV [])) d9 (.ins CW dp (kb ew t')) t'=some (.bV []):=by rw[aV (d3 ty),aE]
  refine f7 cu bT λcu bT=>?_;show ht _ _ _ _ (upd (upd (upd (upd H dp (.own d9)) d9 (.ins CW dp [])) t' (.bV [])) d9 (.ins CW dp (kb ew t')));generalize upd (upd (upd (upd H dp (.own d9)) d9 (.ins CW dp [])) t' (.bV [])) d9 (.ins CW dp (kb ew t'))=ZO at n5 Mc uo⊢;obtain⟨Up,VD⟩:=D.dK.ins;have cp:x≠t':=cI D.ins ma;refine⟨_,rfl,x,a6,A.ak,_,_,rfl,n5 _ _ D.ins,da.cl,da.hW,rfl,A.y,Up,_,rfl,n5 _ _ VD,rfl,A.y,Up,A.n,A.t,s.aA,rfl,n5 _ _ VD,n5 _ _ D.dK.told,T.cN,λl ah cd nl s2 au dv=>⟨l,rfl,⟨_,aJ.of au⟩,?_⟩⟩;obtain⟨kS,afJ,Ht⟩:=č dv;rw[afJ]at au;have M7:l≠t':=d3 (cI uo nl);have VP:=Ht.len;rw[cj]at VP;have pm:(l7 s.aA).Perm s.aA:=Gy s.aA;have M0:((l7 s.aA).map λr=>(r.1,r.2.1)).Nodup:=(pm.map _).nodup_iff.mpr T.aC;have cN:(l7 s.aA).length<64:=by rw[pm.length_eq];exact T.cN
  refine oL (K:=K) (a:=l) (xs:=bM kS) (ο ah x ew d9 t' (l7 s.aA)) ⟨none,rfl,λb o _ e=>e,s2 _ _ uo⟩ (λj σ jo _⟨_,_,h,_⟩=>aJ.of (h l _ M7 au)) ?_ ?_
  .rintro j v σ jo ev ⟨kT,rfl,aD,cO⟩;unfold bM at ev;rw[d0]at ev;obtain⟨xv,afI,rfl⟩:=iq.mp ev;obtain⟨cc,Uz,Vy⟩:=fH.get Ht afI;rw[d0]at Uz;obtain⟨r,eB,rfl⟩:=iq.mp Uz;have ok:=T.ok r (pm.mem_iff.mp (f_ eB));have n7:aB H jo:=λb o e=>aD b o (cI e ma) (s2 _ _ (n5 _ _ e));have L5:=cG.of (K:=K) (aD xv _ (ao.f9 Vy (s2 _ _ uo) (by intro z;cases z)) Vy);have Ca:=aD d9 _ ty (s2 _ _ Mc);refine⟨_,rfl,d9,dp,_,rfl,Ca,rfl,_,rfl,xv,_,_,_,rfl,rfl,L5,rfl,_,rfl,xv,_,_,_,rfl,rfl,L5,rfl,_,rfl,xv,_,_,_,rfl,rfl,L5,rfl,d9,ew,t',a2,fW,hs,rs,ds,b8 ((l7 s.aA).take j),r.1,r.2.1,r.2.2,rfl,⟨⟨dp,Ca⟩,N.same n7,cO⟩,G,R.same n7,aiD,HV G ok.a,HV G ok.b,en ?_,λ_ _ aU aW=>⟨_,rfl,λb o nb e=>?_,?_⟩,λno=>bk (ok.un.symm.trans no) (by decide),λ_ no=>bk ok.ajh no⟩
   .unfold b8;rw[cj,ya];omega
   .rw[aV nb];exact aW _ _ (aD b o nb e)
   .rw[aE,Ψ M0 eB]
  .rintro σ jo ⟨kT,rfl,aD,cO⟩;rw[i4,VP,ye]at cO;have n7:aB H jo:=λb o e=>aD b o (cI e ma) (s2 _ _ (n5 _ _ e));have Ca:=aD d9 _ ty (s2 _ _ Mc);refine f7 cu bT λcu bT=>?_;refine⟨_,rfl,_,rfl,x,a6,A.ak,_,rfl,n7 _ _ D.ins,da.cl,da.nn,(by show 4<1000;decide),?_⟩;subst bT;refine⟨_,rfl,_,rfl,x,a6,A.ak,_,rfl,aE,da.cl,da.hW,(by show 4<1000;decide),?_⟩;rw[C7];have aoI:=ao.f9 Ca (n7 _ _ D.ins) (by intro z;cases z);have i':∀b o,b≠x->jo b=some o->upd jo x (.ins a6 A.ak (p6 ew A.l d9)) b=some o:=λb o nb e=>by rw[aV nb];exact e
   have st:rn jo (upd jo x (.ins a6 A.ak (p6 ew A.l d9))):=λb o to e=>i' b o (λz=>to.1 _ _ _ _ _ (fG (e.symm.trans ((ek jo z).trans (n7 _ _ D.ins))))) e;exact q _ d9 t' hW ma (λb o nb e=>i' b o nb (n7 _ _ e)) ⟨aE,⟨⟨dp,st _ _ CU Ca⟩,(N.same n7).hL st,i' _ _ (d3 cp) cO⟩,(R.same n7).hL st,(D.lt.same n7).hL st⟩
structure j1(s:fL):Prop where
 g:Good s.hs
 cN:s.ds.length<=40
 aA:gG s.hs s.ds s.aA
 gg:s.hs.length<=7
 lf:s.bS.length<=40
 lk:∀d∈s.bS,fX (bF s.hs) (.str d.1) (.str d.2.2)=true/\0<=d.2.1/\d.2.1<=1000000000
inductive J1(K:aQ)(C e0:Addr)(vs:aR)(H:af)(Q:a4)(E:bP):Prop where
 |good (h:HR K C vs H Q E)
 |bad (h:Po C e0 vs H Q E)
theorem adC{f:Addr}{k:Nat}(F:aK P w K mg base bq k f fd ps (HR K C))(G:aK P w K mg base (eW P w) 5 f fd ps (Po C e0))(aD:k<=5):aK P w K mg base (eW P w) 5 f fd ps (J1 K C e0):=
 ⟨λvs H Q E q=>by
  rcases q with q|q
  .exact F.len vs H Q E q
  .exact G.len vs H Q E q,λA outer s H args us vs Q E al he ae a7 hs=>by
  rcases hs with q|q
  .refine pK ((F.mono aD).run A outer s H args us vs Q E al he ae a7 q) λr s' h=>?_;cases r with
   |ok v=>cases v<;>exact h
   |error e=>exact h.elim
  .exact G.run A outer s H args us vs Q E al he ae a7 q⟩
noncomputable abbrev J2:Stmt:=top 97
theorem adD:de gO gO (cy J2):={}
inductive Tn(a6 CW a3 e0:Addr)(vs:aR)(H:af)(Q:a4)(E:bP):Prop where
 |mk (x v:Addr) (A:e') (s:fL) (u:Str) (aT:vs=[.ref x,.ref v]) (aP:e7 a6 CW a3 H x A s) (bh:H v=some (.lst [.str u])) (cf:j1 s) (cP:cW H (.str u) (.str u))
   (dM:(∃n,u=S n/\Good (s.hs++[n])/\∀H'(eh:e'),mD H A eh->(∀b o,b≠x->H b=some o->H' b=some o)->e7 a6 CW a3 H' x eh ⟨s.hs++[n],s.ds,s.bS,l7 s.aA⟩->Q (.str "ok") H')\/(wO (.list (bF s.hs++[.str u]))=false/\∀H',aB H H'->E (.ref e0) none H'))
theorem acq{f:Addr}(F:cz K "take_house" "take_house" J2 f fd)(da:p7 K a6)(mX:fw K a6)(fc:fw K a3)(p1:mg "Net"=some (.ref a3))(DE:ou K a3 hG)(k':nk K a3 "Net.__init__" xD pn hG r7)(t8:aK P w K mg base (eW P w) 5 hG r7 pn (J1 K a3 e0))(hT:d_ K a3 "houses" "Net.houses" uw fD f1 dN)(k8:aK P w K mg base bq 1 f1 dN fD (zk a3))(lN:d_ K a3 "roads" "Net.roads" zN fD f2 eU)(r4:aK P w K mg base bq 1 f2 eU fD (GR a3))(pB:d_ K a6 "change_net" "Desk.change_net" Df kq cS jQ)(Mm:aK P w K mg base bq 4 cS jQ kq (JZ a6 CW a3)):
  aK P w K mg base (eW P w) 7 f fd gO (Tn a6 CW a3 e0):=by
 refine o1 F adD (λ_ qq _ s0 H vs Q E al h=>?_)
 .refine⟨_,(a9 (gZ (iS (aa 0) mX pB.gi Mm al.mono pB.bd .nil cJ (ag (xb DE t8 al.mono (by rfl) p1 k'.bd .nil oR (ag (b7 uJ (qY (gf (aa 0) (by rfl)) fc hT.gi k8 al.mono hT.bd .nil cJ) (aa 1)) (ag (qY (gf (aa 0) (by rfl)) fc lN.gi r4 al.mono lN.bd .nil cJ) aw))) aw)))
   (bg (cm cv))),?_⟩
  try dsimp only[gR,gQ]
  refine cut λcu bT=>?_;obtain⟨x,v,A,s,u,rfl,D,a7,b',bL,q⟩:=h;obtain⟨gP,aX⟩:=D.dK.hb.ins;have r_:=b'.g.cN;refine⟨_,rfl,x,A.ak,_,rfl,D.ins,rfl,⟨_,rfl,x,a6,A.ak,_,_,rfl,D.ins,da.cl,da.nn,rfl,A.n,gP,_,rfl,aX,rfl,A.n,A.bR,A.bI,_,_,rfl,D.dK.hb,λl nl=>⟨_,rfl,l,v,_,_,rfl,rfl,aE,aZ nl _ _ a7,en (by rw[q4];omega),λp np=>?_⟩⟩⟩;have ah6:=e4 (aZ (o:=.lst (bY s.hs)) nl) np;have s1:aB H (upd (upd H l (.lst (bY s.hs))) p (.lst (bY s.hs++[.str u]))):=fO ah6 (aZ nl);have ay:upd (upd H l (.lst (bY s.hs))) p (.lst (bY s.hs++[.str u])) p=some (.lst (bY s.hs++[.str u])):=aE;generalize upd (upd H l (.lst (bY s.hs))) p (.lst (bY s.hs++[.str u]))=H1 at s1 ay⊢;refine⟨_,rfl,x,a6,A.ak,_,_,rfl,s1 _ _ D.ins,da.cl,da.nn,rfl,A.n,gP,_,rfl,s1 _ _ aX,rfl,A.n,A.bR,A.bI,_,_,rfl,D.dK.hb.same s1,λr fS=>?_⟩;have s2:aB H1 (upd H1 r (.lst (bM A.rs))):=aZ fS;have y7:upd H1 r (.lst (bM A.rs)) r=some (.lst (bM A.rs)):=aE;generalize upd H1 r (.lst (bM A.rs))=ah at s2 y7⊢;intro ew iw nn aC Wa;have aW:aB ah (upd (upd ah iw (.own ew)) ew (.ins a3 iw [])):=fO nn (aZ aC);have jC:upd (upd ah iw (.own ew)) ew (.ins a3 iw []) ew=some (.ins a3 iw []):=aE;generalize upd (upd ah iw (.own ew)) ew (.ins a3 iw [])=aU at aW jC⊢;have fC:=s1.trans (s2.trans aW);have rp:A.rs.length<=40:=by rw[D.g5.len];exact b'.cN
  rcases q with⟨n,rfl,Av,q⟩|⟨no,q⟩
  .have e:bY s.hs++[.str (S n)]=bY (s.hs++[n]):=by unfold bY;rw[fk];rfl
   rw[e]at ay;refine .good ⟨ew,iw,p,r,s.hs++[n],A.rs,s.ds,rfl,jC,aW _ _ (s2 _ _ ay),Av,aW _ _ y7,(D.g5.same fC).r' [n],rp,λdx a2 fW eE ai aj bC cC fB=>⟨rfl,?_⟩⟩;have zG:=e4 (s1.trans s2) nn;have cK:aB H dx:=λb o e=>eE b o (cI e zG) (fC _ _ e);refine⟨x,ew,a2,fW,A,s,s.hs++[n],A.rs,s.ds,rfl,D.same cK,⟨⟨iw,ai⟩,aj,bC⟩,Av,(D.g5.same cK).r' [n],rp,⟨b'.aA.aC,b'.aA.cN,λr al=>(b'.aA.ok r al).r' D.g5.ok [n]⟩,λb1 d9 t' hW eI aD dP=>?_⟩;subst bT;exact q b1 ⟨A.ak,ew,A.l,d9,t',a2,fW,A.rs⟩ ⟨.inr (e4 cK eI),.inl rfl,.inr (e4 fC cC),.inr (e4 fC fB)⟩ (λb o nb e=>aD b o nb (cK _ _ e)) dP
  .exact .bad ⟨ew,iw,.ref p,.ref r,_,_,rfl,jC,(cW.lst ay (by rw[eS,q4];show s.hs.length+1<=100;omega) ((Io b'.g.nm).append (.cons (bL.same s1) .nil))).same (s2.trans aW),.lst (aW _ _ y7) (by rw[i4];omega) (Ip b'.g (D.g5.fi.same fC) D.g5.ok),e1 (ZC _ _) (by decide),.inl no,λH' az=>q H' (fC.trans az)⟩
noncomputable abbrev J3:Stmt:=top 98
theorem To:de ["desk","values","roads"] gO (cy J3):={}
noncomputable def nd(a b:Str)(t m:Int):List ao.V:=[.str a,.str b,.int t,.int m]
noncomputable def O5(a b:Str)(t m:Int):PyData:=.tuple [.str a,.str b,.int t,.int m]
inductive Tp(a6 CW a3 e0:Addr)(vs:aR)(H:af)(Q:a4)(E:bP):Prop where
 |mk (x v:Addr) (A:e') (s:fL) (a b:Str) (t m:Int) (aT:vs=[.ref x,.ref v]) (aP:e7 a6 CW a3 H x A s) (bh:H v=some (.lst (nd a b t m))) (cf:j1 s) (cP:cW H (.str a) (.str a)) (dM:cW H (.str b) (.str b))
   (gk:(∃d:cQ.fm,d.Ok s.hs.length/\s.ds.length<40/\nd a b t m=lA s.hs d/\∀H'(eh:e'),mD H A eh->(∀b o,b≠x->H b=some o->H' b=some o)->e7 a6 CW a3 H' x eh ⟨s.hs,s.ds++[d],s.bS,l7 s.aA⟩->Q (.str (S (cB s.ds.length))) H')\/(C1 (bF s.hs) (.list (s.ds.map (xm s.hs)++[O5 a b t m]))=false/\∀H',aB H H'->E (.ref e0) none H'))
theorem acr{f:Addr}(F:cz K "take_road" "take_road" J3 f fd)(B:eR mg)(da:p7 K a6)(mX:fw K a6)(fc:fw K a3)(p1:mg "Net"=some (.ref a3))(DE:ou K a3 hG)(k':nk K a3 "Net.__init__" xD pn hG r7)(t8:aK P w K mg base (eW P w) 5 hG r7 pn (J1 K a3 e0))(hT:d_ K a3 "houses" "Net.houses" uw fD f1 dN)(k8:aK P w K mg base bq 1 f1 dN fD (zk a3))(lN:d_ K a3 "roads" "Net.roads" zN fD f2 eU)(r4:aK P w K mg base bq 1 f2 eU fD (GR a3))(pB:d_ K a6 "change_net" "Desk.change_net" Df kq cS jQ)(Mm:aK P w K mg base bq 4 cS jQ kq (JZ a6 CW a3)):
  aK P w K mg base (eW P w) 7 f fd gO (Tp a6 CW a3 e0):=by
 refine o1 F To (λ_ qq _ s0 H vs Q E al h=>?_)
 .refine⟨_,(a9 (c8 (i:=2) To.aC rfl (ct rfl) (qY (gf (aa 0) (by rfl)) fc lN.gi r4 al.mono lN.bd .nil cJ))
   (a9 (gZ (iS (aa 0) mX pB.gi Mm al.mono pB.bd .nil cJ (ag (xb DE t8 al.mono (by rfl) p1 k'.bd .nil oR (ag (qY (gf (aa 0) (by rfl)) fc hT.gi k8 al.mono hT.bd .nil cJ) (ag (b7 uJ (aa 2) (d5 (ag (iv ajG (by rfl) B.tuple Ov (ag (aa 1) aw)) aw))) aw))) aw)))
   (bg (cm (iv qO (by rfl) B.str mZ (ag (df iQ (by rfl) B.len g7 (ag (aa 2) aw)) aw)))))),?_⟩
  try dsimp only[gR,gQ]
  refine cut λcu bT=>?_;obtain⟨x,v,A,s,a,b,t,m,rfl,D,a7,b',av,ae,q⟩:=h;obtain⟨gP,aX⟩:=D.dK.hb.ins;have r_:=b'.g.cN;have rp:A.rs.length=s.ds.length:=D.g5.len;have NJ:=b'.cN;refine⟨_,rfl,x,a6,A.ak,_,_,rfl,D.ins,da.cl,da.nn,rfl,A.n,gP,_,rfl,aX,rfl,A.n,A.bR,A.bI,_,_,rfl,D.dK.hb,λr fS=>?_⟩;have uO:aB H (upd H r (.lst (bM A.rs))):=aZ fS;have wJ:upd H r (.lst (bM A.rs)) r=some (.lst (bM A.rs)):=aE;refine f7 cu bT λcu bT=>?_;show ht _ _ _ _ (upd H r (.lst (bM A.rs)));generalize upd H r (.lst (bM A.rs))=tj at uO wJ⊢;refine⟨_,rfl,x,A.ak,_,rfl,uO _ _ D.ins,rfl,⟨_,rfl,x,a6,A.ak,_,_,rfl,uO _ _ D.ins,da.cl,da.nn,rfl,A.n,gP,_,rfl,uO _ _ aX,rfl,A.n,A.bR,A.bI,_,_,rfl,D.dK.hb.same uO,λl nl=>?_⟩⟩;have s1:aB tj (upd tj l (.lst (bY s.hs))):=aZ nl;have au:upd tj l (.lst (bY s.hs)) l=some (.lst (bY s.hs)):=aE;generalize upd tj l (.lst (bY s.hs))=H1 at s1 au⊢;have ahl:=s1 _ _ (uO _ _ a7);refine⟨_,rfl,_,rfl,v,_,rfl,.inl ⟨aJ.of ahl,λdv uE=>⟨(by show 1<=sizeLine;decide),λp np=>⟨r,p,_,_,rfl,rfl,aZ np _ _ (aZ uE _ _ (s1 _ _ wJ)),aE,en (by rw[i4];omega),λc zB=>?_⟩⟩⟩⟩;have Gn:=e4 (aZ (o:=.tup (nd a b t m)) uE) np;have MZ:=e4 (fO (o:=.lst [.ref dv]) Gn (aZ (o:=.tup (nd a b t m)) uE)) zB;have s2:aB H1 (upd (upd (upd H1 dv (.tup (nd a b t m))) p (.lst [.ref dv])) c (.lst (bM A.rs++[.ref dv]))):=fO MZ (fO Gn (aZ uE));have ar:upd (upd (upd H1 dv (.tup (nd a b t m))) p (.lst [.ref dv])) c (.lst (bM A.rs++[.ref dv])) c=some (.lst (bM A.rs++[.ref dv])):=aE;have pU:upd (upd (upd H1 dv (.tup (nd a b t m))) p (.lst [.ref dv])) c (.lst (bM A.rs++[.ref dv])) dv=some (.tup (nd a b t m)):=aZ zB _ _ (aZ np _ _ aE);generalize upd (upd (upd H1 dv (.tup (nd a b t m))) p (.lst [.ref dv])) c (.lst (bM A.rs++[.ref dv]))=ah at s2 ar pU⊢;intro ew iw nn aC Wa;have aW:aB ah (upd (upd ah iw (.own ew)) ew (.ins a3 iw [])):=fO nn (aZ aC);have jC:upd (upd ah iw (.own ew)) ew (.ins a3 iw []) ew=some (.ins a3 iw []):=aE;generalize upd (upd ah iw (.own ew)) ew (.ins a3 iw [])=aU at aW jC⊢;have hK:=uO.trans (s1.trans s2);have fC:=hK.trans aW;rcases q with⟨d,Bw,pL,cV,q⟩|⟨no,q⟩
  .rw[cV]at pU;have eB:bM A.rs++[.ref dv]=bM (A.rs++[dv]):=by unfold bM;rw[fk];rfl
   rw[eB]at ar;have js:∀{dx:af},aB H dx->dx dv=some (.tup (lA s.hs d))->gE dx s.hs (A.rs++[dv]) (s.ds++[d]):=λ{dx}cK c5=>by
    refine⟨?_,λe he=>?_⟩
    .rw[fk];exact(D.g5.fi.same cK).snoc c5
    .rcases ip.mp he with h|h
     .exact D.g5.ok e h
     .rw[gW.mp h];exact Bw
   have VM:(A.rs++[dv]).length<=40:=by rw[eS];show A.rs.length+1<=40;omega
   refine .good ⟨ew,iw,l,c,s.hs,A.rs++[dv],s.ds++[d],rfl,jC,aW _ _ (s2 _ _ au),b'.g,aW _ _ ar,js fC (aW _ _ pU),VM,λdx a2 fW eE ai aj bC cC fB=>⟨rfl,?_⟩⟩;have zG:=e4 hK nn;have cK:aB H dx:=λb o e=>eE b o (cI e zG) (fC _ _ e);refine⟨x,ew,a2,fW,A,s,s.hs,A.rs++[dv],s.ds++[d],rfl,D.same cK,⟨⟨iw,ai⟩,aj,bC⟩,b'.g,js cK (eE _ _ (cI pU nn) (aW _ _ pU)),VM,⟨b'.aA.aC,b'.aA.cN,λr al=>(b'.aA.ok r al).K_ [d]⟩,λb1 d9 t' hW eI aD dP=>?_⟩;subst bT;have ag7:b1 r=some (.lst (bM A.rs)):=aD _ _ (ao.f9 (uO _ _ D.ins) wJ (by intro z;cases z)).symm (eE _ _ (cI (s2 _ _ (s1 _ _ wJ)) nn) (aW _ _ (s2 _ _ (s1 _ _ wJ))));refine⟨_,rfl,r,_,rfl,.inl (aJ.of ag7),((s.ds.length:Nat):Int),?_,pP (by omega),?_⟩
   .rw[i4,rp]
   .show Q (.str (bK (toString ((s.ds.length:Nat):Int)))) b1;rw[nW];exact q b1 ⟨A.ak,ew,A.l,d9,t',a2,fW,A.rs++[dv]⟩ ⟨.inr (e4 cK eI),.inl rfl,.inr (e4 fC cC),.inr (e4 fC fB)⟩ (λb o nb e=>aD b o nb (cK _ _ e)) dP
  .refine .bad ⟨ew,iw,.ref l,.ref c,_,_,rfl,jC,(I6 b'.g au).same (s2.trans aW),.lst (aW _ _ ar) (by rw[eS,i4];show A.rs.length+1<=100;omega) ((Ip b'.g (D.g5.fi.same fC) D.g5.ok).append (.cons (.tup (ds:=[.str a,.str b,.int t,.int m]) (aW _ _ pU) (by show 4<=100;decide) (.cons (av.same fC) (.cons (ae.same fC) (.cons (.int t) (.cons (.int m) .nil))))) .nil)),?_,.inr ⟨_,rfl,no⟩,λH' az=>q H' (fC.trans az)⟩;simp only[pv];refine e1 (Ja (GH (n:=1) λe he=>?_)) (by decide);rcases ip.mp he with h|h
   .obtain⟨y,_,rfl⟩:=cw.mp h;exact PF _ y
   .rw[gW.mp h];exact cL 1
noncomputable abbrev ly(r:Row):Str×Str:=(r.1,r.2.1)
noncomputable def oc(aA:List Row)(h g:Str)(i:Int):List Row:=if(aA.any λr=>decide (ly r=(h,g)))=true then aA.map (λr=>if ly r=(h,g)then(r.1,r.2.1,i)else r)else aA++[(h,g,i)]
noncomputable def vw(aA:List Row)(h g:Str):List Row:=aA.filter λr=>decide (ly r≠(h,g))
theorem HX(r:Row)(h g:Str):([.inr r.1,.inr r.2.1]:List bb)=dy h g↔ly r=(h,g):=by unfold dy ly;simp only[á,aa4,and_true,Prod.mk.injEq]
theorem G8(aA:List Row)(h g:Str)(i:Int):fv (b8 aA) (dy h g) (.int i)=b8 (oc aA h g i):=by
 have e:((b8 aA).any λbN=>decide (bN.1=dy h g))=aA.any λr=>decide (ly r=(h,g)):=by unfold b8;rw[List.any_map];refine ek (aA.any ·) (funext λr=>?_);exact decide_eq_decide.mpr (HX r h g)
 unfold fv oc;rw[e];split
 .unfold b8;rw[jK,jK];refine AL λr _=>?_;show(if _ then _ else _)=_;by_cases z:ly r=(h,g)
  .rw[bO ((HX r h g).mpr z)];show _=((λr:Row=>(([.inr r.1,.inr r.2.1]:List bb),ao.V.int r.2.2)) (if ly r=(h,g)then(r.1,r.2.1,i)else r));rw[bO z]
  .rw[bz λy=>z ((HX r h g).mp y)];show _=((λr:Row=>(([.inr r.1,.inr r.2.1]:List bb),ao.V.int r.2.2)) (if ly r=(h,g)then(r.1,r.2.1,i)else r));rw[bz z]
 .unfold b8;rw[fk];rfl
theorem G9(aA:List Row)(h g:Str):s6 (b8 aA) (dy h g)=b8 (vw aA h g):=by unfold s6 vw b8;rw[RD];refine ek (List.map _) (List.filter_congr λr _=>?_);exact decide_eq_decide.mpr (not_congr (HX r h g))
theorem gG.pop{aA:List Row}(T:gG hs ds aA)(h g:Str):gG hs ds (vw aA h g):=
 ⟨(List.filter_sublist.map _).nodup T.aC,qC (I0 _ _) T.cN,λr al=>T.ok r (ph.mp al).1⟩
theorem gG.perm{aA gz:List Row}(T:gG hs ds aA)(p:gz.Perm aA):gG hs ds gz:=
 ⟨(p.map _).nodup_iff.mpr T.aC,by rw[p.length_eq];exact T.cN,λr al=>T.ok r (p.mem_iff.mp al)⟩
theorem QC{hs:bt}{aA:List Row}(gg:hs.length<=7)(aC:(aA.map ly).Nodup)(ok:∀r∈aA,l8 hs ds r):aA.length<64:=by
 have h:=ď (L:=hs.map S) aC λp ay=>by obtain⟨r,al,rfl⟩:=cw.mp ay;exact⟨(ok r al).a,(ok r al).b⟩
 rw[cj,cj]at h;have:hs.length*hs.length<=7*7:=R7 gg gg;omega
theorem gG.put{hs:bt}{aA:List Row}(T:gG hs ds aA){i:Int}(gg:hs.length<=7)(o:l8 hs ds (h,g,i)):gG hs ds (oc aA h g i):=by
 have aC:((oc aA h g i).map ly).Nodup:=by
  unfold oc;split
  .rw[jK];have e:aA.map (ly∘λr=>if ly r=(h,g)then(r.1,r.2.1,i)else r)=aA.map ly:=AL λr _=>by show ly (if _ then _ else _)=_;split<;>rfl
   rw[e];exact T.aC
  .rename_i aX;rw[fk];refine Ep.mpr ⟨T.aC,by simp,λa av b ae=>?_⟩;rw[gW.mp ae];rintro rfl;refine aX (pg.mpr ?_);obtain⟨r,al,e⟩:=cw.mp av;exact⟨r,al,b4 e⟩
 have ok:∀r∈oc aA h g i,l8 hs ds r:=λr al=>by
  unfold oc at al;split at al
  .obtain⟨cT,h3,e⟩:=cw.mp al;split at e
   .rename_i z;subst e;cases z;exact o
   .subst e;exact T.ok _ h3
  .rcases ip.mp al with h|h
   .exact T.ok r h
   .rw[gW.mp h];exact o
 exact⟨aC,QC gg aC ok,ok⟩
theorem HD(aA:List Row)(h g:Str)(i:Int)(k:List bb):b_ (b8 (oc aA h g i)) k=if k=dy h g then some (.int i)else b_ (b8 aA) k:=by rw[<-G8,zx]
theorem Zk{hs:bt}{ds:dc}{aA:List Row}(R:∀d∈ds,d.Ok hs.length)(gg:hs.length<=7)(aC:aA.Nodup)(mem:∀r,r∈aA↔r∈EY hs ds (hs.map S)):gG hs ds aA:=by
 have fZ:∀e∈fY hs ds,1<=e.t:=λe he=>by obtain⟨d,hd,rfl⟩:=cw.mp he;exact(R d hd).t.1
 have ok:∀r∈aA,l8 hs ds r:=λr al=>by obtain⟨a,b,ne,is,dq⟩:=HC ((mem r).mp al);obtain⟨v,a7⟩:=pq.mp is;have bm:=(P5 fZ a7 ne).1;rw[<-dq]at bm;obtain⟨i,hi⟩:=rM bm;obtain⟨k,d,aF,aG,cR⟩:=Hn (v:=.int r.2.2) (by rw[d0,hi];rfl);exact⟨a,b,ne,k,d,V.int.inj aF,aG,cR⟩
 have V':(aA.map ly).Nodup:=vI.mpr (aC.imp_of_mem λ{a b}av ae ne e=>ne (by
  obtain⟨_,_,_,_,aS⟩:=HC ((mem a).mp av);obtain⟨_,_,_,_,dq⟩:=HC ((mem b).mp ae);obtain⟨a1,a2,fN⟩:=a;obtain⟨iP,fW,pA⟩:=b;cases e;dsimp only at aS dq;rw[aS,dq]))
 exact⟨V',QC gg V' ok,ok⟩
theorem nL.alike{k1 k2:hA}(a:nL hs ds k1)(b:nL hs ds k2)(h g:Str):b_ k1 (dy h g)=b_ k2 (dy h g):=by
 by_cases m:h∈hs.map S/\h≠g/\(fK hs ds h g).isSome=true
 .rw[a.i3.yes h g m,b.i3.yes h g m]
 .rw[a.i3.no h g m,b.i3.no h g m]
end
end c2
namespace b5
open PySem PySem.Spec PyProof.Rows ao
section
variable{P:cA}{w:bU}{K:aQ}{mg:b9}{base:Heap}{N:ck}{qual:Str}{scope:Scope}{f:Addr}{cdv:Value}{A:dn}{outer:List Env}{s:aO}{H:af}{E:bP}
theorem Ĵ{E2:b6}(I:Inv (fI P w K mg base N qual scope f cdv A outer s H E) pins σ cE sc)(T:nV P w (fI P w K mg base N qual scope f cdv A outer s H E).stack cE sc aS cls a0 H' B s')(e9:E cls none H'):
  aN (a_ P w) (A.deeper (oG qual scope s.heap.objs.size f cdv)) (leaving (oG qual scope s.heap.objs.size f cdv) (.ref aS)) (λ_ s2=>eW P w outer H s E (.ref aS) s2) E2 s':=by
 refine ajS I.ok.frames rfl T.fz λaj eg gj=>?_;have oA:hQ (ff (fI P w K mg base N qual scope f cdv A outer s H E).stack) [] cE H' sc.heap s'.heap:=T.un;have xe:∀b o,s.heap.get? b=some o->b∉ff outer->∃cD,B.get? b=some cD/\(H b=none->cD=o):=λb o e ae=>by obtain⟨iZ,z⟩:=I.base.there b o e (by simp[fI,je]);obtain⟨cD,cZ,q⟩:=T.kD b iZ z (zK I e ae);refine⟨cD,cZ,λn=>?_⟩;have aP:=I.base.keep b o e n ae (by simp[fI,je]);rw[z]at aP;cases aP;exact q (I.base.free b _ e n (by simp[fI,je]))
 refine⟨aS,cls,a0,H',B,rfl,⟨eg,T.os.trans I.os,T.bare,T.ok,⟨λb o e n ae fu=>?_,λb o e n ae fu=>?_,λb o e n fu=>?_,λb o e fu=>?_,λb xs q=>T.un.fi b xs (I.base.fi b xs q),λb o u q=>T.un.iT b o u (I.base.iT b o u q),λb ps q=>?_⟩,xe⟩,e9⟩
 .obtain⟨cD,z,q⟩:=xe b o e ae;rw[q n]at z;exact eg.1 b o z
 .obtain⟨bZ,z⟩:=I.base.slot b o e n ae fu;have c6:b∈ff (fI P w K mg base N qual scope f cdv A outer s H E).stack:=by show b∈ff (_::outer);unfold ff;rw[Ek];exact mz _ ae
  obtain⟨NV,aP⟩:=oA.slot b _ z (I.base.free b o e n fu) c6 (by simp);obtain⟨_,ob,bB,gw⟩:=T.fz.2.2.1.mem c6;rw[aP]at bB;cases bB;obtain⟨n8,cZ⟩:=gj b _ aP gw;exact⟨n8,cZ⟩
 .obtain⟨iZ,z⟩:=I.base.there b o e fu;exact oA.free b iZ z (I.base.free b o e n fu) (by simp)
 .by_cases ae:b∈ff outer
  .obtain⟨_,ob,bB,gw⟩:=eg.2.2.1.mem ae;exact⟨ob,bB⟩
  .obtain⟨cD,z,_⟩:=xe b o e ae;exact⟨cD,eg.1 b cD z⟩
 .obtain⟨gh,aF⟩:=I.base.ji b ps q;obtain⟨gv,aG⟩:=T.un.ji b _ aF;exact⟨gh++gv,by rw[aG,PI]⟩
theorem Ol:nU (mq P w) (iR P w K mg base N qual scope f cdv A outer s H E) E:=by rintro pins σ cE sc e s' I ⟨aS,cls,a0,H',B,d2,rfl,T,L,e9⟩;have a8:=Ĵ (K:=K) (mg:=mg) (base:=base) (N:=N) (qual:=qual) (scope:=scope) (f:=f) (cdv:=cdv) (A:=A) (outer:=outer) (s:=s) (H:=H) (E:=λc _ rI=>c=cls/\rI=H') (E2:=λ_ _=>False) (I.m' _) T ⟨rfl,rfl⟩;refine hf (PN WB a8) (λ_ s2 aj=>?_) λ_ _ z=>z.1.elim;obtain⟨⟨Fm,afo,adJ,ah,s_,aF,oA,aG,cR⟩,dO⟩:=aj;cases aF;subst aG cR;refine⟨aS,afo,adJ,ah,s_,d2,rfl,oA,λak hd=>?_,e9⟩;obtain⟨o,aI,FJ⟩:=L ak hd;obtain⟨ob,wG,_⟩:=oA.fz.there;exact⟨ob,wG,(dO.dict aI wG).trans FJ⟩
end
end b5
namespace c2
open PySem ao b5 cQ
section
variable{P:cA}{w:bU}{K:aQ}{mg:b9}{base:Heap}
noncomputable abbrev J4:Stmt:=top 101
theorem adE:de gO gO (cy J4):={}
inductive Tq(a6 CW a3:Addr)(vs:aR)(H:af)(Q:a4)(E:bP):Prop where
 |mk (x:Addr) (v:ao.V) (A:e') (s:fL) (aT:vs=[.ref x,v]) (aP:e7 a6 CW a3 H x A s) (cf:j1 s)
   (dM:∀H'(eh:e')(aA:List Row),mD H A eh->(∀b o,b≠x->H b=some o->H' b=some o)->nL s.hs s.ds (b8 aA)->gG s.hs s.ds aA->e7 a6 CW a3 H' x eh ⟨s.hs,s.ds,s.bS,aA⟩->Q (.str "ok") H')
theorem acs{f:Addr}(F:cz K "take_shortest" "take_shortest" J4 f fd)(da:p7 K a6)(uq:bX K mg "shortest" Hd ["net"] f1 dN)(Zl:aK P w K mg base bq 4 f1 dN ["net"] (TQ CW a3)):
  aK P w K mg base bq 5 f fd gO (Tq a6 CW a3):=by
 refine F.ok adE (λ_ qq _ s0 H vs Q E al h=>?_)
 .refine⟨_,(a9 (l1 (aa 0) (dB Zl al.mono (by rfl) uq.at_ uq.fn.b3 uq.bd .nil cJ (ag (gf (aa 0) (by rfl)) aw)) rfl)
   (bg (cm cv))),?_⟩
  try dsimp only[gR,gQ]
  refine cut λcu bT=>?_;obtain⟨x,v,A,s,rfl,D,b',q⟩:=h;have rp:A.rs.length<=40:=by rw[D.g5.len];exact b'.cN
  refine⟨_,rfl,x,a6,A.ak,_,_,rfl,D.ins,da.cl,da.nn,rfl,A.n,A.bR,A.bI,s.hs,A.rs,s.ds,rfl,D.dK.hb,b'.g,D.g5,rp,λd9 t' H1 kvs hW eI s1 W T=>⟨_,rfl,x,a6,A.ak,_,rfl,s1 _ _ D.ins,da.cl,da.hW,(by show 4<1000;decide),?_⟩⟩;obtain⟨aA,rfl,aC,mem⟩:=T.rows;subst bT;obtain⟨dp,cb⟩:=W.ins;have i':∀b o,b≠x->H1 b=some o->upd H1 x (.ins a6 A.ak (p6 A.n A.l d9)) b=some o:=λb o nb e=>by rw[aV nb];exact e
  have st:rn H1 (upd H1 x (.ins a6 A.ak (p6 A.n A.l d9))):=λb o to e=>i' b o (λz=>to.1 _ _ _ _ _ (fG (e.symm.trans ((ek H1 z).trans (s1 _ _ D.ins))))) e;exact q _ ⟨A.ak,A.n,A.l,d9,t',A.bR,A.bI,A.rs⟩ aA ⟨.inr eI,.inl rfl,.inl rfl,.inl rfl⟩ (λb o nb e=>i' b o nb (s1 _ _ e)) T (Zk D.g5.ok b'.gg aC mem) ⟨aE,⟨⟨dp,st _ _ CU cb⟩,W.hb.hL st,i' _ _ (cI D.ins eI).symm W.told⟩,(D.g5.same s1).hL st,(D.lt.same s1).hL st⟩
noncomputable abbrev J5:Stmt:=top 100
theorem adF:de gO gO (cy J5):={}
noncomputable def s5(aA:List Row)(a b:Str):Option Nat->List Row
 |none=>vw aA a b
 |some i=>oc aA a b (i:Int)
inductive Tr(a6 CW a3 dz gb:Addr)(vs:aR)(H:af)(Q:a4)(E:bP):Prop where
 |mk (x v:Addr) (A:e') (s:fL) (a b:Str) (o:Option Nat) (aT:vs=[.ref x,.ref v]) (aP:e7 a6 CW a3 H x A s) (bh:H v=some (.lst [.str a,.str b,ta o])) (cf:j1 s) (cP:cW H (.str a) (.str a)) (dM:cW H (.str b) (.str b))
   (gk:fX (bF s.hs) (.str a) (.str b)=true->(∀i,o=some i->((i:Nat):Int)∈jG s.hs s.ds (·.a) a)->∀H',om x A.t H H'->e7 a6 CW a3 H' x A ⟨s.hs,s.ds,s.bS,s5 s.aA a b o⟩->Q (.str "ok") H')
   (ic:fX (bF s.hs) (.str a) (.str b)=false->∀H',aB H H'->E (.ref dz) none H')
   (qo:fX (bF s.hs) (.str a) (.str b)=true->∀i,o=some i->((i:Nat):Int)∉jG s.hs s.ds (·.a) a->∀H',aB H H'->E (.ref gb) none H')
theorem acu{f:Addr}(F:cz K "take_way" "take_way" J5 f fd)(da:p7 K a6)(jw:fw K CW)(wc:d_ K CW "drop_way" "Ways.drop_way" G7 hO f1 dN)(ajp:aK P w K mg base (eW P w) 3 f1 dN hO (T8 CW a3 dz))(lL:d_ K CW "set_way" "Ways.set_way" zS qA f2 eU)(r2:aK P w K mg base (eW P w) 3 f2 eU qA (EJ CW a3 dz gb)):
  aK P w K mg base (eW P w) 4 f fd gO (Tr a6 CW a3 dz gb):=by
 refine o1 F adF (λ_ qq _ s0 H vs Q E al h=>?_)
 .refine⟨_,(a9 (dH (dG DA (cU gr (aa 1) bc (λ_ _=>rfl)) oT (dE _)) (bg (gZ (iS (gf (aa 0) (by rfl)) jw wc.gi ajp al.mono wc.bd .nil oR (ag (cU gr (aa 1) bc (λ_ _=>rfl)) (ag (cU gr (aa 1) bc (λ_ _=>rfl)) aw))))) (bg (gZ (iS (gf (aa 0) (by rfl)) jw lL.gi r2 al.mono lL.bd .nil oR (ag (cU gr (aa 1) bc (λ_ _=>rfl)) (ag (cU gr (aa 1) bc (λ_ _=>rfl)) (ag (cU gr (aa 1) bc (λ_ _=>rfl)) aw)))))))
   (bg (cm cv))),?_⟩
  try dsimp only[gR,gQ]
  refine cut λcu bT=>?_;obtain⟨x,v,A,s,a,b,o,rfl,D,a7,b',av,ae,q,bw,cH⟩:=h;obtain⟨dp,cb⟩:=D.dK.ins;have ee:=aJ.of (K:=K) a7;have xM:x≠A.t:=ao.f9 D.ins D.dK.told (by intro z;cases z);have ao4:A.y≠A.t:=ao.f9 cb D.dK.told (by intro z;cases z);have rp:A.rs.length<=40:=by rw[D.g5.len];exact b'.cN
  have fin:∀(H1:af)(aA:List Row),aB H H1->om x A.t H (upd H1 A.t (.bV (b8 aA)))/\e7 a6 CW a3 (upd H1 A.t (.bV (b8 aA))) x A ⟨s.hs,s.ds,s.bS,aA⟩:=λH1 aA s1=>by
   have i':∀b o,b≠A.t->H b=some o->upd H1 A.t (.bV (b8 aA)) b=some o:=λb o nb e=>by rw[aV nb];exact s1 _ _ e
   have st:rn H (upd H1 A.t (.bV (b8 aA))):=λb o to e=>i' b o (λz=>to.2 _ (fG (e.symm.trans ((ek H z).trans D.dK.told)))) e;exact⟨λb o _ nb e=>i' b o nb e,i' _ _ xM D.ins,⟨⟨dp,st _ _ CU cb⟩,D.dK.hb.hL st,aE⟩,D.g5.hL st,D.lt.hL st⟩
  cases o with
  |none=>
   refine⟨_,rfl,v,_,_,_,rfl,rfl,ee,rfl,rfl,_,rfl,cY (b4 rfl) ⟨_,rfl,x,a6,A.ak,_,_,rfl,D.ins,da.cl,da.hW,rfl,A.y,dp,_,rfl,cb,rfl,_,rfl,v,_,_,_,rfl,rfl,ee,rfl,_,rfl,v,_,_,_,rfl,rfl,ee,rfl,A.y,A.n,A.t,A.bR,A.bI,s.hs,_,_,a,b,rfl,D.dK,b'.g,av,ae,λun H1 s1=>?_,λun H1 s1=>bw un H1 s1⟩⟩;subst bT;rw[G9];obtain⟨k,d⟩:=fin H1 (vw s.aA a b) s1;exact q un (λ_ z=>nomatch z) _ k d
  |some i=>
   refine⟨_,rfl,v,_,_,_,rfl,rfl,ee,rfl,rfl,_,rfl,c3 (cM (by intro z;cases z)) ⟨_,rfl,x,a6,A.ak,_,_,rfl,D.ins,da.cl,da.hW,rfl,A.y,dp,_,rfl,cb,rfl,_,rfl,v,_,_,_,rfl,rfl,ee,rfl,_,rfl,v,_,_,_,rfl,rfl,ee,rfl,_,rfl,v,_,_,_,rfl,rfl,ee,rfl,A.y,A.n,A.t,A.bR,A.bI,s.hs,A.rs,s.ds,_,a,b,(i:Int),rfl,D.dK,b'.g,D.g5,rp,av,ae,en ?_,λun cO H1 s1=>?_,λun H1 s1=>bw un H1 s1,λun no H1 s1=>cH un i rfl no H1 s1⟩⟩
   .unfold b8;rw[cj];exact e1 (qB b'.aA.cN) (by decide)
   .subst bT;rw[G8];obtain⟨k,d⟩:=fin H1 (oc s.aA a b i) s1;exact q un (λj z=>by cases z;exact cO) _ k d
noncomputable abbrev JT:Stmt:=top 99
theorem S7:de ["desk","values","letter"] gO (cy JT):={}
inductive S8(a6 CW a3 eZ:Addr)(vs:aR)(H:af)(Q:a4)(E:bP):Prop where
 |mk (x v:Addr) (A:e') (s:fL) (a b:Str) (t:Nat) (aT:vs=[.ref x,.ref v]) (aP:e7 a6 CW a3 H x A s) (bh:H v=some (.lst [.str a,.str b,.int (t:Int)])) (cf:j1 s) (cP:cW H (.str a) (.str a)) (dM:cW H (.str b) (.str b))
   (gk:vv (bF s.hs) ((s.bS++[(a,(t:Int),b)]).map l6)->∀H'(eh:e'),mD H A eh->(∀b o,b≠x->H b=some o->H' b=some o)->e7 a6 CW a3 H' x eh ⟨s.hs,s.ds,s.bS++[(a,(t:Int),b)],s.aA⟩->Q (.str (S (cB s.bS.length))) H')
   (ic:¬vv (bF s.hs) ((s.bS++[(a,(t:Int),b)]).map l6)->∀ak H' fs,H ak=none->aB H H'->H' ak=some (nf ak fs)->E (.ref eZ) (some ak) H')
theorem WF{f:Addr}(F:cz K "take_letter" "take_letter" JT f fd)(B:eR mg)(da:p7 K a6)(tY:bX K mg "letters_of" E1 AU f1 dN)(akm:aK P w K mg base (mq P w) 4 f1 dN AU (Tl a3 eZ)):
  aK P w K mg base (mq P w) 5 f fd gO (S8 a6 CW a3 eZ):=by
 refine CY F S7 (λ_ qq _ s0 H vs Q E al h=>?_)
 .refine⟨_,(a9 (c8 (i:=2) S7.aC rfl (ct rfl) (hE (ag (cU gr (aa 1) bc (λ_ _=>rfl)) (ag (cU gr (aa 1) bc (λ_ _=>rfl)) (ag (cU gr (aa 1) bc (λ_ _=>rfl)) aw)))))
   (a9 (l1 (aa 0) (dB akm al.mono (by rfl) tY.at_ tY.fn.b3 tY.bd .nil Ol (ag (gf (aa 0) (by rfl)) (ag (b7 uJ (gf (aa 0) (by rfl)) (d5 (ag (aa 2) aw))) aw))) rfl)
   (bg (cm (iv qO (by rfl) B.str mZ (ag (b7 zU (df iQ (by rfl) B.len g7 (ag (gf (aa 0) (by rfl)) aw)) bc) aw)))))),?_⟩
  try dsimp only[gR,gQ]
  refine cut λcu bT=>?_;obtain⟨x,v,A,s,a,b,t,rfl,D,a7,b',av,ae,q,gU⟩:=h;have ee:=aJ.of (K:=K) a7;refine⟨_,rfl,v,_,_,_,rfl,rfl,ee,rfl,_,rfl,v,_,_,_,rfl,rfl,ee,rfl,_,rfl,v,_,_,_,rfl,rfl,ee,rfl,(by show 3<=sizeLine;decide),λlt M7=>?_⟩;refine f7 cu bT λcu bT=>?_;show ht _ _ _ _ (upd H lt (.tup [.str a,.int t,.str b]));have s1:aB H (upd H lt (.tup [.str a,.int t,.str b])):=aZ M7;have dw:upd H lt (.tup [.str a,.int t,.str b]) lt=some (.tup [.str a,.int t,.str b]):=aE;generalize upd H lt (.tup [.str a,.int t,.str b])=H1 at s1 dw⊢;generalize hr:s.bS++[(a,(t:Int),b)]=kc at q gU;have Fl:kc.map l6=s.bS.map l6++[l6 (a,(t:Int),b)]:=by rw[<-hr,fk];rfl
  cases D.lt.same s1 with
  |@lst _ xs _ au hz cO=>
  have Gb:xs.length=s.bS.length:=by rw[cO.len,cj]
  have lf:=b'.lf;refine⟨_,rfl,x,a6,A.ak,_,_,rfl,s1 _ _ D.ins,da.cl,da.nn,rfl,⟨_,rfl,x,a6,A.ak,_,_,rfl,s1 _ _ D.ins,da.cl,da.nl,rfl,_,rfl,(by show 1<=sizeLine;decide),λp np=>⟨A.l,p,xs,_,rfl,rfl,aZ np _ _ au,aE,en (by rw[Gb];omega),λc zB=>?_⟩⟩⟩;have MZ:=e4 (aZ (o:=.lst [.ref lt]) np) zB;have s2:aB H1 (upd (upd H1 p (.lst [.ref lt])) c (.lst (xs++[.ref lt]))):=fO MZ (aZ np);have ar:upd (upd H1 p (.lst [.ref lt])) c (.lst (xs++[.ref lt])) c=some (.lst (xs++[.ref lt])):=aE;generalize upd (upd H1 p (.lst [.ref lt])) c (.lst (xs++[.ref lt]))=ah at s2 ar⊢;have hK:=s1.trans s2;have hH:cW ah (.ref c) (.list (kc.map l6)):=by rw[Fl];refine .lst ar (by rw[eS,Gb];show s.bS.length+1<=100;omega) ((cO.same s2).append (.cons (.tup (ds:=[.str a,.int t,.str b]) (s2 _ _ dw) (by show 3<=100;decide) (.cons (av.same hK) (.cons (.int _) (.cons (ae.same hK) .nil)))) .nil))
  refine⟨A.n,A.bR,A.bI,s.hs,_,.ref c,_,rfl,D.dK.hb.same hK,b'.g,hH,?_,λyes ea aU nl aW bC=>?_,λno ak aU aC aW hd=>gU no ak aU _ (e4 hK aC) (hK.trans aW) hd⟩
  .simp only[pv];refine e1 (Ja (GH (n:=1) λe he=>?_)) (by decide);obtain⟨y,_,rfl⟩:=cw.mp he;exact cL 1
  .have fC:=hK.trans aW;refine⟨_,rfl,x,a6,A.ak,_,rfl,fC _ _ D.ins,da.cl,da.nl,(by show 4<1000;decide),?_⟩;subst bT;have i':∀b o,b≠x->aU b=some o->upd aU x (.ins a6 A.ak (p6 A.n ea A.y)) b=some o:=λb o nb e=>by rw[aV nb];exact e
   have st:rn aU (upd aU x (.ins a6 A.ak (p6 A.n ea A.y))):=λb o to e=>i' b o (λz=>to.1 _ _ _ _ _ (fG (e.symm.trans ((ek aU z).trans (fC _ _ D.ins))))) e;obtain⟨dp,cb⟩:=D.dK.ins;have xM:x≠A.t:=ao.f9 D.ins D.dK.told (by intro z;cases z);have fin:=q yes _ ⟨A.ak,A.n,ea,A.y,A.t,A.bR,A.bI,A.rs⟩ ⟨.inl rfl,.inr (e4 hK nl),.inl rfl,.inl rfl⟩ (λb o nb e=>i' b o nb (fC _ _ e)) ⟨aE,⟨⟨dp,st _ _ CU (fC _ _ cb)⟩,(D.dK.hb.same fC).hL st,i' _ _ xM.symm (fC _ _ D.dK.told)⟩,(D.g5.same fC).hL st,bC.hL st⟩;cases bC with
   |@lst _ ys _ uj aoj ahg=>
   have aow:ys.length=s.bS.length+1:=by rw[ahg.len,cj,<-hr,eS];rfl
   have aF:((ys.length:Nat):Int)-1=((s.bS.length:Nat):Int):=by omega
   refine⟨_,rfl,x,a6,A.ak,_,_,rfl,aE,da.cl,da.nl,rfl,ea,ys,rfl,.inl (aJ.of (st _ _ q0 uj)),?_⟩;refine⟨_,_,rfl,rfl,_,rfl,?_,?_⟩
   .rw[aF];exact pP (by omega)
   .rw[aF,nW];exact fin
theorem ĵ{κ:Type}[DecidableEq κ]{kvs:List (κ×ao.V)}{k:κ}(h:b_ kvs k=some v):(k,v)∈kvs:=by unfold b_ at h;obtain⟨p,ay,rfl⟩:=iq.mp h;have e:p.1=k:=rl (RE (p:=λbN:κ×ao.V=>decide (bN.1=k)) ay);rw[<-e];exact RK ay
theorem gG.tab{ds:dc}{aA:List Row}(T:gG hs ds aA):yz (b8 aA) ds.length:=⟨λk v h=>by
 have hm:=ĵ h;unfold b8 at hm;obtain⟨r,al,e⟩:=cw.mp hm;obtain⟨i,d,aF,aG,_⟩:=(T.ok r al).at_;refine⟨i,?_,(gn.mp aG).1⟩;cases e;rw[aF]⟩
theorem PS{kvs:hA}{ds:dc}(t:yz kvs ds.length):∀(n:Nat){h:Str}{sn:ck}{aH kR:cx},kJ kvs hs ds g n h sn aH=.ok kR->(∀k∈aH,k<ds.length)->(∀k∈kR,k<ds.length)/\kR.length<=aH.length+n
 |0,h,sn,aH,kR,e,ok=>by cases e;exact⟨ok,cL _⟩
 |n+1,h,sn,aH,kR,e,ok=>by
  unfold kJ at e;split at e
  .cases e;exact⟨ok,by omega⟩
  .split at e
   .cases e
   .rename_i k e6;split at e
    .cases e
    .rcases t.get h g with⟨_,z⟩|⟨i,_,z,hi⟩
     .rw[z]at e6;cases e6
     .rw[z]at e6;cases e6;obtain⟨a,b⟩:=PS t n e λk aD=>by
       rcases ip.mp aD with h|h
       .exact ok k h
       .rw[gW.mp h];exact hi
      refine⟨a,?_⟩;rw[eS,ï]at b;omega
noncomputable abbrev JU:Stmt:=top 103
theorem adG:de gO gO (cy JU):={}
inductive S9(a6 CW a3 dz:Addr)(vs:aR)(H:af)(Q:a4)(E:bP):Prop where
 |mk (x v:Addr) (A:e') (s:fL) (a b:Str) (o:Option Nat) (aT:vs=[.ref x,.ref v]) (aP:e7 a6 CW a3 H x A s) (bh:H v=some (.lst [.str a,.str b])) (cf:j1 s)
   (cP:a∈s.hs.map S->b∈s.hs.map S->A5 (b2.dist (fY s.hs s.ds) a b)=ta o) (dM:∀m,o=some m->m<10 ^ 10)
   (gk:a∈s.hs.map S->b∈s.hs.map S->∀H',aB H H'->Q (.str (qh o)) H') (ic:a∉s.hs.map S\/b∉s.hs.map S->E (.ref dz) none H)
theorem acd{f:Addr}(F:cz K "tell_far" "tell_far" JU f fd)(da:p7 K a6)(fc:fw K a3)(wQ:d_ K a3 "far" "Net.far" EZ hO f1 dN)(Ω:aK P w K mg base (eW P w) 3 f1 dN hO (Tj a3 dz))(nC:bX K mg "number_or_dash" Di qz f2 eU)(Mn:aK P w K mg base bq 1 f2 eU qz JO):
  aK P w K mg base (eW P w) 4 f fd gO (S9 a6 CW a3 dz):=by
 refine o1 F adG (λ_ qq _ s0 H vs Q E al h=>?_)
 .refine⟨_,(bg (cm (dB Mn al.mono (by rfl) nC.at_ nC.fn.b3 nC.bd .nil cJ (ag (iS (gf (aa 0) (by rfl)) fc wQ.gi Ω al.mono wQ.bd .nil oR (ag (cU gr (aa 1) bc (λ_ _=>rfl)) (ag (cU gr (aa 1) bc (λ_ _=>rfl)) aw))) aw)))),?_⟩
  try dsimp only[gR,gQ]
  obtain⟨x,v,A,s,a,b,o,rfl,D,a7,b',oH,Kf,q,gU⟩:=h;have ee:=aJ.of (K:=K) a7;obtain⟨gP,aX⟩:=D.dK.hb.ins;refine⟨_,rfl,x,a6,A.ak,_,_,rfl,D.ins,da.cl,da.nn,rfl,A.n,gP,_,rfl,aX,rfl,_,rfl,v,_,_,_,rfl,rfl,ee,rfl,_,rfl,v,_,_,_,rfl,rfl,ee,rfl,A.n,A.bR,A.bI,s.hs,A.rs,s.ds,a,b,rfl,D.dK.hb,D.g5,b'.g.cN,λgh gv H' az=>?_,gU⟩;rw[oH gh gv];exact⟨o,rfl,Kf,q gh gv H' az⟩
noncomputable abbrev JV:Stmt:=top 104
theorem adH:de gO gO (cy JV):={}
inductive S'(a6 CW a3 dz eL:Addr)(vs:aR)(H:af)(Q:a4)(E:bP):Prop where
 |mk (x v:Addr) (A:e') (s:fL) (a b:Str) (aT:vs=[.ref x,.ref v]) (aP:e7 a6 CW a3 H x A s) (bh:H v=some (.lst [.str a,.str b])) (cf:j1 s)
   (cP:a∈s.hs.map S->b∈s.hs.map S->∀aH,kJ (b8 s.aA) s.hs s.ds b 13 a [a] []=.ok aH->∀H',aB H H'->Q (.str (S (eO [32] (aH.map cB)))) H')
   (dM:a∈s.hs.map S->b∈s.hs.map S->∀rA sn,kJ (b8 s.aA) s.hs s.ds b 13 a [a] []=.no rA sn->∀ak H' fs,H ak=none->aB H H'->H' ak=some (nf ak fs)->E (.ref eL) (some ak) H')
   (gk:a∉s.hs.map S\/b∉s.hs.map S->E (.ref dz) none H)
theorem ace{f:Addr}(F:cz K "tell_route" "tell_route" JV f fd)(da:p7 K a6)(jw:fw K CW)(wy:d_ K CW "route" "Ways.route" Hb hO f1 dN)(akn:aK P w K mg base (mq P w) 3 f1 dN hO (TT CW a3 dz eL))(tT:bX K mg "with_blanks" Hf ["numbers"] f2 eU)(ajD:aK P w K mg base bq 2 f2 eU ["numbers"] (TS K)):
  aK P w K mg base (mq P w) 4 f fd gO (S' a6 CW a3 dz eL):=by
 refine CY F adH (λ_ qq _ s0 H vs Q E al h=>?_)
 .refine⟨_,(bg (cm (dB ajD al.mono (by rfl) tT.at_ tT.fn.b3 tT.bd .nil cJ (ag (iS (gf (aa 0) (by rfl)) jw wy.gi akn al.mono wy.bd .nil Ol (ag (cU gr (aa 1) bc (λ_ _=>rfl)) (ag (cU gr (aa 1) bc (λ_ _=>rfl)) aw))) aw)))),?_⟩
  try dsimp only[gR,gQ]
  obtain⟨x,v,A,s,a,b,rfl,D,a7,b',q,aiz,gU⟩:=h;have ee:=aJ.of (K:=K) a7;obtain⟨dp,cb⟩:=D.dK.ins;refine⟨_,rfl,x,a6,A.ak,_,_,rfl,D.ins,da.cl,da.hW,rfl,A.y,dp,_,rfl,cb,rfl,_,rfl,v,_,_,_,rfl,rfl,ee,rfl,_,rfl,v,_,_,_,rfl,rfl,ee,rfl,A.y,A.n,A.t,A.bR,A.bI,s.hs,A.rs,s.ds,b8 s.aA,a,b,rfl,D.dK,b'.g,D.g5,b'.aA.tab,λgh gv=>?_,gU⟩;cases e:kJ (b8 s.aA) s.hs s.ds b 13 a [a] []with
  |ok aH=>
   intro l H1 nl s1 au;obtain⟨jj,m9⟩:=PS b'.aA.tab 13 e (λ_ z=>bk z di);have of:=b'.cN;exact⟨l,aH,rfl,aJ.of au,by rw[x_]at m9;omega,λk aD=>i1 (jj k aD) (e1 of (by decide)),λH' s2=>q gh gv aH e H' (s1.trans s2)⟩
  |no rA sn=>
   intro ak l H1 aC nl V5 s1 hd au;exact aiz gh gv rA sn e ak H1 _ aC s1 hd
noncomputable def uT:gD:=λ_ _ _ _=>False
theorem vx{k:Nat}{f:Addr}:aK P w K mg base bq k f fd ps uT:=⟨λ_ _ _ _ h=>h.elim,λ_ _ _ _ _ _ _ _ _ _ _ _ _ h=>h.elim⟩
noncomputable abbrev G6:Stmt:=iC (top 120) 0
theorem aeZ:de fD fD (cy G6):={}
inductive T'(a6 CW a3:Addr)(vs:aR)(H:af)(Q:a4)(E:bP):Prop where
 |mk (x ak:Addr) (aT:vs=[.ref x]) (aP:H x=some (.ins a6 ak [])) (bh:∀H'(A:e'),A.ak=ak->H A.t=none->(∀b o,b≠x->H b=some o->H' b=some o)->e7 a6 CW a3 H' x A ⟨[],[],[],[]⟩->Q .bJ H')
theorem adI{f:Addr}(F:cz K "__init__" "Desk.__init__" G6 f fd)(da:p7 K a6)(mX:fw K a6)(p1:mg "Net"=some (.ref a3))(pV:mg "Ways"=some (.ref CW))(DE:ou K a3 qQ)(k':nk K a3 "Net.__init__" xD pn qQ BI)(t8:aK P w K mg base bq 5 qQ BI pn (HR K a3))(Dg:ou K CW hG)(lO:nk K CW "Ways.__init__" zT kq hG r7)(r5:aK P w K mg base bq 1 hG r7 kq (EI CW)):
  aK P w K mg base bq 7 f fd fD (T' a6 CW a3):=by
 refine F.ok aeZ (λ_ qq _ s0 H vs Q E al h=>?_)
 .refine⟨_,(a9 (l1 (aa 0) (xb DE t8 al.mono (by rfl) p1 k'.bd .nil cJ (ag (d5 aw) (ag (d5 aw) aw))) rfl)
   (a9 (l1 (aa 0) (d5 aw) rfl)
   (a9 (l1 (aa 0) (xb Dg r5 al.mono (by rfl) pV lO.bd .nil cJ (ag (gf (aa 0) (by rfl)) aw)) rfl)
   (bg (l1 (aa 0) oT rfl))))),?_⟩
  try dsimp only[gR,gQ]
  refine cut λcu bT=>?_;obtain⟨x,ak,rfl,ax,q⟩:=h;refine⟨(by show 0<=sizeLine;decide),λa na=>⟨(by show 0<=sizeLine;decide),λb nb=>?_⟩⟩;have s1:aB H (upd (upd H a (.lst [])) b (.lst [])):=(aZ na).trans (aZ nb);have av:upd (upd H a (.lst [])) b (.lst []) a=some (.lst []):=aZ nb _ _ aE;have ae:upd (upd H a (.lst [])) b (.lst []) b=some (.lst []):=aE;generalize upd (upd H a (.lst [])) b (.lst [])=H1 at s1 av ae⊢;intro n gP nn aC Wa;have s2:aB H1 (upd (upd H1 gP (.own n)) n (.ins a3 gP [])):=fO nn (aZ aC);refine⟨n,gP,a,b,[],[],[],rfl,aE,s2 _ _ av,⟨λ_ z=>bk z di,oq,ej _⟩,s2 _ _ ae,Ow [],ej _,λah a2 fW eE ai aj bC cC fB=>⟨rfl,?_⟩⟩;have zG:=e4 s1 nn;have aW:aB H ah:=λb o e=>eE b o (cI e zG) (s2 _ _ (s1 _ _ e));have XV:x≠a2:=cI (s2 _ _ (s1 _ _ ax)) cC;have XW:x≠fW:=cI (s2 _ _ (s1 _ _ ax)) fB;refine⟨_,rfl,x,a6,ak,_,rfl,aW _ _ ax,da.cl,da.nn,(by show 0<1000;decide),?_⟩;refine f7 cu bT λcu bT=>?_;show ht _ _ _ _ (upd ah x (.ins a6 ak [("net",.ref n)]));have X0:n≠x:=(cI ax zG).symm;have k3:∀b o,b≠x->ah b=some o->upd ah x (.ins a6 ak [("net",.ref n)]) b=some o:=λb o nb e=>by rw[aV nb];exact e
  have N_:∀b o,b≠x->H b=some o->upd ah x (.ins a6 ak [("net",.ref n)]) b=some o:=λb o nb e=>k3 b o nb (aW _ _ e);have N:ka a3 (upd ah x (.ins a6 ak [("net",.ref n)])) n a2 fW (bY []) (bM []):=⟨⟨gP,k3 _ _ X0 ai⟩,k3 _ _ XV.symm aj,k3 _ _ XW.symm bC⟩
  have L_:upd ah x (.ins a6 ak [("net",.ref n)]) x=some (.ins a6 ak [("net",.ref n)]):=aE;generalize upd ah x (.ins a6 ak [("net",.ref n)])=aU at N_ N L_⊢;refine⟨(by show 0<=sizeLine;decide),λl nl=>⟨_,rfl,x,a6,ak,_,rfl,aZ nl _ _ L_,da.cl,da.nl,(by show 1<1000;decide),?_⟩⟩;refine f7 cu bT λcu bT=>?_;show ht _ _ _ _ (upd (upd aU l (.lst [])) x (.ins a6 ak [("net",.ref n),("kept_letters",.ref l)]));have XY:l≠x:=(cI L_ nl).symm;have oS:∀b o,b≠x->aU b=some o->upd (upd aU l (.lst [])) x (.ins a6 ak [("net",.ref n),("kept_letters",.ref l)]) b=some o:=λb o nb e=>by rw[aV nb];exact aZ nl _ _ e
  have Vl:upd (upd aU l (.lst [])) x (.ins a6 ak [("net",.ref n),("kept_letters",.ref l)]) l=some (.lst []):=by rw[aV XY];exact aE
  have sl:upd (upd aU l (.lst [])) x (.ins a6 ak [("net",.ref n),("kept_letters",.ref l)]) x=some (.ins a6 ak [("net",.ref n),("kept_letters",.ref l)]):=aE;generalize upd (upd aU l (.lst [])) x (.ins a6 ak [("net",.ref n),("kept_letters",.ref l)])=dx at oS Vl sl⊢;refine⟨_,rfl,x,a6,ak,_,_,rfl,sl,da.cl,da.nn,rfl,λy dp hW w9 Wk=>⟨y,dp,_,rfl,aE,λt eI=>⟨rfl,?_⟩⟩⟩;have ma:dx t=none:=e4 (fO (o:=.ins CW dp []) hW (aZ (o:=.own y) w9)) eI;have ty:y≠t:=cI (H:=upd (upd dx dp (.own y)) y (.ins CW dp [])) aE eI;have dY:aB dx (upd (upd (upd (upd dx dp (.own y)) y (.ins CW dp [])) t (.bV [])) y (.ins CW dp [("net",.ref n),("told",.ref t)])):=fO hW (fO ma (fO hW (aZ w9)));have VC:upd (upd (upd (upd dx dp (.own y)) y (.ins CW dp [])) t (.bV [])) y (.ins CW dp [("net",.ref n),("told",.ref t)]) y=some (.ins CW dp [("net",.ref n),("told",.ref t)]):=aE;have Vx:upd (upd (upd (upd dx dp (.own y)) y (.ins CW dp [])) t (.bV [])) y (.ins CW dp [("net",.ref n),("told",.ref t)]) t=some (.bV []):=by rw[aV (d3 ty),aE]
  generalize upd (upd (upd (upd dx dp (.own y)) y (.ins CW dp [])) t (.bV [])) y (.ins CW dp [("net",.ref n),("told",.ref t)])=b1 at dY VC Vx⊢;refine⟨_,rfl,x,a6,ak,_,rfl,dY _ _ sl,da.cl,da.hW,(by show 2<1000;decide),?_⟩;subst bT;refine⟨_,rfl,x,a6,ak,_,rfl,aE,da.cl,da.aC,(by show 3<1000;decide),?_⟩;rw[C7];have xN:y≠x:=(cI sl hW).symm;have xM:t≠x:=(cI sl ma).symm;have zf:∀b o,b≠x->b1 b=some o->upd b1 x (.ins a6 ak (p6 n l y)) b=some o:=λb o nb e=>by rw[aV nb];exact e
  have F7:∀b o,b≠x->aU b=some o->upd b1 x (.ins a6 ak (p6 n l y)) b=some o:=λb o nb e=>zf b o nb (dY _ _ (oS b o nb e));obtain⟨iw,jC⟩:=N.ins;have ai8:H t=none:=by
   cases e:H t with
   |none=>rfl
   |some o=>rw[oS t o xM (N_ t o xM e)]at ma;cases ma
  refine q _ ⟨ak,n,l,y,t,a2,fW,[]⟩ rfl ai8 (λb o nb e=>F7 b o nb (N_ b o nb e)) ⟨aE,⟨⟨dp,zf _ _ xN VC⟩,⟨⟨iw,F7 _ _ X0 jC⟩,F7 _ _ ?_ N.wH,F7 _ _ ?_ N.p_⟩,zf _ _ xM Vx⟩,Ow [],.lst (zf _ _ XY (dY _ _ Vl)) (ej _) .nil⟩
  .exact XV.symm
  .exact XW.symm
structure S_(K:aQ)(C:Addr):Prop where
 cl:fw K C
 nn:c_ K (.ref C) "net"=some none
 zE:c_ K (.ref C) "goals"=some none
 ns:c_ K (.ref C) "steps"=some none
noncomputable abbrev E3:Stmt:=iC (top 34) 0
noncomputable abbrev S3:Stmt:=iC (top 34) 1
theorem S4:de ["self","net","letters","letter"] AR (cy E3):={}
inductive S5(C:Addr)(vs:aR)(H:af)(Q:a4)(E:bP):Prop where
 |mk (x ak n h7:Addr) (aT:vs=[.ref x,.ref n,.ref h7]) (aP:H x=some (.ins C ak [])) (bh:H h7=some (.lst [])) (cf:∀H',(∀b o,b≠x->H b=some o->H' b=some o)->Q .bJ H')
theorem acf{f:Addr}(F:cz K "__init__" "Walk.__init__" E3 f fd)(e3:S_ K C)(pW:fw K C)(yT:d_ K C "take_in" "Walk.take_in" S3 ["self","letter"] f1 dN):aK P w K mg base bq 2 f fd AR (S5 C):=by
 have ajE:aK P w K mg base bq 1 f1 dN ["self","letter"] uT:=vx;refine F.ok S4 (λ_ A _ s H vs Q E al h=>?_)
 .refine⟨_,(a9 (l1 (aa 0) (aa 1) rfl)
   (a9 (l1 (aa 0) (d5 aw) rfl)
   (a9 (l1 (aa 0) (d5 aw) rfl)
   (bg (j6 jL rfl (hU (aa 2)) (eo (i:=3) S4.aC rfl (ct rfl))
    (bg (gZ (iS (aa 0) pW yT.gi ajE al.mono yT.bd .nil cJ (ag (aa 3) aw))))))))),?_⟩
  try dsimp only[gR,gQ]
  obtain⟨x,ak,n,h7,rfl,ax,wF,q⟩:=h;have CK:h7≠x:=ao.f9 wF ax (by intro z;cases z);refine⟨_,rfl,_,rfl,x,C,ak,_,rfl,ax,e3.cl,e3.nn,(by show 0<1000;decide),(by show 0<=sizeLine;decide),λg zE=>?_⟩;have V8:g≠x:=λz=>by rw[z,aE]at zE;cases zE
  refine⟨_,rfl,x,C,ak,_,rfl,(by rw[aV V8.symm,aE]),e3.cl,e3.zE,(by show 1<1000;decide),(by show 0<=sizeLine;decide),λst xa=>?_⟩;have Nj:st≠x:=λz=>by rw[z,aE]at xa;cases xa
  refine⟨_,rfl,x,C,ak,_,rfl,(by rw[aV Nj.symm,aE]),e3.cl,e3.ns,(by show 2<1000;decide),?_⟩;rw[aV V8]at zE;rw[aV Nj]at xa;have aic:st≠g:=λz=>by rw[z,aE]at xa;cases xa
  rw[aV aic,aV Nj]at xa;have k:∀{iZ rj Gs:hN}b o,b≠x->H b=some o->upd (upd (upd (upd (upd H x iZ) g (.lst [])) x rj) st (.lst [])) x Gs b=some o:=λ{iZ rj Gs}b o nb e=>by rw[aV nb,aV (cI e xa),aV nb,aV (cI e zE),aV nb];exact e
  refine⟨_,rfl,h7,rfl,⟨_,aJ.of (xs:=[]) (k _ _ CK wF)⟩,?_⟩;refine oL (K:=K) (a:=h7) (xs:=[]) (λ_ σ jo=>∀b o,b≠x->H b=some o->jo b=some o) k (λj σ jo _ h=>aJ.of (h _ _ CK wF)) (λj v σ jo ev _=>by simp at ev) (λσ jo h=>q jo h)
theorem aaW{wi:el}{rest:ao.St}{Q:a4}{H1:af}(hw:∀R:gm->af->Prop,R (rK K a) H1->wi σ H R)(g0:h5 cs σ=none::none::rest)(av:aJ K H1 a [])(fin:∀(D:Addr)(H':af),H1 D=none->H' D=some (.lst [])->aB H1 H'->Q (.ref D) H'):o5 wi cs (vm K 2 (p4 (jD 0) (p4 (jD 1) xT))) tt te σ H Q:=
 hw _ (Qv g0 av (en (by decide)) (λ_ _=>true) (λ_ v=>v) (λi x ah R ev=>by simp at ev) (λi x ah R ev=>by simp at ev) λD H' l_ bF az=>fin D H' l_ bF az)
noncomputable abbrev E4:Stmt:=top 44
noncomputable abbrev WH:Stmt:=top 41
noncomputable abbrev WG:Stmt:=top 43
noncomputable abbrev S6:Stmt:=iC (top 34) 2
noncomputable abbrev Sm:Stmt:=iC (top 34) 5
noncomputable abbrev Sn:Stmt:=iC (top 34) 6
noncomputable abbrev ae0:List Str:=["net","letters","ways","walk","going","plan","turn","bag"]
theorem uW:de ae0 AS (cy E4):={}
inductive So(vs:aR)(H:af)(Q:a4)(E:bP):Prop where
 |mk (n h7 y:Addr) (aT:vs=[.ref n,.ref h7,.ref y]) (aP:H h7=some (.lst [])) (bh:∀l H',aB H H'->H' l=some (.lst [])->Q (.ref l) H')
theorem aaG{f:Addr}(F:cz K "run" "run" E4 f fd)(B:eR mg)(pW:fw K C)(Dj:mg "Walk"=some (.ref C))(aaH:ou K C qQ)(wM:nk K C "Walk.__init__" E3 AR qQ BI)(Yv:aK P w K mg base bq 2 qQ BI AR (S5 C))(wN:bX K mg "has_route" WH ["letter","ways"] f1 dN)(yM:d_ K C "last_turn" "Walk.last_turn" Sm j2 f2 eU)(wR:bX K mg "bags_at" WG ["net","walk","going","ways","turn"] cS jQ)(ze:d_ K C "send" "Walk.send" S6 ["self","bag"] f4 wo)(yN:d_ K C "home_turn" "Walk.home_turn" Sn j2 d7 BH):
  aK P w K mg base bq 6 f fd AS So:=by
 have Yw:aK P w K mg base bq 1 f1 dN ["letter","ways"] uT:=vx;have ajd:aK P w K mg base bq 1 f2 eU j2 uT:=vx;have À:aK P w K mg base bq 1 cS jQ ["net","walk","going","ways","turn"] uT:=vx;have Yx:aK P w K mg base bq 1 f4 wo ["self","bag"] uT:=vx;have aje:aK P w K mg base bq 1 d7 BH j2 uT:=vx;refine F.ok uW (λcdv A outer s H vs Q E al h=>?_)
 .refine⟨_,(a9 (c8 (i:=3) uW.aC rfl (qE rfl) (xb aaH Yv al.mono (by rfl) Dj wM.bd .nil cJ (ag (aa 0) (ag (aa 1) aw))))
   (a9 (GN (i:=4) uW.aC rfl rfl rfl (N':=["number","letter","ways"]) (cs:=[none,none,some 2]) rfl (Pg rfl B.enumerate (ag (aa 1) aw)) rfl (by decide+kernel) rfl (by decide+kernel) (jy (dj.mpr ⟨rfl,(λp ay=>bk ay (di))⟩)) rfl
    (.own (.own (.mM rfl (.inl rfl) (.inl rfl) rfl .nil)))
    (λC aW aU b0 ez=>⟨(Hz (K:=K) (n:=2) rfl rfl (oK (eo (i:=0) (by show(["number","letter","ways"]:ck).Nodup;decide+kernel) rfl (.inl rfl)) (oK (eo (i:=1) (by show(["number","letter","ways"]:ck).Nodup;decide+kernel) rfl (.inl rfl)) zJ))),(Hy (i7 (dB Yw al.mono (by rfl) wN.at_ wN.fn.b3 wN.bd .nil cJ (ag (aa 1) (ag (aa 2) aw))))),(aa 0)⟩))
   (a9 (c8 (i:=5) uW.aC rfl (ct rfl) (d5 aw))
   (a9 (c8 (i:=6) uW.aC rfl (ct rfl) (IL Ic bc))
   (a9 (G0 jL (Ε (aa 4) (λ_=>rfl))
    (a9 (c8 (i:=6) uW.aC rfl (ct rfl) (df (ZP rfl) (by rfl) B.max Ta (ag (b7 oU (aa 6) bc) (ag (df (Oi rfl) (by rfl) B.min I5 (ag (lq (N':=["number","walk"]) (cs:=[none,some 3]) rfl (hU (aa 4)) rfl (by decide+kernel) rfl (by decide+kernel) (jy (dj.mpr ⟨rfl,(λp ay=>bk ay (di))⟩)) rfl
    (.own (.mM rfl (.inl rfl) (.inl rfl) rfl .nil))
    (λC aW aU b0 ez=>⟨(eo (i:=0) (by show(["number","walk"]:ck).Nodup;decide+kernel) rfl (.inl rfl)),lg,(iS (aa 1) pW yM.gi ajd al.mono yM.bd .nil cJ (ag (aa 0) aw))⟩)) aw)) aw))))
   (a9 (j6 jL rfl (hU (dB À al.mono (by rfl) wR.at_ wR.fn.b3 wR.bd .nil cJ (ag (aa 0) (ag (aa 3) (ag (aa 4) (ag (aa 2) (ag (aa 6) aw))))))) (eo (i:=7) uW.aC rfl (ct rfl))
    (a9 (gZ (iS (aa 3) pW ze.gi Yx al.mono ze.bd .nil cJ (ag (aa 7) aw)))
   (bg (gZ (l5 rT tw tx qR (aa 5) (ag (aa 7) aw))))))
   (bg (GN (i:=4) uW.aC rfl rfl rfl (N':=["number","walk"]) (cs:=[none,some 3]) rfl (hU (aa 4)) rfl (by decide+kernel) rfl (by decide+kernel) (jy (dj.mpr ⟨rfl,(λp ay=>bk ay (di))⟩)) rfl
    (.own (.mM rfl (.inl rfl) (.inl rfl) rfl .nil))
    (λC aW aU b0 ez=>⟨(eo (i:=0) (by show(["number","walk"]:ck).Nodup;decide+kernel) rfl (.inl rfl)),(Hy (dG DA (iS (aa 1) pW yN.gi aje al.mono yN.bd .nil cJ (ag (aa 0) aw)) oT (dE _))),(aa 0)⟩))))))
   (bg (cm (aa 5)))))))),?_⟩
  try dsimp only[gR,gQ]
  obtain⟨n,h7,y,rfl,wF,q⟩:=h;refine cut λcu bT=>?_;refine⟨_,rfl,_,rfl,λx ak cp zD aC=>?_⟩;have s1:aB H (upd (upd H ak (.own x)) x (.ins C ak [])):=fO cp (aZ zD);refine⟨x,ak,n,h7,rfl,aE,s1 _ _ wF,λH1 k1=>⟨rfl,?_⟩⟩;have s2:aB H H1:=λb o e=>k1 b o (cI e cp) (s1 _ _ e);refine f7 cu bT λcu bT=>?_;show ht _ _ _ _ H1;refine QZ (aaW (K:=K) (a:=h7) (H1:=H1) (rest:=[some (.ref y)]) (λvU h=>⟨_,rfl,h7,rfl,⟨_,aJ.of (s2 _ _ wF)⟩,h⟩) rfl (aJ.of (s2 _ _ wF)) λgl ah aoE agH aW=>?_);subst bT;refine⟨(by show 0<=sizeLine;decide),λpl Wg=>⟨_,rfl,?_⟩⟩;have cK:aB H (upd ah pl (.lst [])):=s2.trans (aW.trans (aZ Wg));have Vh:upd ah pl (.lst []) gl=some (.lst []):=aZ Wg _ _ agH;have Vs:upd ah pl (.lst []) pl=some (.lst []):=aE;generalize upd ah pl (.lst [])=dx at cK Vh Vs⊢;refine⟨λ_ a' H'=>a'=[some (.ref n),some (.ref h7),some (.ref y),some (.ref x),some (.ref gl),some (.ref pl),some (.int (-1)),none]/\H'=dx,⟨0,rfl,rfl⟩,?_⟩;rintro m a' H' ⟨rfl,rfl⟩;refine⟨_,rfl,false,?_,?_⟩
  .exact .inl ⟨[],aJ.of Vh,rfl⟩
  .show if false=true then _ else _
   rw[bz (by decide)];exact⟨_,rfl,q pl _ cK Vs⟩
noncomputable abbrev T_:Stmt:=top 82
noncomputable abbrev EN:Stmt:=top 83
theorem adl:de ["plan"] ["plan"] (cy EN):={}
inductive Ts(vs:aR)(H:af)(Q:a4)(E:bP):Prop where
 |mk (l:Addr) (aT:vs=[.ref l]) (aP:H l=some (.lst [])) (bh:∀H',aB H H'->Q (.str "") H')
theorem acg{f:Addr}(F:cz K "show_plan" "show_plan" EN f fd)(wV:bX K mg "show_bag" T_ ["bag"] f1 dN):aK P w K mg base bq 2 f fd ["plan"] Ts:=by
 have Zm:aK P w K mg base bq 1 f1 dN ["bag"] uT:=vx;refine F.ok adl (λcdv A outer s H vs Q E al h=>?_)
 .refine⟨_,(bg (cm (l5 EE Sw Sx Ph cv (ag (lq (N':=["bag"]) (cs:=[none]) rfl (hU (aa 0)) rfl (by decide+kernel) rfl (by decide+kernel) (jy (λp ay=>bk ay (di))) rfl
    (.own .nil)
    (λC aW aU b0 ez=>⟨(eo (i:=0) (by show(["bag"]:ck).Nodup;decide+kernel) rfl (.inl rfl)),lg,(dB Zm al.mono (by rfl) wV.at_ wV.fn.b3 wV.bd .nil cJ (ag (aa 0) aw))⟩)) aw)))),?_⟩
  try dsimp only[gR,gQ]
  obtain⟨l,rfl,au,q⟩:=h;refine⟨rfl,?_⟩;dsimp only[l4];refine q2 (J:=kW K l) (H1:=H) (xs:=[]) (rest:=[]) (λR h=>⟨_,rfl,l,rfl,⟨_,aJ.of au⟩,h⟩) rfl (q5 (aJ.of au)) (en (by decide)) id (λi v ah R ev=>by simp at ev) (λD ah l_ bF uQ=>?_);exact⟨_,D,[],rfl,rfl,aJ.of bF,by decide+kernel,q ah uQ⟩
noncomputable abbrev JW:Stmt:=top 105
theorem adm:de gO gO (cy JW):={}
inductive Jg(a6 CW a3:Addr)(vs:aR)(H:af)(Q:a4)(E:bP):Prop where
 |mk (x:Addr) (v:ao.V) (A:e') (s:fL) (aT:vs=[.ref x,v]) (aP:e7 a6 CW a3 H x A s) (bh:s.bS=[]) (cP:∀H',aB H H'->Q (.str "") H')
theorem ach{f:Addr}(F:cz K "tell_run" "tell_run" JW f fd)(da:p7 K a6)(uX:bX K mg "run" E4 AS f1 dN)(Jh:aK P w K mg base bq 6 f1 dN AS So)(t4:bX K mg "show_plan" EN ["plan"] f2 eU)(Yy:aK P w K mg base bq 2 f2 eU ["plan"] Ts):
  aK P w K mg base bq 7 f fd gO (Jg a6 CW a3):=by
 refine F.ok adm (λ_ qq _ s0 H vs Q E al h=>?_)
 .refine⟨_,(bg (cm (dB Yy al.mono (by rfl) t4.at_ t4.fn.b3 t4.bd .nil cJ (ag (dB Jh al.mono (by rfl) uX.at_ uX.fn.b3 uX.bd .nil cJ (ag (gf (aa 0) (by rfl)) (ag (gf (aa 0) (by rfl)) (ag (gf (aa 0) (by rfl)) aw)))) aw)))),?_⟩
  try dsimp only[gR,gQ]
  obtain⟨x,v,A,s,rfl,D,a8,q⟩:=h;have au:=D.lt;rw[a8]at au;cases au with
  |@lst _ xs _ au hz cO=>
  cases cO;exact⟨_,rfl,x,a6,A.ak,_,_,rfl,D.ins,da.cl,da.nn,rfl,_,rfl,x,a6,A.ak,_,_,rfl,D.ins,da.cl,da.nl,rfl,_,rfl,x,a6,A.ak,_,_,rfl,D.ins,da.cl,da.hW,rfl,A.n,A.l,A.y,rfl,au,λl H1 s1 ai=>⟨l,rfl,ai,λah s2=>q ah (s1.trans s2)⟩⟩
end
theorem aK.wide{K:aQ}{mg:b9}{base:Heap}{CX P_:mn}{j k:Nat}{f:Addr}(F:aK P w K mg base CX j f fd ps sp)(h:∀fr H s E e s',CX fr H s E e s'->P_ fr H s E e s')(bu:j<=k):aK P w K mg base P_ k f fd ps sp:=
 ⟨F.len,λA outer s H args us vs Q E al he ae a7 hs=>by
  refine pK ((F.mono bu).run A outer s H args us vs Q E al he ae a7 hs) λr s' q=>?_;cases r with
  |ok v=>cases v<;>exact q
  |error e=>exact h _ _ _ _ _ _ q⟩
structure xS where
 (aI jY le jk kf gF h9 dF:Addr)
inductive mr(a6 CW a3 e0 eZ dz gb eL:Addr)(D:xS):Addr->gD->Prop
 |aI:mr a6 CW a3 e0 eZ dz gb eL D D.aI (Tn a6 CW a3 e0)
 |jY:mr a6 CW a3 e0 eZ dz gb eL D D.jY (Tp a6 CW a3 e0)
 |le:mr a6 CW a3 e0 eZ dz gb eL D D.le (S8 a6 CW a3 eZ)
 |jk:mr a6 CW a3 e0 eZ dz gb eL D D.jk (Tr a6 CW a3 dz gb)
 |kf:mr a6 CW a3 e0 eZ dz gb eL D D.kf (Tq a6 CW a3)
 |gF:mr a6 CW a3 e0 eZ dz gb eL D D.gF (S9 a6 CW a3 dz)
 |h9:mr a6 CW a3 e0 eZ dz gb eL D D.h9 (S' a6 CW a3 dz eL)
 |dF:mr a6 CW a3 e0 eZ dz gb eL D D.dF (Jg a6 CW a3)
section
variable{P:cA}{w:bU}{K:aQ}{mg:b9}{base:Heap}
noncomputable abbrev EO:Stmt:=iC (top 120) 1
theorem Jj:de ["self","row","words","values"] AV (cy EO):={}
inductive Ah(K:aQ)(R:ny)(dA d4:Addr)(cs:Addr->gD->Prop)(vs:aR)(H:af)(Q:a4)(E:bP):Prop where
 |mk (x:Addr) (ps:bt) (kw:Str) (ws:ck) (eD:List mG) (us:aR) (f:Addr) (sp:gD) (aT:vs=[.ref x,.str (S (eO [32] ps))]) (aP:vt ps) (bh:ps.map S=kw::ws) (cf:jz K dA kw (eD.map R.f)) (cP:rV eD ws us) (dM:eD.length<=10)
   (gk:iM K d4 kw=some (some (.ref f))) (ic:cs f sp) (qo:∀l H',H l=none->aB H H'->H' l=some (.lst us)->sp [.ref x,.ref l] H' Q E)
theorem ab3{aY f ND:Addr}{R:ny}{cs:Addr->gD->Prop}(F:cz K "say" "Desk.say" EO f fd)(yO:mg "DESK_ANSWERS"=some (.ref d4))(TD:TopD w K d4)(ur:bX K mg "words_of" Hg ["row"] f1 dN)(Zn:aK P w K mg base bq 1 f1 dN ["row"] TY)(t9:bX K mg "values_of" EH ["words"] f2 eU)(Yz:aK P w K mg base bq 4 f2 eU ["words"] (Tc K R dA))(g0:∀g sp,cs g sp->AY P w K mg base (mq P w) 8 g sp):aK P w K mg base (mq P w) 9 f fd AV (Ah K R dA d4 cs):=by
 refine CY F Jj (λ_ qq _ s0 H vs Q E al h=>?_)
 .refine⟨_,(a9 (c8 (i:=2) Jj.aC rfl (ct rfl) (dB Zn al.mono (by rfl) ur.at_ ur.fn.b3 ur.bd .nil cJ (ag (aa 1) aw)))
   (a9 (c8 (i:=3) Jj.aC rfl (ct rfl) (dB Yz al.mono (by rfl) t9.at_ t9.fn.b3 t9.bd .nil cJ (ag (aa 2) aw)))
   (a9 (dH (uF (ab1 (cU gr (aa 2) bc (λ_ _=>rfl)) (lp (by rfl) yO))) (bg (cm (PV (QK (lp (by rfl) yO) (cU gr (aa 2) bc (λ_ _=>rfl)) (λ_ _=>rfl)) g0 al.mono Ol (ag (aa 0) (ag (aa 3) aw))))) dJ)
   XZ))),?_⟩
  try dsimp only[gR,gQ]
  refine cut λcu bT=>?_;obtain⟨x,ps,kw,ws,eD,us,g,sp,rfl,ajK,yQ,qQ,eQ,Mo,iy,ar,q⟩:=h;refine⟨_,rfl,ps,rfl,ajK,λa na=>?_⟩;rw[yQ];have s1:aB H (upd H a (.lst (kd (kw::ws)))):=aZ na;have av:upd H a (.lst (kd (kw::ws))) a=some (.lst (kd (kw::ws))):=aE;refine f7 cu bT λcu bT=>?_;show ht _ _ _ _ (upd H a (.lst (kd (kw::ws))));generalize upd H a (.lst (kd (kw::ws)))=H1 at s1 av⊢;refine⟨_,rfl,a,kw,ws,eD,us,rfl,av,qQ,eQ,Mo,λl ah nl s2 au=>?_⟩;subst bT;have qJ:ao.hD (kd (kw::ws)) 0=some (.str kw):=mV (j:=0) rfl;refine⟨_,rfl,a,_,_,_,rfl,rfl,aJ.of (s2 _ _ av),qJ,kw,d4,_,rfl,rfl,TD,iy,_,rfl,cY rfl ?_⟩;exact⟨_,rfl,a,_,_,_,rfl,rfl,aJ.of (s2 _ _ av),qJ,kw,d4,g,rfl,rfl,TD,iy,g,sp,rfl,ar,_,rfl,_,rfl,q l ah (e4 s1 nl) (s1.trans s2) au⟩
end
end c2
namespace b5
open PySem PySem.Spec PyProof.Rows ao
theorem Ya:∀{bs:List Bool}{its:dk},cX (bs.map V.aM) its->its=bs.map Bo
 |[],_,.nil=>rfl
 |b::bs,_,.cons h r=>by cases h;rw[Ya r];rfl
noncomputable def T4:Value->Bool
 |.bool b=>b
 |_=>false
section
variable{X:bx}
inductive aaI(K:aQ)(x:ao.V)(vs:aR)(H:af)(Q:a4):Prop where
 |mk (l:Addr) (bs:List Bool) (k:Nat) (aT:x=.ref l) (aP:vs=[.aM true]) (bh:aJ K H l (bs.map V.aM)) (cf:bs.length<=100) (cP:bs[k]?=some true) (dM:∀j,j<k->bs[j]?=some false) (gk:Q (.int (k:Int)) H)
theorem Á:yj X "list.index" (aaI X.K):=by
 intro pins s σ H x vs v us Q I bf cc h;obtain⟨l,bs,k,rfl,rfl,au,cN,aD,nP,q⟩:=h;cases bf;obtain⟨u,rfl,dF⟩:=cc.one;cases dF;obtain⟨its,r,p,_⟩:=I.list au;have e:=Ya r;subst e;obtain⟨⟨cls,dd,data,bZ⟩,aI,ar,n,hd⟩:=id p.isList;simp only at ar hd;subst ar hd;obtain⟨dw,ae⟩:=gn.mp aD;refine yH Ŝ ⟨_,aI,rfl⟩ PySem.F.entry_list_index (PySem.F.args_list_index_2 _ _)
  (alc l _ n dd bZ (.bool true) T4 k (by simpa using dw) (by omega) ?_ ?_) ⟨aI,λy cb=>?_,⟨.int (k:Int),H,I.tok _,⟨_,rfl⟩,q⟩⟩
 .simp only[í,RI];exact ae
 .intro j bu agL;simp only[í,RI];obtain⟨_,z⟩:=gn.mp (nP j agL);exact z
 .obtain⟨b,_,rfl⟩:=cw.mp (by simpa using cb:y∈bs.map Bo);have e:(b==true)=T4 (.bool b):=by cases b<;>rfl
  rw[<-e];exact alb b true
end
end b5
namespace c2
open PySem ao b5 cQ
noncomputable def ro:List Str:=["net","house","road","letter","bag","way","goals","cut","text","row","day"]
structure tp(K:aQ)(gq:Addr)(cs:c7)(C:Addr)(k:Nat):Prop where
 hp:oa K C
 sub:pY K C gq=true
 re:jr K (.ref C) (.ref gq)=some true
 OK:jr K (.ref C) (.type "ValueError")=some true
 lt:k<11
 at_:∀(j:Nat)(R:Addr),cs[j]?=some R->jr K (.ref C) (.ref R)=some (decide (j=k))
noncomputable def fA(k:Nat)(ahz:cx):List ao.V:=(ahz.map λj=>decide (j=k)).map V.aM
noncomputable def Ud:ao.V->ao.V
 |.aM b=>.int (if b=true then 1 else 0)
 |v=>v
noncomputable def EP(k:Nat):List Int:=[0,1,2,3,4,5,6,7,8,9,10].map λj:Nat=>if j=k then 1 else 0
theorem aaJ(k:Nat)(h:k<11):(fA k [0,1,2,3,4,5,6,7,8,9,10]).map Ud=(EP k).map V.int/\(EP k).sum=1/\∀x∈EP k,(0:Int)<=x:=by
 refine⟨?_,?_,?_⟩
 .unfold fA EP;rw[jK,jK,jK];refine AL λj _=>?_;show V.int (if decide (j=k)=true then 1 else 0)=V.int (if j=k then 1 else 0);by_cases z:j=k
  .rw[bO z,bO (b4 z)]
  .rw[bz z,bz (by rw[cM z];decide)]
 .revert k;decide
 .intro x ax;obtain⟨j,_,rfl⟩:=cw.mp ax;show 0<=if j=k then(1:Int)else 0
  split<;>decide
theorem ab4(k:Nat)(h:k<11):([0,1,2,3,4,5,6,7,8,9,10].map λj=>decide (j=k))[k]?=some true/\∀i,i<k->([0,1,2,3,4,5,6,7,8,9,10].map λj=>decide (j=k))[i]?=some false:=by revert k;decide
section
variable{P:cA}{w:bU}{K:aQ}{mg:b9}{base:Heap}
noncomputable abbrev G':Stmt:=top 124
theorem x7:de ["_law_error","_law_kinds","_law_words"] AW (cy G'):={}
inductive T5(K:aQ)(gq:Addr)(cs:c7)(vs:aR)(H:af)(Q:a4)(E:bP):Prop where
 |mk (aS C:Addr) (k:Nat) (aT:vs=[.ref aS]) (aP:H aS=some (vp aS C)) (bh:tp K gq cs C k) (cf:∀H' y,ro[k]?=some y->aB H H'->Q (.str y) H')
seal fl bl fM gc
theorem adn{sH no f:Addr}(F:cz K "_law_kind" "_law_kind" G' f fd)(B:eR mg)(lK:mg "RoadError"=some (.ref gq))(zI:mg "NoNet"=some (.ref nn))(zc:mg "NoHouse"=some (.ref CJ))(zq:mg "NoRoad"=some (.ref fS))(r6:mg "NoLetter"=some (.ref nl))(CQ:mg "BadBag"=some (.ref Br))(sq:mg "NoWay"=some (.ref sH))(Ce:mg "ManyGoals"=some (.ref ahO))(CR:mg "CutOff"=some (.ref co))(CS:mg "NoText"=some (.ref eI))(C3:mg "NoRow"=some (.ref no))(C4:mg "NoDay"=some (.ref aC)):aK P w K mg base bq 1 f fd AW (T5 K gq [nn,CJ,fS,nl,Br,sH,ahO,co,eI,no,aC]):=by
 refine F.ok x7 (λcdv A outer s H vs Q E al h=>?_)
 .refine⟨_,(a9 (dH (hl.pt (jb (jx (i7 (df nF (by rfl) B.isinstance hC (ag (aa 0) (ag (lp (by rfl) lK) aw))))) (kz (jx (i7 (df nF (by rfl) B.isinstance hC (ag (aa 0) (ag (m1 (by rfl) B.ValueError ajH) aw)))))))) (bg (cm cv)) dJ)
   (a9 (c8 (i:=1) x7.aC rfl (ct rfl) (d5 (ag (df nF (by rfl) B.isinstance hC (ag (aa 0) (ag (lp (by rfl) zI) aw))) (ag (df nF (by rfl) B.isinstance hC (ag (aa 0) (ag (lp (by rfl) zc) aw))) (ag (df nF (by rfl) B.isinstance hC (ag (aa 0) (ag (lp (by rfl) zq) aw))) aw)))))
   (a9 (c8 (i:=1) x7.aC rfl (ct rfl) (b7 uJ (aa 1) (d5 (ag (df nF (by rfl) B.isinstance hC (ag (aa 0) (ag (lp (by rfl) r6) aw))) (ag (df nF (by rfl) B.isinstance hC (ag (aa 0) (ag (lp (by rfl) CQ) aw))) (ag (df nF (by rfl) B.isinstance hC (ag (aa 0) (ag (lp (by rfl) sq) aw))) aw))))))
   (a9 (c8 (i:=1) x7.aC rfl (ct rfl) (b7 uJ (aa 1) (d5 (ag (df nF (by rfl) B.isinstance hC (ag (aa 0) (ag (lp (by rfl) Ce) aw))) (ag (df nF (by rfl) B.isinstance hC (ag (aa 0) (ag (lp (by rfl) CR) aw))) (ag (df nF (by rfl) B.isinstance hC (ag (aa 0) (ag (lp (by rfl) CS) aw))) aw))))))
   (a9 (c8 (i:=1) x7.aC rfl (ct rfl) (b7 uJ (aa 1) (d5 (ag (df nF (by rfl) B.isinstance hC (ag (aa 0) (ag (lp (by rfl) C3) aw))) (ag (df nF (by rfl) B.isinstance hC (ag (aa 0) (ag (lp (by rfl) C4) aw))) aw)))))
   (a9 (c8 (i:=2) x7.aC rfl (ct rfl) (d5 (ag cv (ag cv (ag cv (ag cv (ag cv (ag cv (ag cv (ag cv (ag cv (ag cv (ag cv aw)))))))))))))
   (a9 (dH (dG rm (df (ù rfl) (by rfl) B.sum abT (ag (lq (N':=["_law_one"]) (cs:=[none]) rfl (hU (aa 1)) rfl (by decide+kernel) rfl (by decide+kernel) (jy (λp ay=>bk ay (di))) rfl
    (.own .nil)
    (λC aW aU b0 ez=>⟨(eo (i:=0) (by show(["_law_one"]:ck).Nodup;decide+kernel) rfl (.inl rfl)),lg,(iv X3 (by rfl) B.int Du (ag (aa 0) aw))⟩)) aw)) bc (dE _)) (bg (cm cv)) dJ)
   (bg (cm (cU gr (aa 2) (l5 rT Ŝ PySem.F.type_list_index Á (aa 1) (ag iz aw)) (λ_ _=>rfl))))))))))),?_⟩
  try dsimp only[gR,gQ]
  refine cut λcu bT=>?_;obtain⟨aS,C,k,rfl,e9,D,q⟩:=h;refine⟨_,rfl,aS,C,_,e9,D.hp,.inl ⟨_,rfl,D.re⟩,_,rfl,f5 ⟨_,rfl,aS,C,_,e9,D.hp,.inr ⟨_,rfl,D.OK⟩,_,rfl,f5 ?_⟩⟩;refine f7 cu bT λcu bT=>?_;have dh:=e9;refine⟨_,rfl,aS,C,_,dh,D.hp,.inl ⟨_,rfl,D.at_ 0 _ rfl⟩,_,rfl,aS,C,_,dh,D.hp,.inl ⟨_,rfl,D.at_ 1 _ rfl⟩,_,rfl,aS,C,_,dh,D.hp,.inl ⟨_,rfl,D.at_ 2 _ rfl⟩,(by show 3<=sizeLine;decide),λdr cn=>?_⟩;have s1:aB H (upd H dr (.lst (fA k [0,1,2]))):=aZ cn;have ai:upd H dr (.lst (fA k [0,1,2])) dr=some (.lst (fA k [0,1,2])):=aE;refine f7 cu bT λcu bT=>?_;show ht _ _ _ _ (upd H dr (.lst (fA k [0,1,2])));generalize upd H dr (.lst (fA k [0,1,2]))=H1 at s1 ai⊢;have dh:=s1 _ _ e9;refine⟨_,rfl,_,rfl,aS,C,_,dh,D.hp,.inl ⟨_,rfl,D.at_ 3 _ rfl⟩,_,rfl,aS,C,_,dh,D.hp,.inl ⟨_,rfl,D.at_ 4 _ rfl⟩,_,rfl,aS,C,_,dh,D.hp,.inl ⟨_,rfl,D.at_ 5 _ rfl⟩,(by show 3<=sizeLine;decide),λp np=>⟨dr,p,_,_,rfl,rfl,aZ np _ _ ai,aE,(by show 6<=sizeLine;decide),λeu cC=>?_⟩⟩;have s2:aB H (upd (upd H1 p (.lst (fA k [3,4,5]))) eu (.lst (fA k [0,1,2,3,4,5]))):=s1.trans ((aZ np).trans (aZ cC));have aj:upd (upd H1 p (.lst (fA k [3,4,5]))) eu (.lst (fA k [0,1,2,3,4,5])) eu=some (.lst (fA k [0,1,2,3,4,5])):=aE;refine f7 cu bT λcu bT=>?_;show ht _ _ _ _ (upd (upd H1 p (.lst (fA k [3,4,5]))) eu (.lst (fA k [0,1,2,3,4,5])));generalize upd (upd H1 p (.lst (fA k [3,4,5]))) eu (.lst (fA k [0,1,2,3,4,5]))=ah at s2 aj⊢;have dh:=s2 _ _ e9;refine⟨_,rfl,_,rfl,aS,C,_,dh,D.hp,.inl ⟨_,rfl,D.at_ 6 _ rfl⟩,_,rfl,aS,C,_,dh,D.hp,.inl ⟨_,rfl,D.at_ 7 _ rfl⟩,_,rfl,aS,C,_,dh,D.hp,.inl ⟨_,rfl,D.at_ 8 _ rfl⟩,(by show 3<=sizeLine;decide),λp np=>⟨eu,p,_,_,rfl,rfl,aZ np _ _ aj,aE,(by show 9<=sizeLine;decide),λkK fB=>?_⟩⟩;have aW:aB H (upd (upd ah p (.lst (fA k [6,7,8]))) kK (.lst (fA k [0,1,2,3,4,5,6,7,8]))):=s2.trans ((aZ np).trans (aZ fB));have bC:upd (upd ah p (.lst (fA k [6,7,8]))) kK (.lst (fA k [0,1,2,3,4,5,6,7,8])) kK=some (.lst (fA k [0,1,2,3,4,5,6,7,8])):=aE;refine f7 cu bT λcu bT=>?_;show ht _ _ _ _ (upd (upd ah p (.lst (fA k [6,7,8]))) kK (.lst (fA k [0,1,2,3,4,5,6,7,8])));generalize upd (upd ah p (.lst (fA k [6,7,8]))) kK (.lst (fA k [0,1,2,3,4,5,6,7,8]))=aU at aW bC⊢;have dh:=aW _ _ e9;refine⟨_,rfl,_,rfl,aS,C,_,dh,D.hp,.inl ⟨_,rfl,D.at_ 9 _ rfl⟩,_,rfl,aS,C,_,dh,D.hp,.inl ⟨_,rfl,D.at_ 10 _ rfl⟩,(by show 2<=sizeLine;decide),λp np=>⟨kK,p,_,_,rfl,rfl,aZ np _ _ bC,aE,(by show 11<=sizeLine;decide),λq8 kL=>?_⟩⟩;have cK:aB H (upd (upd aU p (.lst (fA k [9,10]))) q8 (.lst (fA k [0,1,2,3,4,5,6,7,8,9,10]))):=aW.trans ((aZ np).trans (aZ kL));have c5:upd (upd aU p (.lst (fA k [9,10]))) q8 (.lst (fA k [0,1,2,3,4,5,6,7,8,9,10])) q8=some (.lst (fA k [0,1,2,3,4,5,6,7,8,9,10])):=aE;refine f7 cu bT λcu bT=>?_;show ht _ _ _ _ (upd (upd aU p (.lst (fA k [9,10]))) q8 (.lst (fA k [0,1,2,3,4,5,6,7,8,9,10])));generalize upd (upd aU p (.lst (fA k [9,10]))) q8 (.lst (fA k [0,1,2,3,4,5,6,7,8,9,10]))=dx at cK c5⊢;refine⟨(by show 11<=sizeLine;decide),λlw Wi=>?_⟩;have dY:aB H (upd dx lw (.lst (ro.map V.str))):=cK.trans (aZ Wi);have fq:upd dx lw (.lst (ro.map V.str)) q8=some (.lst (fA k [0,1,2,3,4,5,6,7,8,9,10])):=aZ Wi _ _ c5;have hw:upd dx lw (.lst (ro.map V.str)) lw=some (.lst (ro.map V.str)):=aE;refine f7 cu bT λcu bT=>?_;show ht _ _ _ _ (upd dx lw (.lst (ro.map V.str)));generalize upd dx lw (.lst (ro.map V.str))=b1 at dY fq hw⊢;have klt:=D.lt;dsimp only[ht,JH,D7,sR,qa,l4];refine q2 (J:=kW K q8) (H1:=b1) (xs:=fA k [0,1,2,3,4,5,6,7,8,9,10]) (rest:=[]) (λR h=>⟨_,rfl,q8,rfl,⟨_,aJ.of fq⟩,h⟩) rfl (q5 (aJ.of fq)) (en (by show 11<=1000;decide)) Ud (λi v ah R ev az bG=>?_) (λahM kn Gr hz jZ=>?_)
  .unfold fA at ev;rw[d0]at ev;obtain⟨b,_,rfl⟩:=iq.mp ev;exact⟨_,rfl,.inr ⟨b,rfl,bG ah (aB.refl _)⟩⟩
  obtain⟨g9,es,iy⟩:=aaJ k klt;rw[g9]at hz;refine⟨ahM,_,rfl,aJ.of hz,iy,(by rw[es];decide),?_⟩;rw[es];refine⟨rfl,_,rfl,c3 (by decide) ?_⟩;subst bT;obtain⟨y,dU⟩:∃y,ro[k]?=some y:=⟨_,dW (show k<ro.length from klt)⟩
  obtain⟨iP,fW⟩:=ab4 k klt;refine⟨_,rfl,_,rfl,.inl ⟨rfl,_,aJ.of (jZ _ _ fq)⟩,q8,_,k,rfl,rfl,aJ.of (jZ _ _ fq),(by show 11<=100;decide),iP,fW,lw,_,_,_,rfl,rfl,aJ.of (jZ _ _ hw),mV (j:=k) (by rw[d0,dU];rfl),q kn y dU (dY.trans jZ)⟩
unseal fl bl fM gc
noncomputable def Gm(sp:gD):gD:=λvs H Q E=>sp vs H Q λcls _ H'=>E cls none H'
theorem aK.Gm{k:Nat}{f:Addr}(F:aK P w K mg base (mq P w) k f fd ps sp):aK P w K mg base (eW P w) k f fd ps (Gm sp):=
 ⟨λvs H Q E h=>F.len vs H Q _ h,λA outer s H args us vs Q E al he ae a7 hs=>by
  refine pK (F.run A outer s H args us vs Q _ al he ae a7 hs) λr s' q=>?_;cases r with
  |ok v=>cases v<;>exact q
  |error e=>
   obtain⟨aS,cls,a0,H',B,d2,rfl,T,_,q⟩:=q;exact⟨aS,cls,a0,H',B,rfl,T,q⟩⟩
noncomputable abbrev Hc:Stmt:=top 125
theorem x8:de ["_law_desk","_law_row_here","_law_error","_law_found","e"] AO (cy Hc):={}
inductive x9(K:aQ)(a6 gq:Addr)(cs:c7)(sp:gD)(vs:aR)(H:af)(Q:a4)(E:bP):Prop where
 |mk (x ak gP dl dp:Addr) (row:Str) (aT:vs=[.ref x,.str row]) (aP:H x=some (.ins a6 ak (p6 gP dl dp)))
   (bh:∀(yt:a4)(mv:bP),(∀y H',(∀l rI,H' l=none->aB H' rI->rI l=some (.lst [.aM true,.str y])->Q (.ref l) rI)->yt (.str y) H')->(∀C k y o H',tp K gq cs C k->ro[k]?=some y->(∀l rI,H' l=none->aB H' rI->rI l=some (.lst [.str y])->Q (.ref l) rI)->mv (.ref C) o H')->sp [.ref x,.str row] H yt mv)
theorem ado{f:Addr}(F:cz K "_law_said" "_law_said" Hc f fd)(B:eR mg)(mX:fw K a6)(lK:mg "RoadError"=some (.ref gq))(agl:pY K gq gq=true)(wW:d_ K a6 "say" "Desk.say" EO AV f1 dN)(Zo:aK P w K mg base (eW P w) 9 f1 dN AV (Gm sp))(t_:bX K mg "_law_kind" G' AW f2 eU)(YU:aK P w K mg base bq 1 f2 eU AW (T5 K gq cs)):aK P w K mg base bq 10 f fd AO (x9 K a6 gq cs sp):=by
 refine F.ok x8 (λcdv A outer s H vs Q E al h=>?_)
 .refine⟨_,(a9 (c8 (i:=2) x8.aC rfl (ct rfl) oT)
   (a9 (c8 (i:=3) x8.aC rfl (ct rfl) cv)
   (a9 (abd (i:=4) rfl rfl (Ï (aaL (i:=3) x8.aC rfl (ct rfl) (Ļ (aa 0) mX wW.gi Zo al.mono wW.bd (ag (aa 1) aw)))) x8.aC rfl rfl rfl lK agl (λaS=>(bg (c8 (i:=2) x8.aC rfl (ct rfl) (aa 4)))))
   (a9 (dH (dG DA (aa 2) oT (dE _)) (bg (cm (d5 (ag (df nJ (by rfl) B.isinstance hC (ag (aa 3) (ag (m1 (by rfl) B.str mZ) aw))) (ag (aa 3) aw))))) dJ)
   (bg (cm (d5 (ag (dB YU al.mono (by rfl) t_.at_ t_.fn.b3 t_.bd .nil cJ (ag (aa 2) aw)) aw)))))))),?_⟩
  try dsimp only[gR,gQ]
  obtain⟨x,ak,gP,dl,dp,row,rfl,ax,h⟩:=h;refine⟨_,rfl,x,ak,_,rfl,ax,rfl,_,rfl,h _ _ (λy H1 q=>?_) (λC k y o H1 D dU q=>?_)⟩
  .refine⟨_,rfl,rfl,_,rfl,cY (b4 rfl) ?_⟩;exact⟨_,rfl,_,_,_,_,_,rfl,⟨rfl,.str _,u2 K (show o8 "str" "str"=some true by decide+kernel)⟩,_,rfl,(by show 2<=sizeLine;decide),λl nl=>q l _ nl (aZ nl) aE⟩
  .refine⟨C,rfl,D.sub,λaS y1=>⟨_,rfl,?_⟩⟩;refine⟨_,rfl,rfl,_,rfl,c3 (cM (by intro z;cases z)) ⟨_,rfl,aS,C,k,rfl,aE,D,λah d9 afL s2=>⟨(by show 1<=sizeLine;decide),λl nl=>?_⟩⟩⟩;obtain rfl:d9=y:=fG (afL.symm.trans dU);exact q l _ (e4 ((aZ y1).trans s2) nl) ((aZ y1).trans (s2.trans (aZ nl))) aE
inductive m3(H:af)(row:Str)(eG:aR):ao.V->Prop
 |mk (t l:Addr) (aT:H t=some (.tup [.str row,.ref l])) (aP:H l=some (.lst eG)):m3 H row eG (.ref t)
noncomputable abbrev ER:Stmt:=top 132
theorem Tt:de yf yf (cy ER):={}
noncomputable def kN(n:cx):List cx:=[[65],n++[97,98,99,100,101,102,103,104],[97,49],n++[45]]
theorem QD{n m:cx}(h:n.length<=8)(hm:m∈kN n):m.length<=16:=by
 unfold kN at hm;simp only[dX,di,or_false]at hm;rcases hm with rfl|rfl|rfl|rfl
 .decide
 .rw[eS];show n.length+8<=16;omega
 .decide
 .rw[eS];show n.length+1<=16;omega
inductive Tu(vs:aR)(H:af)(Q:a4)(E:bP):Prop where
 |mk (an:Addr) (hs:bt) (n:cx) (c:Int) (aT:vs=[.ref an,.str (S n),.int c]) (aP:H an=some (.lst (bY hs))) (bh:fF n) (dM:hs.length<=12)
   (cf:∀m,(m∈kN n\/(m=n/\n∈hs))->∀v H',aB H H'->m3 H' (bK "house "++S m) [.str "net"] v->Q v H')
   (cP:n∉hs->∀v H',(∀b o,b≠an->H b=some o->H' b=some o)->H' an=some (.lst (bY (hs++[n])))->m3 H' (bK "house "++S n) [.aM true,.str "ok"] v->Q v H')
theorem ab5{f:Addr}(F:cz K "_law_house" "_law_house" ER f fd)(B:eR mg):aK P w K mg base bq 1 f fd yf Tu:=by
 refine F.ok Tt (λcdv A outer s H vs Q E al h=>?_)
 .refine⟨_,(a9 (dH (dG jd (b7 jR (aa 2) bc) bc (dE _)) (bg (c8 (i:=1) Tt.aC rfl (ct rfl) (cU gr (d5 (ag cv (ag (b7 g6 (aa 1) cv) (ag cv (ag (b7 g6 (aa 1) cv) aw))))) (b7 jR (b7 mU (aa 2) bc) bc) (λ_ _=>rfl)))) dJ)
   (a9 (dH (hl.pt (jb (dG ux (aa 1) (aa 0) (by rfl)) (jb (dG sL (df Ci (by rfl) B.len g7 (ag (aa 1) aw)) bc (dE _)) (kz (dG jd (b7 jR (aa 2) bc) bc (dE _)))))) (bg (cm (hE (ag (b7 g6 cv (aa 1)) (ag (d5 (ag cv aw)) aw))))) dJ)
   (a9 (gZ (l5 rT tw tx qR (aa 0) (ag (aa 1) aw)))
   (bg (cm (hE (ag (b7 g6 cv (aa 1)) (ag (d5 (ag iz (ag cv aw))) aw)))))))),?_⟩
  try dsimp only[gR,gQ]
  refine cut λcu bT=>?_;obtain⟨an,hs,n,c,rfl,av,nm,r_,bw,cH⟩:=h;have nl:=nm.2.1;have fin:∀(m:cx)(H1:af),aB H H1->((c%7=0/\m∈kN n)\/(¬c%7=0/\m=n))->cu {cp:=λ_ H'=>Q .bJ H',h9:=Q} [some (.ref an),some (.str (S m)),some (.int c)] H1:=λm H1 s1 hm=>by
   subst bT;have aox:m.length<=16:=by
    rcases hm with⟨_,hm⟩|⟨_,rfl⟩
    .exact QD nl hm
    .omega
   have hsz:(bK "house ").length+(S m).length<=sizeLine:=by rw[dR];show 6+m.length<=16777216;omega
   have bad:(m∈kN n\/(m=n/\n∈hs))->∃i j,V.str (bK "house ")=V.str i/\V.str (S m)=V.str j/\i.length+j.length<=sizeLine/\([V.str (bK "net")].length<=sizeLine/\∀l,H1 l=none->[V.str (i++j),V.ref l].length<=sizeLine/\∀t,upd H1 l (.lst [V.str (bK "net")]) t=none->Q (.ref t) (upd (upd H1 l (.lst [V.str (bK "net")])) t (.tup [V.str (i++j),V.ref l]))):=λh=>
    ⟨_,_,rfl,rfl,hsz,(by show 1<=sizeLine;decide),λl nl=>⟨(by show 2<=sizeLine;decide),λt eI=>bw m h _ _ (s1.trans ((aZ nl).trans (aZ eI))) ⟨t,l,aE,aZ eI _ _ aE⟩⟩⟩
   have j':=s1 _ _ av;have fz:(bY hs).all nX=true:=by rw[q3];exact uy _
   refine⟨_,rfl,_,rfl,an,_,rfl,.inl (aJ.of j'),rfl,fz,_,rfl,?_⟩;by_cases aT:iD (.str (S m)) (bY hs)=true
   .refine cY aT ⟨_,rfl,bad ?_⟩;rcases hm with⟨_,hm⟩|⟨_,rfl⟩
    .exact .inl hm
    .refine .inr ⟨rfl,Y_ λy=>?_⟩;rw[q3,CB λz=>y (by obtain⟨b,ae,e⟩:=cw.mp z;rw[<-m2 e];exact ae)]at aT;cases aT
   refine c3 (kk.mpr aT) ⟨_,rfl,_,rfl,(by rw[dR];show m.length<=16777216;omega),_,_,rfl,rfl,_,rfl,?_⟩;by_cases aP:(8:Int)<(S m).length
   .refine cY (b4 aP) ⟨_,rfl,bad ?_⟩;rcases hm with⟨_,hm⟩|⟨_,rfl⟩
    .exact .inl hm
    .rw[dR]at aP;omega
   refine c3 (cM aP) ⟨_,rfl,c,7,rfl,rfl,by decide,rfl,_,rfl,?_⟩;rcases hm with⟨bh,hm⟩|⟨bh,rfl⟩
   .exact cY (b4 (ek V.int bh)) ⟨_,rfl,bad (.inl hm)⟩
   .refine c3 (cM λy=>bh (V.int.inj y)) ⟨_,rfl,?_⟩;have no:m∉hs:=λy=>aT (by rw[q3];exact xc (cw.mpr ⟨_,y,rfl⟩));have aG:bY hs++[.str (S m)]=bY (hs++[m]):=by unfold bY;rw[fk];rfl
    refine⟨.inl ⟨rfl,_,aJ.of j'⟩,_,rfl,an,_,_,rfl,rfl,j',en (by rw[q4];omega),?_⟩;rw[aG];refine⟨_,rfl,_,_,rfl,rfl,hsz,(by show 2<=sizeLine;decide),λl nl=>⟨(by show 2<=sizeLine;decide),λt eI=>cH no _ _ (λb o nb e=>?_) ?_ ⟨t,l,aE,aZ eI _ _ aE⟩⟩⟩
    .refine aZ eI _ _ (aZ nl _ _ ?_);rw[aV nb];exact s1 _ _ e
    .exact aZ eI _ _ (aZ nl _ _ aE)
  refine⟨_,rfl,c,7,rfl,rfl,by decide,rfl,_,rfl,?_⟩;by_cases z:c%7=0
  .refine cY (b4 (ek V.int z)) ⟨_,rfl,_,_,rfl,rfl,?_,_,rfl,_,_,rfl,rfl,?_,(by show 4<=sizeLine;decide),λl nl=>?_⟩
   .rw[dR];show n.length+8<=16777216;omega
   .rw[dR];show n.length+1<=16777216;omega
   have aF:S n++bK "abcdefgh"=S (n++[97,98,99,100,101,102,103,104]):=sM n _;have aG:S n++bK "-"=S (n++[45]):=sM n _;have ae:upd H l (.lst ((kN n).map λm=>V.str (S m))) l=some (.lst ((kN n).map λm=>V.str (S m))):=aE;rw[aF,aG];show sR _ _ _ _ (upd H l (.lst ((kN n).map λm=>V.str (S m)))) _;have s1:aB H (upd H l (.lst ((kN n).map λm=>V.str (S m)))):=aZ nl;generalize upd H l (.lst ((kN n).map λm=>V.str (S m)))=H1 at ae s1⊢;have e8:0<=c/7%4:=lF _ (by decide);have g1:c/7%4<4:=qv _ (by decide);obtain⟨j,g8⟩:=Ed e8;have bu:j<(kN n).length:=by show j<4;omega
   obtain⟨m,em⟩:∃m,(kN n)[j]?=some m:=⟨_,dW bu⟩
   refine⟨_,rfl,c,7,rfl,rfl,⟨by decide,by decide⟩,_,_,rfl,rfl,by decide,l,_,_,_,rfl,rfl,aJ.of ae,?_,fin m H1 s1 (.inl ⟨z,f_ em⟩)⟩;rw[g8];exact mV (by rw[d0,em];rfl)
  .exact c3 (cM λy=>z (V.int.inj y)) (fin n H (aB.refl _) (.inr ⟨z,rfl⟩))
noncomputable def jT(c:Int):Nat:=(if c/44%5=0 then c/220%10000000000 else c/11%4).toNat
noncomputable def l9(c:Int):Nat:=(c%11).toNat
noncomputable def gH(ps:bt):Str:=S (eO [32] ps)
noncomputable def p8:List Nat:=[114,111,97,100]
structure uY(hs:bt)(a b:cx)(t m:Nat):Prop where
 y_:a∈hs
 za:b∈hs
 ne:a≠b
 ru:1<=t/\t<=9
 jY:1<=m/\m<=1000000000
theorem YW(x y:Str):(x++y).length=x.length+y.length:=by show(Jw x y).length=_;simp[Jw,Jy]
theorem hM{x y:Str}(k m:Nat)(ax:x.length<=k)(cb:y.length<=m)(h:k+m<=1000):x.length+y.length<=sizeLine:=e1 (Nat.add_le_add ax cb) (e1 h (by decide))
theorem iF{x y:Str}{k m n:Nat}(ax:x.length<=k)(cb:y.length<=m)(h:k+m=n):(x++y).length<=n:=by rw[YW];omega
theorem QE(c:Int):0<=(if c/44%5=0 then c/220%10000000000 else c/11%4)/\(if c/44%5=0 then c/220%10000000000 else c/11%4)<10000000000:=by
 split
 .exact⟨lF _ (by decide),qv _ (by decide)⟩
 .exact⟨lF _ (by decide),Int.lt_of_lt_of_le (qv _ (by decide)) (by decide)⟩
theorem Yb(c:Int):jT c<10 ^ 10:=by obtain⟨a8,ai⟩:=QE c;unfold jT;omega
theorem Yc(c:Int):l9 c<11:=by have a8:=lF c (show(11:Int)≠0 by decide);have ai:=qv c (show(0:Int)<11 by decide);unfold l9;omega
theorem lW{a:cx}{hs:bt}:iD (.str (S a)) (bY hs)=true↔a∈hs:=by
 rw[q3];constructor
 .intro z;refine Y_ λy=>?_;rw[CB λz=>y (by obtain⟨b,ae,e⟩:=cw.mp z;rw[<-m2 e];exact ae)]at z;cases z
 .intro h;exact xc (cw.mpr ⟨_,h,rfl⟩)
theorem q7(hs:bt):(bY hs).all nX=true:=by rw[q3];exact uy _
noncomputable abbrev ES:Stmt:=top 128
noncomputable abbrev ET:List Str:=["_law_names","_law_lines","_law_one","_law_other","_law_n"]
theorem Ai:de ["_law_names","_law_lines","_law_one","_law_other","_law_n","_law_turns","_law_room","_law_row_here","_law_good"] ET (cy ES):={}
inductive Tv(vs:aR)(H:af)(Q:a4)(E:bP):Prop where
 |mk (an bH:Addr) (hs:bt) (ls:c7) (a b:cx) (c:Int) (aT:vs=[.ref an,.ref bH,.str (S a),.str (S b),.int c]) (aP:H an=some (.lst (bY hs))) (bh:H bH=some (.lst (bM ls))) (cf:fF a) (cP:fF b) (dM:hs.length<=12) (gk:ls.length<=40) (akh:0<=c)
   (ic:(¬uY hs a b (l9 c) (jT c)\/ls.length=40)->∀v H',aB H H'->m3 H' (gH [p8,a,b,cB (l9 c),cB (jT c)]) [.str "net"] v->Q v H')
   (qo:uY hs a b (l9 c) (jT c)->ls.length<40->∀v r H',H r=none->(∀b o,b≠bH->H b=some o->H' b=some o)->H' bH=some (.lst (bM (ls++[r])))->H' r=some (.tup [.str (S a),.str (S b),.int (l9 c),.int (jT c)])->m3 H' (gH [p8,a,b,cB (l9 c),cB (jT c)]) [.aM true,.str (S (cB ls.length))] v->Q v H')
seal fl bl fM gc
theorem ab6{f:Addr}(F:cz K "_law_road" "_law_road" ES f fd)(B:eR mg):aK P w K mg base bq 1 f fd ET Tv:=by
 refine F.ok Ai (λcdv A outer s H vs Q E al h=>?_)
 .refine⟨_,(a9 (c8 (i:=5) Ai.aC rfl (ct rfl) (b7 jR (aa 4) bc))
   (a9 (c8 (i:=6) Ai.aC rfl (ct rfl) (b7 jR (b7 mU (aa 4) bc) bc))
   (a9 (dH (dG jd (b7 jR (b7 mU (aa 4) bc) bc) bc (dE _)) (bg (c8 (i:=6) Ai.aC rfl (ct rfl) (b7 jR (b7 mU (aa 4) bc) (b7 HP bc bc)))) dJ)
   (a9 (c8 (i:=7) Ai.aC rfl (ct rfl) (b7 g6 (b7 g6 (b7 g6 (b7 g6 (b7 g6 (b7 g6 (b7 g6 cv (aa 2)) cv) (aa 3)) cv) (iv qO (by rfl) B.str mZ (ag (aa 5) aw))) cv) (iv qO (by rfl) B.str mZ (ag (aa 6) aw))))
   (a9 (c8 (i:=8) Ai.aC rfl (ct rfl) (hF (jP ux (aa 2) (aa 0) (by rfl)) (hF (jP ux (aa 3) (aa 0) (by rfl)) (hF (jP rm (aa 2) (aa 3) (dE _)) (hF (w4 l3 l3 bc (aa 5) bc) (kA (w4 l3 l3 bc (aa 6) (b7 HP bc bc))))))))
   (a9 (dH (hl.pt (jb (jx (i7 (aa 8))) (kz (dG jd (df iQ (by rfl) B.len g7 (ag (aa 1) aw)) bc (dE _))))) (bg (cm (hE (ag (aa 7) (ag (d5 (ag cv aw)) aw))))) dJ)
   (a9 (gZ (l5 rT tw tx qR (aa 1) (ag (hE (ag (aa 2) (ag (aa 3) (ag (aa 5) (ag (aa 6) aw))))) aw)))
   (bg (cm (hE (ag (aa 7) (ag (d5 (ag iz (ag (iv qO (by rfl) B.str mZ (ag (b7 zU (df iQ (by rfl) B.len g7 (ag (aa 1) aw)) bc) aw)) aw))) aw)))))))))))),?_⟩
  try dsimp only[gR,gQ]
  refine cut λcu bT=>?_;obtain⟨an,bH,hs,ls,a,b,c,rfl,av,au,CL,CM,r_,zi,yF,bw,cH⟩:=h;refine⟨_,rfl,_,_,rfl,rfl,by decide,?_⟩;refine f7 cu bT λcu bT=>?_;refine⟨_,rfl,_,_,rfl,rfl,⟨by decide,by decide⟩,_,_,rfl,rfl,by decide,?_⟩;refine f7 cu bT λcu bT=>?_;have lR:c%11=(l9 c:Int):=(vE (lF c (by decide))).symm;have aoc:=QE c;have fin:cu {cp:=λ_ H'=>Q .bJ H',h9:=Q} [some (.ref an),some (.ref bH),some (.str (S a)),some (.str (S b)),some (.int c),some (.int (c%11)),some (.int (jT c)),none,none] H:=by
   rw[lR];have pZ:(S a).length<=8:=by rw[dR];exact CL.2.1
   have p0:(S b).length<=8:=by rw[dR];exact CM.2.1
   have rt:=Yc c;have NJ:=Yb c;have lt:(S (cB (l9 c))).length<=10:=by rw[dR];exact sI (A3 rt (by decide))
   have sD:(S (cB (jT c))).length<=10:=by rw[dR];exact sI NJ
   have sv:(bK "road ").length<=5:=by decide+kernel
   have dr:(bK " ").length<=1:=by decide+kernel
   have k1:=iF sv pZ rfl;have k2:=iF k1 dr rfl;have k3:=iF k2 p0 rfl;have oS:=iF k3 dr rfl;have k5:=iF oS lt rfl;have zf:=iF k5 dr rfl;generalize l9 c=t at *;generalize jT c=m at *;subst bT;refine cut λcu bT=>?_;refine⟨_,rfl,_,_,rfl,rfl,hM _ _ sv pZ (by decide),_,_,rfl,rfl,hM _ _ k1 dr (by decide),_,rfl,_,_,rfl,rfl,hM _ _ k2 p0 (by decide),_,_,rfl,rfl,hM _ _ k3 dr (by decide),_,rfl,_,rfl,pP (A3 rt (by decide)),?_⟩;rw[nW];refine⟨_,_,rfl,rfl,hM _ _ oS lt (by decide),_,_,rfl,rfl,hM _ _ k5 dr (by decide),_,rfl,_,rfl,pP NJ,?_⟩;rw[nW];refine⟨_,_,rfl,rfl,hM _ _ zf sD (by decide),?_⟩;have BE:bK "road "++S a++bK " "++S b++bK " "++S (cB t)++bK " "++S (cB m)=gH [p8,a,b,cB t,cB m]:=by
    have aF:bK "road "=S (p8++[32]):=by decide+kernel
    have aG:bK " "=S [32]:=by decide+kernel
    rw[aF,aG];unfold gH;simp only[sM,eO,qx]
   rw[BE];generalize gH [p8,a,b,cB t,cB m]=row at bw cH⊢;refine f7 cu bT λcu bT=>?_;have good:∀g:Bool,(g=true↔uY hs a b t m)->cu {cp:=λ_ H'=>Q .bJ H',h9:=Q} [some (.ref an),some (.ref bH),some (.str (S a)),some (.str (S b)),some (.int c),some (.int t),some (.int m),some (.str row),some (.aM g)] H:=λg bp=>by
    subst bT;have q_:=i4 ls;have bad:(¬uY hs a b t m\/ls.length=40)->[V.str (bK "net")].length<=sizeLine/\∀l,H l=none->[V.str row,V.ref l].length<=sizeLine/\∀u,upd H l (.lst [V.str (bK "net")]) u=none->Q (.ref u) (upd (upd H l (.lst [V.str (bK "net")])) u (.tup [V.str row,V.ref l])):=λh=>
     ⟨(by show 1<=sizeLine;decide),λl nl=>⟨(by show 2<=sizeLine;decide),λu gS=>bw h _ _ ((aZ nl).trans (aZ gS)) ⟨u,l,aE,aZ gS _ _ aE⟩⟩⟩
    refine⟨_,rfl,_,rfl,?_⟩;cases g with
    |false=>exact f6 ⟨_,rfl,bad (.inl λy=>nomatch (bp.mpr y))⟩
    |true=>
     refine f5 ⟨_,rfl,bH,_,rfl,.inl (aJ.of au),rfl,_,rfl,?_⟩;by_cases z:ls.length=40
     .exact cY (b4 (by rw[q_,z];rfl)) ⟨_,rfl,bad (.inr z)⟩
     refine c3 (cM λy=>z (by have:=V.int.inj y;omega)) ⟨_,rfl,.inl ⟨rfl,_,aJ.of au⟩,_,rfl,_,rfl,_,rfl,_,rfl,(by show 4<=sizeLine;decide),λr fS=>⟨bH,_,_,rfl,rfl,aZ fS _ _ au,en (by omega),?_⟩⟩;have aG:bM ls++[.ref r]=bM (ls++[r]):=by unfold bM;rw[fk];rfl
     rw[aG];have n3:r≠bH:=(cI au fS).symm;have k1:∀bI o,bI≠bH->H bI=some o->upd (upd H r (.tup [.str (S a),.str (S b),.int t,.int m])) bH (.lst (bM (ls++[r]))) bI=some o:=λbI o nb e=>by rw[aV nb];exact aZ fS _ _ e
     have k2:upd (upd H r (.tup [.str (S a),.str (S b),.int t,.int m])) bH (.lst (bM (ls++[r]))) bH=some (.lst (bM (ls++[r]))):=aE;have k3:upd (upd H r (.tup [.str (S a),.str (S b),.int t,.int m])) bH (.lst (bM (ls++[r]))) r=some (.tup [.str (S a),.str (S b),.int t,.int m]):=by rw[aV n3];exact aE
     generalize upd (upd H r (.tup [.str (S a),.str (S b),.int t,.int m])) bH (.lst (bM (ls++[r])))=ah at k1 k2 k3⊢;have cR:(((bM (ls++[r])).length:Nat):Int)-1=((ls.length:Nat):Int):=by rw[i4,eS];show((ls.length+1:Nat):Int)-1=_;omega
     refine⟨_,rfl,_,rfl,bH,_,rfl,.inl (aJ.of k2),_,_,rfl,rfl,_,rfl,?_,?_⟩
     .rw[cR];exact pP (by omega)
     .rw[cR,nW];exact⟨(by show 2<=sizeLine;decide),λl nl=>⟨(by show 2<=sizeLine;decide),λu gS=>cH (bp.mp rfl) (by omega) _ r _ fS (λbI o nb e=>aZ gS _ _ (aZ nl _ _ (k1 bI o nb e))) (aZ gS _ _ (aZ nl _ _ k2)) (aZ gS _ _ (aZ nl _ _ k3)) ⟨u,l,aE,aZ gS _ _ aE⟩⟩⟩
   have no:¬uY hs a b t m->cu {cp:=λ_ H'=>Q .bJ H',h9:=Q} [some (.ref an),some (.ref bH),some (.str (S a)),some (.str (S b)),some (.int c),some (.int t),some (.int m),some (.str row),some (.aM false)] H:=λh=>good false ⟨(λz=>nomatch z),λz=>bk z h⟩;refine⟨_,rfl,_,rfl,an,_,rfl,.inl (aJ.of av),rfl,q7 hs,_,rfl,?_⟩;by_cases aT:a∈hs
   case neg=>exact c3 (kk.mpr λy=>aT (lW.mp y)) (no λy=>aT y.y_)
   refine cY (lW.mpr aT) ⟨_,rfl,_,rfl,an,_,rfl,.inl (aJ.of av),rfl,q7 hs,_,rfl,?_⟩;by_cases aP:b∈hs
   case neg=>exact c3 (kk.mpr λy=>aP (lW.mp y)) (no λy=>aP y.za)
   refine cY (lW.mpr aP) ⟨_,rfl,_,rfl,rfl,_,rfl,?_⟩;by_cases bh:a=b
   case pos=>exact c3 (by rw[bh,b4 rfl];rfl) (no λy=>y.ne bh)
   refine cY (by rw[cM λy=>bh (m2 (V.str.inj y))];rfl) ⟨_,rfl,_,_,rfl,rfl,_,rfl,?_⟩;by_cases cf:(1:Int)<=t
   case neg=>exact c3 (cM cf) ⟨_,rfl,f5 (no λy=>cf (by have:=y.ru.1;omega))⟩
   refine cY (b4 cf) ⟨_,_,rfl,rfl,_,rfl,?_⟩;by_cases cP:(t:Int)<=9
   case neg=>exact c3 (cM cP) (no λy=>cP (by have:=y.ru.2;omega))
   refine cY (b4 cP) ⟨_,rfl,_,_,rfl,rfl,_,rfl,?_⟩;by_cases dM:(1:Int)<=m
   case neg=>exact c3 (cM dM) (no λy=>dM (by have:=y.jY.1;omega))
   refine cY (b4 dM) ⟨_,_,rfl,rfl,⟨by decide,by decide,by decide⟩,_,_,rfl,rfl,good _ ?_⟩;have Kr:(10:Int) ^ (9:Int).toNat=1000000000:=by decide
   rw[Kr,decide_eq_true_iff];exact⟨λh=>⟨aT,aP,bh,⟨by omega,by omega⟩,by omega,by omega⟩,λh=>by have:=h.jY.2;omega⟩
  refine⟨_,rfl,_,_,rfl,rfl,⟨by decide,by decide⟩,_,_,rfl,rfl,by decide,rfl,_,rfl,?_⟩;by_cases z:c/44%5=0
  .refine cY (b4 (ek V.int z)) ⟨_,rfl,_,_,rfl,rfl,⟨by decide,by decide⟩,_,_,rfl,rfl,⟨by decide,by decide,by decide⟩,_,_,rfl,rfl,by decide,?_⟩;have afv:(10:Int) ^ (10:Int).toNat=10000000000:=by decide
   have e:c/220%10000000000=(jT c:Int):=by unfold jT;rw[bO z];exact(vE (lF _ (by decide))).symm
   rw[afv,e];exact fin
  .refine c3 (cM λy=>z (V.int.inj y)) ?_;have e:c/11%4=(jT c:Int):=by unfold jT;rw[bz z];exact(vE (lF _ (by decide))).symm
   rw[e];exact fin
unseal fl bl fM gc
end
end c2
namespace b5
open PySem PySem.Spec PyProof.Rows ao
theorem Â{A:dn}{R:nz->aO->Prop}{b0 wr:c7}{n:Nat}{P:Nat->Value->Prop}{St:Nat->Heap->Prop}(W:tI prog w A.in1 I b0 wr n P St)(d6:iO)(ar:vl prog w A.in1 .Gt P d6)(S:Addr)(hu:S∉b0):
  ∀(k j:Nat)(s:aO)(eK:Value)(c:Nat),n-(j+1)=k->j+1<=n->St (j+1) s.heap->P (eF d6 j) eK->s.heap.get? S=some ⟨.type "list",none,.seq #[eK,eK] c,#[]⟩->
   (∀v h' aH,P (eF d6 (n-1)) v->(∀b o,b∉wr->b≠S->s.heap.get? b=some o->h'.get? b=some o)->R (.ok (.ret v)) {s with heap:=h',toks:=aH})->
   jv (a_ prog w) A (.builtin "max.loop" ⟨[.ref I,.none,.ref S],[]⟩) R s:=by
 have wS:S∉wr:=λh=>hu (W.sub _ h);have nm:(toString "max"++toString ".loop":String)="max.loop":=by decide
 intro k
 induction k with
 |zero=>
  intro j s eK c aD bu st g4 fQ bQ;have iy:j+1=n:=by omega
  refine k_ Ba ?_;rw[ml nw _];refine eN (n6 (.ref S)) (kj fQ rfl (eN (tryCatch (gT (.ref I)) _) (kU (W.done s _ _ (iy▸st) λh' aH bG=>?_))));refine eN (xB S (λ_=>#[])) (qn (bG S _ wS fQ) rfl (aq (jI (ba ?_))));exact bQ eK _ aH (by rw[<-iy];exact g4) λb o cn cC e=>(ik _ _ (d3 cC)).trans (bG b o cn e)
 |succ k a5=>
  intro j s eK c aD bu st g4 fQ bQ;have lt:j+1<n:=by omega
  refine k_ Ba ?_;rw[ml nw _];refine eN (n6 (.ref S)) (kj fQ rfl (eN (tryCatch (gT (.ref I)) _) (kU (W.item (j+1) s _ _ lt st λv h' aH aa eJ bG=>?_))));have hq:=bG S _ wS fQ;refine eN (tryCatch (oO [v,v] (NK .Gt v eK >>=_)) _) (kU (jH (aq (ar (j+1) (eF d6 j) v eK _ _ _ aa g4 (aq (jH (nc (aq (jI (ba ?_))))))))));cases ae:d6 (j+1) (eF d6 j)with
  |true=>
   simp only[if_true];refine aq (qn hq rfl (aq (jI ?_)));rw[nm];refine ba ⟨kO nw _,a5 (j+1) _ v _ (by omega) lt (W.frame _ _ _ eJ λb lM o e=>(ik _ _ (λh:S=b=>hu (by rw[h];exact lM))).trans e) (by simp only[eF,ae,if_true];exact aa) (nj _ hq rfl) λv2 aj iI iH iE=>?_⟩;exact bQ v2 aj iI iH λb o cn cC e=>iE b o cn cC ((ik _ _ (d3 cC)).trans (bG b o cn e))
  |false=>
   simp only[rF,if_false];refine aq (jI ?_);rw[nm];exact ba ⟨kO nw _,a5 (j+1) _ eK c (by omega) lt eJ (by simp only[eF,ae,rF,if_false];exact g4) hq λv2 aj iI iH iE=>bQ v2 aj iI iH λb o cn cC e=>iE b o cn cC (bG b o cn e)⟩
theorem Zp{A:dn}{R:nz->aO->Prop}{b0 wr:c7}{n:Nat}{P:Nat->Value->Prop}{St:Nat->Heap->Prop}(W:tI prog w A.in1 I b0 wr n P St)(d6:iO)(ar:vl prog w A.in1 .Gt P d6)(S:Addr)(hu:S∉b0){s:aO}{c:Nat}(st:St 0 s.heap)(fQ:s.heap.get? S=some ⟨.type "list",none,.seq #[] c,#[]⟩)(hz:0<n)(ai:∀v h' aH,P (eF d6 (n-1)) v->(∀b o,b∉wr->b≠S->s.heap.get? b=some o->h'.get? b=some o)->R (.ok (.ret v)) {s with heap:=h',toks:=aH}):
  jv (a_ prog w) A (.builtin "max.loop" ⟨[.ref I,.none,.ref S],[]⟩) R s:=by
 have wS:S∉wr:=λh=>hu (W.sub _ h);have nm:(toString "max"++toString ".loop":String)="max.loop":=by decide
 refine k_ Ba ?_;rw[ml nw _];refine eN (n6 (.ref S)) (kj fQ rfl ?_);refine eN (tryCatch (gT (.ref I)) _) (kU (W.item 0 s _ _ hz st λv h' aH aa eJ bG=>?_));have hq:=bG S _ wS fQ;refine eN (xB S (λ_=>#[v,v])) (qn hq rfl ?_);rw[nm];refine ba ⟨kO nw _,Â W d6 ar S hu _ 0 _ v _ rfl hz (W.frame _ _ _ eJ λb lM o e=>(ik _ _ (λh:S=b=>hu (by rw[h];exact lM))).trans e) aa (nj _ hq rfl) λv2 aj iI iH iE=>?_⟩;exact ai v2 aj iI iH λb o cn cC e=>iE b o cn cC ((ik _ _ (d3 cC)).trans (bG b o cn e))
theorem Ã(a:Value):v5 "max" ⟨[a],[]⟩:=by unfold v5;kernel_rfl
theorem ķ{A:dn}{E:b6}{s:aO}{items:ks}{val:Nat->Int}{Q:b6}(dh:A.in1.handled=none)(au:s.heap.IsList l items)(a7:∀i v,items[i]?=some v->∃t,v=oB (val i) t)(hz:0<items.size)(ai:∀t h' aH,(∀b o,s.heap.get? b=some o->h'.get? b=some o)->Q (oB (val (eF (λi j=>decide (val i>val j)) (items.size-1))) t) {s with heap:=h',toks:=aH}):
  aN (a_ prog w) A (call (.builtin "max") [.ref l] []) Q E s:=by
 have nm:(toString "max"++toString ".loop":String)="max.loop":=by decide
 obtain⟨ol,iV,_⟩:=id au;have hI:l≠s.heap.objs.size:=eA (c' iV);refine Jp ŗ ř ŕ (Ã _) ?_;refine eN (H8 "max" ["key","default"] 0 ⟨[],[]⟩) (oh (show _=pure [none,none]from rfl) ?_);refine aq (ba ?_);refine aq (u9 au ?_);refine aq (og ?_);rw[nm];have W:=yB (prog:=prog) (w:=w) (A:=A.in1) dh s.heap.objs.size l hI items;have hY:(s.heap.push (h6 l)).objs.size=s.heap.objs.size+1:=pf ..;have dw:=c' iV;have pO:(s.heap.push (h6 l)).get? s.heap.objs.size=some (h6 l):=eY _ rfl;have iB:=au.push (h6 l);have k1:∀b o,s.heap.get? b=some o->(s.heap.push (h6 l)).get? b=some o:=λb o e=>c9 _ e;dsimp only;generalize s.heap.push (h6 l)=wI at hY pO iB k1⊢;refine ba ⟨kO nw _,Zp W _ (CmpOf.ints_gt val a7) wI.objs.size (by rw[hY];simp only[dX,di,or_false,not_or];exact⟨Ey _,d3 (rg iV)⟩) ⟨⟨_,c9 _ pO,rfl,rfl⟩,iB.push _⟩ (eY _ rfl) hz λv h' aH aa bG=>?_⟩;obtain⟨fh,rfl⟩:=a7 _ v aa;exact ai fh h' aH λb o e=>bG b o (by simp only[dX,di,or_false];exact Ag e) (by rw[hY];exact rg e) (c9 _ (k1 b o e))
theorem Ä{X:bx}(ar:X.calm=true):jc X (.builtin "max") (λxs H Q=>∃a ns,xs=[.ref a]/\aJ X.K H a (ns.map V.int)/\ns≠[]/\Q (.int (oZ ns)) H):=by
 intro pins s σ H xs us Q I r h;obtain⟨a,ns,rfl,bo,cZ,q⟩:=h;obtain⟨u,rfl,dF⟩:=vals1 r;cases dF;obtain⟨its,cc,pl,hz⟩:=I.list bo;have hlen:ns.length=its.length:=by have:=cc.length;rwa [cj]at this
 refine ķ (val:=λi=>ns.getD i 0) (items:=its.toArray) (I.ok.hd ar) pl.isList (λi v ev=>?_) (by rw[gp,<-hlen];exact En.mpr cZ) λt h' aH bG=>?_
 .have oI:its[i]?=some v:=by simpa using ev
  have hi:i<ns.length:=by rw[hlen];exact(gn.mp oI).1
  obtain⟨u',bB,cT⟩:=cc.get (x:=V.int (ns.getD i 0)) (i:=i) (by rw[d0,dW hi];simp[eb,hi]);rw[oI]at bB;cases bB;exact cT
 .refine⟨.int (oZ ns),H,I.kept bG,⟨t,?_⟩,q⟩;unfold oZ;rw[hlen];simp
end b5
namespace c2
open PySem ao b5 cQ
noncomputable def VQ(d:Bn):List ao.V:=[.str d.1,.int d.2.1,.str d.2.2]
noncomputable def qk:List Nat:=[108,101,116,116,101,114]
noncomputable def ql(bS:vX)(t:Nat):List Int:=bS.map (λd=>d.2.1)++[(t:Int)]
structure vy(hs:bt)(bS:vX)(a b:cx)(t:Nat):Prop where
 y_:a∈hs
 za:b∈hs
 ne:a≠b
 ru:t<=1000000000
 cN:bS.length<40
 ap:oZ (ql bS t)-nY (ql bS t)<=30
section
variable{P:cA}{w:bU}{K:aQ}{mg:b9}{base:Heap}
noncomputable abbrev EU:Stmt:=top 129
noncomputable abbrev EV:List Str:=["_law_names","_law_letters","_law_one","_law_other","_law_turn"]
theorem Jl:de ["_law_names","_law_letters","_law_one","_law_other","_law_turn","_law_row_here","_law_turns"] EV (cy EU):={}
inductive Tw(vs:aR)(H:af)(Q:a4)(E:bP):Prop where
 |mk (an bH:Addr) (hs:bt) (ls:c7) (bS:vX) (a b:cx) (t:Nat) (aT:vs=[.ref an,.ref bH,.str (S a),.str (S b),.int (t:Int)]) (aP:H an=some (.lst (bY hs))) (bh:H bH=some (.lst (bM ls))) (Pm:ha H ls (bS.map VQ)) (cf:fF a) (cP:fF b) (dM:hs.length<=12) (gk:bS.length<=40) (akh:t<10 ^ 10)
   (ic:¬vy hs bS a b t->∀v H',aB H H'->m3 H' (gH [qk,a,b,cB t]) [.str "letter"] v->Q v H')
   (qo:vy hs bS a b t->∀v r H',H r=none->(∀b o,b≠bH->H b=some o->H' b=some o)->H' bH=some (.lst (bM (ls++[r])))->H' r=some (.tup [.str (S a),.int (t:Int),.str (S b)])->m3 H' (gH [qk,a,b,cB t]) [.aM true,.str (S (cB bS.length))] v->Q v H')
seal fl bl fM gc
theorem ab7{f:Addr}(F:cz K "_law_letter" "_law_letter" EU f fd)(B:eR mg):aK P w K mg base bq 1 f fd EV Tw:=by
 refine F.ok Jl (λcdv A outer s H vs Q E al h=>?_)
 .refine⟨_,(a9 (c8 (i:=5) Jl.aC rfl (ct rfl) (b7 g6 (b7 g6 (b7 g6 (b7 g6 (b7 g6 cv (aa 2)) cv) (aa 3)) cv) (iv qO (by rfl) B.str mZ (ag (aa 4) aw))))
   (a9 (c8 (i:=6) Jl.aC rfl (ct rfl) (b7 uJ (lq (N':=["_law_letter_here"]) (cs:=[none]) rfl (hU (aa 1)) rfl (by decide+kernel) rfl (by decide+kernel) (jy (λp ay=>bk ay (di))) rfl
    (.own .nil)
    (λC aW aU b0 ez=>⟨(eo (i:=0) (by show(["_law_letter_here"]:ck).Nodup;decide+kernel) rfl (.inl rfl)),lg,(cU (Dd (K:=K) rfl) (aa 0) bc (λ_ _=>rfl))⟩)) (d5 (ag (aa 4) aw))))
   (a9 (dH (hl.pt (jb (dG tX (aa 2) (aa 0) (by rfl)) (jb (dG tX (aa 3) (aa 0) (by rfl)) (jb (dG jd (aa 2) (aa 3) (dE _)) (kz (dG sL (aa 4) (b7 HP bc bc) (dE _))))))) (bg (cm (hE (ag (aa 5) (ag (d5 (ag cv aw)) aw))))) dJ)
   (a9 (dH (hl.pt (jb (dG jd (df iQ (by rfl) B.len g7 (ag (aa 1) aw)) bc (dE _)) (kz (dG sL (b7 zU (df (Ä rfl) (by rfl) B.max Ta (ag (aa 6) aw)) (df (Oi rfl) (by rfl) B.min I5 (ag (aa 6) aw))) bc (dE _))))) (bg (cm (hE (ag (aa 5) (ag (d5 (ag cv aw)) aw))))) dJ)
   (a9 (gZ (l5 rT tw tx qR (aa 1) (ag (hE (ag (aa 2) (ag (aa 4) (ag (aa 3) aw)))) aw)))
   (bg (cm (hE (ag (aa 5) (ag (d5 (ag iz (ag (iv qO (by rfl) B.str mZ (ag (b7 zU (df iQ (by rfl) B.len g7 (ag (aa 1) aw)) bc) aw)) aw))) aw)))))))))),?_⟩
  try dsimp only[gR,gQ]
  refine cut λcu bT=>?_;obtain⟨an,bH,hs,ls,bS,a,b,t,rfl,av,au,dv,CL,CM,r_,zi,rt,bw,cH⟩:=h;have pZ:(S a).length<=8:=by rw[dR];exact CL.2.1
  have p0:(S b).length<=8:=by rw[dR];exact CM.2.1
  have lt:(S (cB t)).length<=10:=by rw[dR];exact sI rt
  have sv:(bK "letter ").length<=7:=by decide+kernel
  have dr:(bK " ").length<=1:=by decide+kernel
  have k1:=iF sv pZ rfl;have k2:=iF k1 dr rfl;have k3:=iF k2 p0 rfl;have oS:=iF k3 dr rfl;refine⟨_,rfl,_,_,rfl,rfl,hM _ _ sv pZ (by decide),_,_,rfl,rfl,hM _ _ k1 dr (by decide),_,rfl,_,_,rfl,rfl,hM _ _ k2 p0 (by decide),_,_,rfl,rfl,hM _ _ k3 dr (by decide),_,rfl,_,rfl,pP rt,?_⟩;rw[nW];refine⟨_,_,rfl,rfl,hM _ _ oS lt (by decide),?_⟩;have BE:bK "letter "++S a++bK " "++S b++bK " "++S (cB t)=gH [qk,a,b,cB t]:=by
   have aF:bK "letter "=S (qk++[32]):=by decide+kernel
   have aG:bK " "=S [32]:=by decide+kernel
   rw[aF,aG];unfold gH;simp only[sM,eO,qx]
  rw[BE];generalize gH [qk,a,b,cB t]=row at bw cH⊢;refine f7 cu bT λcu bT=>?_;have sD:=i4 ls;have q_:ls.length=bS.length:=by have:=dv.len;rwa [cj]at this
  dsimp only[ht,xU,sR];refine QM (J:=kW K bH) (H1:=H) (xs:=bM ls) (rest:=[]) (λR h=>⟨_,rfl,bH,rfl,⟨_,aJ.of au⟩,h⟩) rfl (q5 (aJ.of au)) (en (by omega)) (λi=>.int (bS.getD i (iN,0,iN)).2.1) (λi v ah R ev az bG=>?_) (λD ah l_ bF uQ=>?_)
  .unfold bM at ev;rw[d0]at ev;obtain⟨r,eB,rfl⟩:=iq.mp ev;obtain⟨d',nH,uh⟩:=fH.get dv eB;rw[d0]at nH;obtain⟨d,cV,rfl⟩:=iq.mp nH;have VK:=bG ah (aB.refl _);rw[eb,cV]at VK;exact⟨_,rfl,r,_,_,_,rfl,rfl,cG.of (az _ _ uh),rfl,VK⟩
  have pM:(gN (bM ls).length).map (λi=>V.int (bS.getD i (iN,0,iN)).2.1)=(bS.map λd=>d.2.1).map V.int:=by rw[sD,q_,range_getD (λd:Str×Int×Str=>V.int d.2.1) (iN,0,iN) bS,jK];rfl
  rw[pM]at bF;refine⟨_,rfl,(by show 1<=sizeLine;decide),λp np=>⟨D,p,_,_,rfl,rfl,aZ np _ _ bF,aE,en ?_,λdu aid=>?_⟩⟩
  .rw[cj,cj];omega
  have s1:aB H (upd (upd ah p (.lst [.int (t:Int)])) du (.lst ((bS.map λd=>d.2.1).map V.int++[.int (t:Int)]))):=uQ.trans ((aZ np).trans (aZ aid));have B_:upd (upd ah p (.lst [.int (t:Int)])) du (.lst ((bS.map λd=>d.2.1).map V.int++[.int (t:Int)])) du=some (.lst ((ql bS t).map V.int)):=by rw[aE];unfold ql;rw[fk];rfl
  refine f7 cu bT λcu bT=>?_;show ht _ _ _ _ (upd (upd ah p (.lst [.int (t:Int)])) du (.lst ((bS.map λd=>d.2.1).map V.int++[.int (t:Int)])));generalize upd (upd ah p (.lst [.int (t:Int)])) du (.lst ((bS.map λd=>d.2.1).map V.int++[.int (t:Int)]))=aU at s1 B_⊢;have bad:¬vy hs bS a b t->[V.str (bK "letter")].length<=sizeLine/\∀l,aU l=none->[V.str row,V.ref l].length<=sizeLine/\∀u,upd aU l (.lst [V.str (bK "letter")]) u=none->Q (.ref u) (upd (upd aU l (.lst [V.str (bK "letter")])) u (.tup [V.str row,V.ref l])):=λh=>
   ⟨(by show 1<=sizeLine;decide),λl nl=>⟨(by show 2<=sizeLine;decide),λu gS=>bw h _ _ (s1.trans ((aZ nl).trans (aZ gS))) ⟨u,l,aE,aZ gS _ _ aE⟩⟩⟩
  have U4:=s1 _ _ av;have uj:=s1 _ _ au;subst bT;refine⟨_,rfl,_,rfl,an,_,rfl,.inl (aJ.of U4),rfl,q7 hs,_,rfl,?_⟩;by_cases aT:a∈hs
  case neg=>exact cY (show(!iD (.str (S a)) (bY hs))=true by rw[kk.mpr λy=>aT (lW.mp y)];rfl) ⟨_,rfl,bad λy=>aT y.y_⟩
  refine c3 (show(!iD (.str (S a)) (bY hs))=false by rw[lW.mpr aT];rfl) ⟨_,rfl,_,rfl,an,_,rfl,.inl (aJ.of U4),rfl,q7 hs,_,rfl,?_⟩;by_cases aP:b∈hs
  case neg=>exact cY (show(!iD (.str (S b)) (bY hs))=true by rw[kk.mpr λy=>aP (lW.mp y)];rfl) ⟨_,rfl,bad λy=>aP y.za⟩
  refine c3 (show(!iD (.str (S b)) (bY hs))=false by rw[lW.mpr aP];rfl) ⟨_,rfl,_,rfl,rfl,_,rfl,?_⟩;by_cases bh:a=b
  case pos=>exact cY (b4 (by rw[bh])) ⟨_,rfl,bad λy=>y.ne bh⟩
  refine c3 (cM λy=>bh (m2 (V.str.inj y))) ⟨_,rfl,_,_,rfl,rfl,⟨by decide,by decide,by decide⟩,_,_,rfl,rfl,_,rfl,?_⟩;have Kr:(10:Int) ^ (9:Int).toNat=1000000000:=by decide
  rw[Kr];by_cases cf:(1000000000:Int)<t
  .exact cY (b4 cf) ⟨_,rfl,bad λy=>by have:=y.ru;omega⟩
  refine c3 (cM cf) ⟨_,rfl,bH,_,rfl,.inl (aJ.of uj),rfl,_,rfl,?_⟩;by_cases cP:bS.length=40
  .exact cY (b4 (by rw[sD,q_,cP];rfl)) ⟨_,rfl,bad λy=>by have:=y.cN;omega⟩
  have nn:ql bS t≠[]:=by unfold ql;simp
  refine c3 (cM λy=>cP (by have:=V.int.inj y;omega)) ⟨_,rfl,du,_,rfl,aJ.of B_,nn,_,rfl,du,_,rfl,aJ.of B_,nn,_,_,rfl,rfl,_,_,rfl,rfl,_,rfl,?_⟩;by_cases dM:(30:Int)<oZ (ql bS t)-nY (ql bS t)
  .exact cY (b4 dM) ⟨_,rfl,bad λy=>by have:=y.ap;omega⟩
  have ok:vy hs bS a b t:=⟨aT,aP,bh,by omega,by omega,by omega⟩
  refine c3 (cM dM) ⟨_,rfl,.inl ⟨rfl,_,aJ.of uj⟩,_,rfl,_,rfl,_,rfl,(by show 3<=sizeLine;decide),λr fS=>⟨bH,_,_,rfl,rfl,aZ fS _ _ uj,en (by omega),?_⟩⟩;have aG:bM ls++[.ref r]=bM (ls++[r]):=by unfold bM;rw[fk];rfl
  rw[aG];have n3:r≠bH:=(cI uj fS).symm;have k1:∀bI o,bI≠bH->H bI=some o->upd (upd aU r (.tup [.str (S a),.int t,.str (S b)])) bH (.lst (bM (ls++[r]))) bI=some o:=λbI o nb e=>by rw[aV nb];exact aZ fS _ _ (s1 _ _ e)
  have k2:upd (upd aU r (.tup [.str (S a),.int t,.str (S b)])) bH (.lst (bM (ls++[r]))) bH=some (.lst (bM (ls++[r]))):=aE;have k3:upd (upd aU r (.tup [.str (S a),.int t,.str (S b)])) bH (.lst (bM (ls++[r]))) r=some (.tup [.str (S a),.int t,.str (S b)]):=by rw[aV n3];exact aE
  generalize upd (upd aU r (.tup [.str (S a),.int t,.str (S b)])) bH (.lst (bM (ls++[r])))=dx at k1 k2 k3⊢;have cR:(((bM (ls++[r])).length:Nat):Int)-1=((bS.length:Nat):Int):=by rw[i4,eS,q_];show((bS.length+1:Nat):Int)-1=_;omega
  refine⟨_,rfl,_,rfl,bH,_,rfl,.inl (aJ.of k2),_,_,rfl,rfl,_,rfl,?_,?_⟩
  .rw[cR];exact pP (by omega)
  .rw[cR,nW];exact⟨(by show 2<=sizeLine;decide),λl nl=>⟨(by show 2<=sizeLine;decide),λu gS=>cH ok _ r _ (e4 s1 fS) (λbI o nb e=>aZ gS _ _ (aZ nl _ _ (k1 bI o nb e))) (aZ gS _ _ (aZ nl _ _ k2)) (aZ gS _ _ (aZ nl _ _ k3)) ⟨u,l,aE,aZ gS _ _ aE⟩⟩⟩
unseal fl bl fM gc
noncomputable def m7:List Nat:=[119,97,121]
noncomputable def p9(c:Int)(m:Nat):Option Nat:=if c/64%4=0 then none else some (c%((m:Int)+1)).toNat
noncomputable def lu:Option Nat->List Nat
 |none=>[45]
 |some i=>cB i
noncomputable def vz(hs:bt)(ds:dc)(a:cx)(o:Option Nat):Prop:=∀i,o=some i->∃d,ds[i]?=some d/\S (hs.getD d.a [])=S a
theorem aaK(j:Nat):cB j≠[45]:=λh=>by have:=xk (m:=j) (c:=45) (by rw[h];exact .head _);omega
noncomputable abbrev EW:Stmt:=top 130
noncomputable abbrev EM:List Str:=["_law_names","_law_lines","_law_told","_law_one","_law_other","_law_n"]
theorem Ar:de ["_law_names","_law_lines","_law_told","_law_one","_law_other","_law_n","_law_road_here","_law_word","_law_row_here"] EM (cy EW):={}
inductive Tx(vs:aR)(H:af)(Q:a4)(E:bP):Prop where
 |mk (an bH ad:Addr) (hs:bt) (ls:c7) (ds:dc) (aA:List Row) (a b:cx) (c:Int) (aT:vs=[.ref an,.ref bH,.ref ad,.str (S a),.str (S b),.int c]) (aP:H an=some (.lst (bY hs))) (bh:H bH=some (.lst (bM ls))) (Pm:ha H ls (ds.map (lA hs))) (aki:H ad=some (.bV (b8 aA))) (cf:fF a) (cP:fF b) (dM:hs.length<=12) (gk:ds.length<=40) (ao5:aA.length<64)
   (ic:¬(a∈hs/\b∈hs/\a≠b)->∀v H',aB H H'->m3 H' (gH [m7,a,b,lu (p9 c ds.length)]) [.str "house"] v->Q v H')
   (qo:a∈hs->b∈hs->a≠b->¬vz hs ds a (p9 c ds.length)->∀v H',aB H H'->m3 H' (gH [m7,a,b,lu (p9 c ds.length)]) [.str "road"] v->Q v H')
   (ao6:a∈hs->b∈hs->a≠b->vz hs ds a (p9 c ds.length)->∀v H',(∀b o,b≠ad->H b=some o->H' b=some o)->H' ad=some (.bV (b8 (s5 aA (S a) (S b) (p9 c ds.length))))->m3 H' (gH [m7,a,b,lu (p9 c ds.length)]) [.aM true,.str "ok"] v->Q v H')
seal fl bl fM gc
theorem ab8{f:Addr}(F:cz K "_law_way" "_law_way" EW f fd)(B:eR mg):aK P w K mg base bq 1 f fd EM Tx:=by
 refine F.ok Ar (λcdv A outer s H vs Q E al h=>?_)
 .refine⟨_,(a9 (c8 (i:=6) Ar.aC rfl (ct rfl) (b7 jR (aa 5) (b7 oU (df iQ (by rfl) B.len g7 (ag (aa 1) aw)) bc)))
   (a9 (c8 (i:=7) Ar.aC rfl (ct rfl) (iv qO (by rfl) B.str mZ (ag (aa 6) aw)))
   (a9 (dH (dG jd (b7 jR (b7 mU (aa 5) bc) bc) bc (dE _)) (bg (c8 (i:=7) Ar.aC rfl (ct rfl) cv)) dJ)
   (a9 (c8 (i:=8) Ar.aC rfl (ct rfl) (b7 g6 (b7 g6 (b7 g6 (b7 g6 (b7 g6 cv (aa 3)) cv) (aa 4)) cv) (aa 7)))
   (a9 (dH (hl.pt (jb (dG tX (aa 3) (aa 0) (by rfl)) (jb (dG tX (aa 4) (aa 0) (by rfl)) (kz (dG jd (aa 3) (aa 4) (dE _)))))) (bg (cm (hE (ag (aa 8) (ag (d5 (ag cv aw)) aw))))) dJ)
   (a9 (dH (dG jd (aa 7) cv (dE _)) (a9 (gZ (P2 (gs al) (aa 2) (hE (ag (aa 3) (ag (aa 4) aw))) oT ⟨rfl,rfl,rfl,rfl⟩))
   (bg (cm (hE (ag (aa 8) (ag (d5 (ag iz (ag cv aw))) aw)))))) dJ)
   (a9 (dH (hl.pt (jb (dG jd (aa 6) (df iQ (by rfl) B.len g7 (ag (aa 1) aw)) (dE _)) (kz (dG rm (cU fe (cU gr (aa 1) (aa 6) (λ_ _=>rfl)) bc (λ_ _=>rfl)) (aa 3) (dE _))))) (bg (cm (hE (ag (aa 8) (ag (d5 (ag cv aw)) aw))))) dJ)
   (a9 (zM (gs al) (aa 2) (hE (ag (aa 3) (ag (aa 4) aw))) (aa 6) rfl)
   (bg (cm (hE (ag (aa 8) (ag (d5 (ag iz (ag cv aw))) aw))))))))))))),?_⟩
  try dsimp only[gR,gQ]
  refine cut λcu bT=>?_;obtain⟨an,bH,ad,hs,ls,ds,aA,a,b,c,rfl,av,au,dv,hd,CL,CM,r_,pL,aoR,bw,cH,hJ⟩:=h;have sD:=i4 ls;have q_:ls.length=ds.length:=by have:=dv.len;rwa [cj]at this
  have m0:(0:Int)<(((bM ls).length:Nat):Int)+1:=by omega
  have h8:0<=c%((ds.length:Int)+1):=lF _ (by omega);have cq:c%((ds.length:Int)+1)<(ds.length:Int)+1:=qv _ (by omega);obtain⟨i,oF⟩:=Ed h8;refine⟨_,rfl,_,rfl,bH,_,rfl,.inl (aJ.of au),_,_,rfl,rfl,_,_,rfl,rfl,m0,?_⟩;rw[sD,q_,oF];have VF:i<=ds.length:=by omega
  refine f7 cu bT λcu bT=>?_;refine⟨_,rfl,_,rfl,pP (by omega),?_⟩;rw[nW];refine f7 cu bT λcu bT=>?_;have fin:∀o:Option Nat,p9 c ds.length=o->(∀j,o=some j->j=i)->cu {cp:=λ_ H'=>Q .bJ H',h9:=Q} [some (.ref an),some (.ref bH),some (.ref ad),some (.str (S a)),some (.str (S b)),some (.int c),some (.int i),some (.str (S (lu o))),none] H:=λo oH CV=>by
   rw[oH]at bw cH hJ;have pZ:(S a).length<=8:=by rw[dR];exact CL.2.1
   have p0:(S b).length<=8:=by rw[dR];exact CM.2.1
   have lt:(S (lu o)).length<=10:=by
    rw[dR];cases o with
    |none=>show 1<=10;decide
    |some j=>exact sI (by rw[CV j rfl];omega)
   have sv:(bK "way ").length<=4:=by decide+kernel
   have dr:(bK " ").length<=1:=by decide+kernel
   have k1:=iF sv pZ rfl;have k2:=iF k1 dr rfl;have k3:=iF k2 p0 rfl;have oS:=iF k3 dr rfl;subst bT;refine cut λcu bT=>?_;refine⟨_,rfl,_,_,rfl,rfl,hM _ _ sv pZ (by decide),_,_,rfl,rfl,hM _ _ k1 dr (by decide),_,rfl,_,_,rfl,rfl,hM _ _ k2 p0 (by decide),_,_,rfl,rfl,hM _ _ k3 dr (by decide),_,rfl,_,_,rfl,rfl,hM _ _ oS lt (by decide),?_⟩;have BE:bK "way "++S a++bK " "++S b++bK " "++S (lu o)=gH [m7,a,b,lu o]:=by
    have aF:bK "way "=S (m7++[32]):=by decide+kernel
    have aG:bK " "=S [32]:=by decide+kernel
    rw[aF,aG];unfold gH;simp only[sM,eO,qx]
   rw[BE];generalize gH [m7,a,b,lu o]=row at bw cH hJ⊢;subst bT;have eG:∀x:Str,(∀v H',aB H H'->m3 H' row [.str x] v->Q v H')->[V.str x].length<=sizeLine/\∀l,H l=none->[V.str row,V.ref l].length<=sizeLine/\∀u,upd H l (.lst [V.str x]) u=none->Q (.ref u) (upd (upd H l (.lst [V.str x])) u (.tup [V.str row,V.ref l])):=λx h=>
    ⟨(by show 1<=sizeLine;decide),λl nl=>⟨(by show 2<=sizeLine;decide),λu gS=>h _ _ ((aZ nl).trans (aZ gS)) ⟨u,l,aE,aZ gS _ _ aE⟩⟩⟩
   refine⟨_,rfl,_,rfl,an,_,rfl,.inl (aJ.of av),rfl,q7 hs,_,rfl,?_⟩;by_cases aT:a∈hs
   case neg=>exact cY (show(!iD (.str (S a)) (bY hs))=true by rw[kk.mpr λy=>aT (lW.mp y)];rfl) ⟨_,rfl,eG _ (bw λy=>aT y.1)⟩
   refine c3 (show(!iD (.str (S a)) (bY hs))=false by rw[lW.mpr aT];rfl) ⟨_,rfl,_,rfl,an,_,rfl,.inl (aJ.of av),rfl,q7 hs,_,rfl,?_⟩;by_cases aP:b∈hs
   case neg=>exact cY (show(!iD (.str (S b)) (bY hs))=true by rw[kk.mpr λy=>aP (lW.mp y)];rfl) ⟨_,rfl,eG _ (bw λy=>aP y.2.1)⟩
   refine c3 (show(!iD (.str (S b)) (bY hs))=false by rw[lW.mpr aP];rfl) ⟨_,rfl,_,rfl,rfl,_,rfl,?_⟩;by_cases bh:a=b
   case pos=>exact cY (b4 (by rw[bh])) ⟨_,rfl,eG _ (bw λy=>y.2.2 bh)⟩
   refine c3 (cM λy=>bh (m2 (V.str.inj y))) ⟨_,rfl,rfl,_,rfl,?_⟩;have ok:∀(H1:af),aB H H1->vz hs ds a o->[V.aM true,V.str (bK "ok")].length<=sizeLine/\∀l,upd H1 ad (.bV (b8 (s5 aA (S a) (S b) o))) l=none->[V.str row,V.ref l].length<=sizeLine/\∀u,upd (upd H1 ad (.bV (b8 (s5 aA (S a) (S b) o)))) l (.lst [V.aM true,V.str (bK "ok")]) u=none->Q (.ref u) (upd (upd (upd H1 ad (.bV (b8 (s5 aA (S a) (S b) o)))) l (.lst [V.aM true,V.str (bK "ok")])) u (.tup [V.str row,V.ref l])):=λH1 s1 dK=>
    ⟨(by show 2<=sizeLine;decide),λl nl=>⟨(by show 2<=sizeLine;decide),λu gS=>hJ aT aP bh dK _ _ (λbI cD nb e=>aZ gS _ _ (aZ nl _ _ (by rw[aV nb];exact s1 _ _ e))) (aZ gS _ _ (aZ nl _ _ aE)) ⟨u,l,aE,aZ gS _ _ aE⟩⟩⟩
   cases o with
   |none=>
    refine cY (by decide+kernel) ⟨_,rfl,ad,rfl,.inr ⟨_,.inl hd⟩,_,rfl,_,rfl,(by show 2<=sizeLine;decide),λr fS=>?_⟩;have aW:=aZ (o:=.tup [V.str (S a),V.str (S b)]) fS;refine⟨b8 aA,dy (S a) (S b),r,rfl,aW _ _ hd,aE,?_⟩;rw[G9];exact⟨_,rfl,ok _ aW (λ_ e=>nomatch e)⟩
   |some j=>
    obtain rfl:=CV j rfl;refine c3 (cM λy=>?_) ⟨_,rfl,_,rfl,bH,_,rfl,.inl (aJ.of au),rfl,_,rfl,?_⟩
    .have e:S (cB j)=S [45]:=(V.str.inj y).trans (by decide+kernel);have:=aaK j;exact this (m2 e)
    by_cases cf:j=ds.length
    .refine cY (b4 (by rw[sD,q_,cf])) ⟨_,rfl,eG _ (cH aT aP bh λdK=>?_)⟩;obtain⟨d,hd,_⟩:=dK j rfl;have:=(gn.mp hd).1;omega
    have ahy:j<ls.length:=by omega
    obtain⟨r,eB⟩:∃r,ls[j]?=some r:=⟨_,dW ahy⟩
    obtain⟨d',nH,uh⟩:=fH.get dv eB;rw[d0]at nH;obtain⟨d,cV,rfl⟩:=iq.mp nH;have Kd:ao.hD (bM ls) (j:Int)=some (.ref r):=mV (by unfold bM;rw[d0,eB];rfl);refine c3 (cM λy=>cf (by have:=V.int.inj y;omega)) ⟨_,rfl,_,rfl,bH,_,_,_,rfl,rfl,aJ.of au,Kd,r,_,_,_,rfl,rfl,cG.of uh,rfl,_,rfl,rfl,_,rfl,?_⟩;by_cases cP:S (hs.getD d.a [])=S a
    .refine c3 (by rw[cP,b4 rfl];rfl) ⟨_,rfl,_,rfl,_,rfl,_,rfl,(by show 2<=sizeLine;decide),λu gS=>?_⟩;have aW:=aZ (o:=.tup [V.str (S a),V.str (S b)]) gS;refine⟨ad,_,rfl,n_.t (k:=dy (S a) (S b)) (aW _ _ hd) aE (en (by unfold b8;rw[cj];omega)),?_⟩;rw[G8];exact⟨_,rfl,ok _ aW (λk e=>by cases e;exact⟨d,cV,cP⟩)⟩
    .refine cY (by rw[cM λy=>cP (V.str.inj y)];rfl) ⟨_,rfl,eG _ (cH aT aP bh λdK=>?_)⟩;obtain⟨fy,FJ,e⟩:=dK j rfl;rw[cV]at FJ;cases FJ;exact cP e
  refine⟨_,rfl,_,_,rfl,rfl,⟨by decide,by decide⟩,_,_,rfl,rfl,by decide,rfl,_,rfl,?_⟩;by_cases z:c/64%4=0
  .exact cY (b4 (ek V.int z)) (fin none (bO z) (λj e=>nomatch e))
  .refine c3 (cM λy=>z (V.int.inj y)) (fin (some i) ?_ (λj e=>(fG e).symm));unfold p9;rw[bz z,oF];rfl
unseal fl bl fM gc
end
end c2
namespace b2
variable{κ:Type}[DecidableEq κ]
structure px(f D:κ->Option Int)(g:κ):Prop where
 up:∀k v,D k=some v->∃u,f k=some u/\u<=v
 goal:D g=some 0
noncomputable def mb(D:κ->Option Int)(e:fU κ):κ->Option Int:=match D e.b with
 |none=>D
 |some u=>match D e.a with
  |none=>put D e.a (u+e.t)
  |some w=>if u+e.t<w then put D e.a (u+e.t)else D
noncomputable def nt(D dP:κ->Option Int):Prop:=∀k v,D k=some v->∃me,dP k=some me/\me<=v
theorem nt.refl(D:κ->Option Int):nt D D:=λk v h=>⟨v,h,nq _⟩
theorem nt.trans{A B C:κ->Option Int}(ai:nt A B)(aj:nt B C):nt A C:=λk v h=>by obtain⟨v1,aF,dr⟩:=ai k v h;obtain⟨v2,aG,eu⟩:=aj k v1 aF;exact⟨v2,aG,Ee eu dr⟩
theorem GZ(D:κ->Option Int)(e:fU κ):(mb D e=D/\(D e.b=none\/∃u w,D e.b=some u/\D e.a=some w/\w<=u+e.t))\/∃u,D e.b=some u/\mb D e=put D e.a (u+e.t)/\∀w,D e.a=some w->u+e.t<w:=by
 cases ae:D e.b with
 |none=>exact .inl ⟨by unfold mb;rw[ae],.inl rfl⟩
 |some u=>
  cases av:D e.a with
  |none=>exact .inr ⟨u,rfl,by unfold mb;rw[ae,av],λw z=>(nomatch z)⟩
  |some w=>
   by_cases lt:u+e.t<w
   .exact .inr ⟨u,rfl,by unfold mb;rw[ae,av];exact bO lt,λd8 z=>by cases z;exact lt⟩
   .exact .inl ⟨by unfold mb;rw[ae,av];exact bz lt,.inr ⟨u,w,rfl,rfl,by omega⟩⟩
theorem Qa(D:κ->Option Int)(e:fU κ):nt D (mb D e):=λk v h=>by
 rcases GZ D e with⟨r,_⟩|⟨u,ae,r,aX⟩
 .rw[r];exact⟨v,h,nq _⟩
 .rw[r];unfold put;by_cases z:k=e.a
  .rw[bO z];rw[z]at h;exact⟨_,rfl,IG (aX v h)⟩
  .rw[bz z];exact⟨v,h,nq _⟩
theorem ν{D:κ->Option Int}{e:fU κ}{u:Int}(h:D e.b=some u):∃v,mb D e e.a=some v/\v<=u+e.t:=by
 rcases GZ D e with⟨r,ae|⟨u',w,ae,av,l⟩⟩|⟨u',ae,r,aX⟩
 .rw[h]at ae;cases ae
 .rw[h]at ae;cases ae;exact⟨w,by rw[r];exact av,l⟩
 .rw[h]at ae;cases ae;exact⟨_,by rw[r];unfold put;rw[bO rfl],nq _⟩
theorem ab9{f D:κ->Option Int}{g:κ}(U:px f D g){a:κ}{v u:Int}(h:f a=some u)(l:u<=v)(aX:∀w,D a=some w->v<w)(bp:f g=some 0):px f (put D a v) g:=by
 have ne:g≠a:=λz=>by have:=aX 0 (by rw[<-z];exact U.goal);rw[<-z,bp]at h;cases h;omega
 refine⟨λk w aD=>?_,?_⟩
 .unfold put at aD;split at aD
  .rename_i z;cases aD;exact⟨u,by rw[z];exact h,l⟩
  .exact U.up k w aD
 .unfold put;rw[bz ne];exact U.goal
section
variable{rs:List (fU κ)}{f:κ->Option Int}{g:κ}(F:vB rs f g)(ay:∀e∈rs,1<=e.t)
include F ay
theorem aiJ{D:κ->Option Int}(U:px f D g){e:fU κ}(he:e∈rs):px f (mb D e) g:=by
 rcases GZ D e with⟨r,_⟩|⟨u,bL,r,aX⟩
 .rw[r];exact U
 .obtain⟨u',ai,aj⟩:=U.up _ _ bL;obtain⟨v,bC,c5⟩:=F.back he ai;rw[r];exact ab9 U bC (by omega) aX (F.goal ay)
omit F ay in
noncomputable def SS(gM D:κ->Option Int)(es:List (fU κ)):Prop:=nt gM D/\∀e∈es,∀u,gM e.b=some u->∃v,D e.a=some v/\v<=u+e.t
omit F ay in
theorem SS.step{gM D:κ->Option Int}{es:List (fU κ)}(R:nt gM D/\∀e∈es,∀u,gM e.b=some u->∃v,D e.a=some v/\v<=u+e.t)(e:fU κ):
  nt gM (mb D e)/\∀bB∈es++[e],∀u,gM bB.b=some u->∃v,mb D e bB.a=some v/\v<=u+bB.t:=by
 refine⟨R.1.trans (Qa D e),λbB he u bL=>?_⟩;rcases ip.mp he with z|z
 .obtain⟨v,ai,aj⟩:=R.2 bB z u bL;obtain⟨me,bC,c5⟩:=Qa D e _ _ ai;exact⟨me,bC,by omega⟩
 .rw[gW.mp z]at bL⊢;obtain⟨u',ai,aj⟩:=R.1 _ _ bL;obtain⟨v,bC,c5⟩:=ν (e:=e) ai;exact⟨v,bC,by omega⟩
omit F ay in
noncomputable def bad(f D:κ->Option Int)(k:κ):Bool:=(f k).isSome&&decide (D k≠f k)
omit F ay in
theorem Qb{D:κ->Option Int}(U:px f D g){k:κ}{u v:Int}(bL:f k=some u)(a7:D k=some v)(l:v<=u):D k=f k:=by obtain⟨u',ai,aj⟩:=U.up _ _ a7;rw[bL]at ai;cases ai;rw[a7,bL];congr 1;omega
theorem round{ns:List κ}(i9:∀e∈rs,e.b∈ns){gM D:κ->Option Int}(JD:px f gM g)(U:px f D g)(R:nt gM D/\∀e∈rs,∀u,gM e.b=some u->∃v,D e.a=some v/\v<=u+e.t):
  ns.countP (bad f D)<ns.countP (bad f gM)\/ns.countP (bad f D)=0:=by
 have mono:∀k,bad f D k=true->bad f gM k=true:=λk h=>by unfold bad at h⊢;simp only[ie,decide_eq_true_eq]at h⊢;refine⟨h.1,λz=>h.2 ?_⟩;obtain⟨u,bL⟩:=pq.mp h.1;rw[bL]at z;obtain⟨v,ai,aj⟩:=R.1 _ _ z;exact Qb U bL ai aj
 by_cases all:∃k∈ns,bad f gM k=true
 .-- aji aoC bad one
  have near:∀(n:Nat)(k:κ)(u:Int),u.toNat=n->k∈ns->f k=some u->bad f gM k=true->∃k∈ns,∃u,f k=some u/\bad f gM k=true/\∀iX∈ns,∀u',f iX=some u'->u'<u->bad f gM iX=false:=by
   intro n
   induction n using R8 with
   |_ n a5=>
    intro k u aX aD bL ae;by_cases h:∃iX∈ns,∃u',f iX=some u'/\u'<u/\bad f gM iX=true
    .obtain⟨iX,m,u',ai,aj,bC⟩:=h;have a8:=(F.path _ _ ai).nonneg ay;exact a5 u'.toNat (by omega) iX u' rfl m ai bC
    .refine⟨k,aD,u,bL,ae,λiX m u' ai aj=>?_⟩;cases c6:bad f gM iX with
     |false=>rfl
     |true=>exact bk ⟨iX,m,u',ai,aj,c6⟩ h
  obtain⟨k0,m0,kt⟩:=all;have s0:(f k0).isSome=true:=by unfold bad at kt;simp only[ie]at kt;exact kt.1
  obtain⟨ajn,ahh⟩:=pq.mp s0;obtain⟨k,aD,u,bL,ae,agS⟩:=near _ k0 ajn rfl m0 ahh kt;have ahA:k≠g:=λz=>by unfold bad at ae;rw[z,JD.goal,F.goal ay]at ae;simp at ae
  obtain⟨_,e,he,u',aS,dq,ev⟩:=F.other ay ahA bL;have cO:=ay e he;have ok:=agS e.b (i9 e he) u' dq (by omega);have ex:gM e.b=some u':=by unfold bad at ok;rw[dq]at ok;simpa using ok
  obtain⟨v,ai,aj⟩:=R.2 e he u' ex;rw[aS]at ai;have fin:=Qb U bL ai (by omega);refine .inl (Bv mono (b:=k) ?_ ae aD);unfold bad;rw[fin];simp
 .refine .inr ?_;rw[å]
  exactλk aD h=>all ⟨k,aD,mono k h⟩
end
end b2
namespace c2
open PySem ao b5 cQ
noncomputable abbrev toD(hs:bt)(ds:dc)(g:Str):Str->Option Int:=λk=>b2.dist (fY hs ds) k g
theorem ĸ{hs:bt}{ds:dc}(R:∀d∈ds,d.Ok hs.length){h g:Str}{u:Int}(p:b2.Path (fY hs ds) h g u)(hm:g∈hs.map S):h∈hs.map S:=by
 rcases p.first with⟨e,_⟩|⟨e,he,u',aS,_⟩
 .rw[e];exact hm
 .obtain⟨d,hd,rfl⟩:=cw.mp he;rw[<-aS];exact ra (R d hd).a
theorem YY{hs:bt}{ds:dc}(R:∀d∈ds,d.Ok hs.length)(fZ:∀e∈fY hs ds,1<=e.t){g:Str}(bp:g∈hs.map S){D:hP}(U:b2.px (toD hs ds g) D g)(z:(hs.map S).countP (b2.bad (toD hs ds g) D)=0):D=toD hs ds g:=by
 funext k;cases e:toD hs ds g k with
 |none=>
  cases aG:D k with
  |none=>rfl
  |some v=>
   obtain⟨u,bL,_⟩:=U.up _ _ aG;rw[e]at bL;cases bL
 |some u=>
  have aD:=ĸ R ((b2.wm fZ g).path k u e) bp;have nb:=(å.mp z) k aD;unfold b2.bad at nb;rw[e]at nb;simpa using nb
noncomputable def pa(D:hP)(n:Nat):Prop:=∀k v,D k=some v->0<=v/\v<=(n:Int)
theorem pa.mono{D:hP}{n m:Nat}(h:pa D n)(l:n<=m):pa D m:=λk v e=>⟨(h k v e).1,Ee (h k v e).2 (by omega)⟩
theorem pa.put{D:hP}{n:Nat}(h:pa D n){v:Int}(a8:0<=v)(ai:v<=(n:Int)):pa (b2.put D a v) n:=λk u e=>by
 unfold b2.put at e;split at e
 .cases e;exact⟨a8,ai⟩
 .exact h k u e
inductive HY(K:aQ)(vs:aR)(H:af)(Q:a4)(E:bP):Prop where
 |mk (b c:Addr) (nl:aR) (hs:bt) (rs:c7) (ds:dc) (g:Str) (aT:vs=[.ref b,.ref c,.str g]) (aP:aJ K H b (bM rs)) (bh:aJ K H c nl) (cf:gE H hs rs ds) (cP:hs.length<=13) (dM:g∈hs.map S) (gk:nl.length<=12) (ic:ds.length<=40)
   (qo:∀(p:Addr)(H':af)(kvs:List (bb×ao.V))(D:hP),H p=none->aB H H'->H' p=some (.cF kvs)->Tab kvs D->pa D 5000->(nl.length=hs.length->D=toD hs ds g)->Q (.ref p) H')
inductive ς(b c p:Addr)(g:Str)(H:af)(hs:bt)(ds:dc)(i:Nat)(σ:ao.St)(cE:af):Prop where
 |mk (kvs:List (bb×ao.V)) (D:hP) (v1 v2 kT:ju) (aT:σ=[some (.ref b),some (.ref c),some (.str g),some (.ref p),v1,v2,kT]) (aP:aB H cE) (bh:cE p=some (.cF kvs)) (cf:Tab kvs D) (cP:kvs.length<=(hs.map S).countP (λk=>(D k).isSome)) (dM:b2.px (toD hs ds g) D g)
   (gk:(hs.map S).countP (b2.bad (toD hs ds g) D)+i<=hs.length\/(hs.map S).countP (b2.bad (toD hs ds g) D)=0) (ic:pa D (360*i))
inductive IK(b c p:Addr)(g:Str)(H:af)(hs:bt)(ds:dc)(gM:hP)(v:ao.V)(i j:Nat)(σ:ao.St)(cE:af):Prop where
 |mk (kvs:List (bb×ao.V)) (D:hP) (v2 kT:ju) (aT:σ=[some (.ref b),some (.ref c),some (.str g),some (.ref p),some v,v2,kT]) (aP:aB H cE) (bh:cE p=some (.cF kvs)) (cf:Tab kvs D) (cP:kvs.length<=(hs.map S).countP (λk=>(D k).isSome)) (dM:b2.px (toD hs ds g) D g)
   (gk:b2.nt gM D/\∀e∈fY hs (ds.take j),∀u,gM e.b=some u->∃w,D e.a=some w/\w<=u+e.t) (ic:pa D (360*i+9*j))
section
variable{P:cA}{w:bU}{K:aQ}{mg:b9}{base:Heap}
noncomputable abbrev As:Stmt:=top 126
theorem DF:de ["_law_lines","_law_names","_law_goal","_law_told","_law_k","_law_line","_law_there"] vK (cy As):={}
theorem aaC{f:Addr}(F:cz K "_law_fars" "_law_fars" As f fd):aK P w K mg base bq 1 f fd vK (HY K):=by
 refine F.ok DF (λcdv A outer s H vs Q E al h=>?_)
 .obtain⟨b,c,nl,hs,rs,ds,g,rfl,ae,ar,bQ,cN,bp,UE,pL,q⟩:=h;refine⟨_,(a9 (c8 (i:=3) DF.aC rfl (ct rfl) (Qy (PB (aa 2) bc Qx) rfl rfl (by intro z;cases z) (by decide)))
   (a9 (j6 jL rfl (hU (aa 1)) (eo (i:=4) DF.aC rfl (ct rfl))
    (bg (j6 jL rfl (hU (aa 0)) (eo (i:=5) DF.aC rfl (ct rfl))
    (bg (dH (uF (Il (gs al) (cU fe (aa 5) bc (λ_ _=>rfl)) (aa 3))) (a9 (c8 (i:=6) DF.aC rfl (ct rfl) (b7 oU (nS (gs al) (aa 3) (cU fe (aa 5) bc (λ_ _=>rfl)) (λ_ _=>rfl)) (cU fe (aa 5) bc (λ_ _=>rfl))))
   (bg (dH (hl.pt (jb (uF (GG (gs al) (cU fe (aa 5) bc (λ_ _=>rfl)) (aa 3))) (kz (dG uZ (aa 6) (nS (gs al) (aa 3) (cU fe (aa 5) bc (λ_ _=>rfl)) (λ_ _=>rfl)) (dE _))))) (bg (zM (gs al) (aa 3) (cU fe (aa 5) bc (λ_ _=>rfl)) (aa 6) rfl)) dJ))) dJ)))))
   (bg (cm (aa 3))))),?_⟩
  have fZ:∀e∈fY hs ds,1<=e.t:=λe he=>by obtain⟨d,hd,rfl⟩:=cw.mp he;exact(bQ.ok d hd).t.1
  have Iw:b2.vB (fY hs ds) (toD hs ds g) g:=b2.wm fZ g;have hlen:=bQ.len
  refineλp ay=>⟨_,rfl,aE,[(dC g,.int 0)],rfl,(by show 1<=15;decide),?_⟩
  have dm:upd (upd H p (.cF [])) p (.cF (xh [] [((dC g:bb),V.int 0)]))=upd H p (.cF [((dC g:bb),V.int 0)]):=by rw[C7];rfl
  rw[dm];have s0:aB H (upd H p (.cF [((dC g:bb),V.int 0)])):=aZ ay;have T0:Tab [((dC g:bb),V.int 0)] (λk=>if k=g then some 0 else none):=⟨λk=>by
   by_cases z:k=g
   .rw[lb (ek dC z.symm),bO z];rfl
   .rw[kx λy=>z (yw y).symm,bz z];rfl,λbN aD=>⟨g,by rw[gW.mp aD]⟩⟩
  have yF:0<(hs.map S).countP λk=>((if k=g then some (0:Int)else none).isSome):=RB.mpr ⟨g,bp,by simp⟩;have JD:b2.px (toD hs ds g) (λk=>if k=g then some 0 else none) g:=by
   refine⟨λk v h=>?_,bO rfl⟩;split at h
   .rename_i z;cases h;exact⟨0,by rw[z];exact Iw.goal fZ,nq _⟩
   .cases h
  refine⟨_,rfl,c,rfl,⟨_,s0.seq ar⟩,?_⟩;refine oL (xs:=nl) (ς b c p g H hs ds)
   ⟨_,_,none,none,none,rfl,s0,aE,T0,yF,JD,.inl (by have:=IT (p:=b2.bad (toD hs ds g) (λk=>if k=g then some 0 else none)) (l:=hs.map S);rw[cj]at this;omega),λk v e=>?_⟩ ?_ ?_ ?_
  .split at e
   .cases e;exact⟨nq _,nq _⟩
   .cases e
  .rintro i σ cE hi ⟨kvs,D,v1,v2,kT,rfl,az,_⟩;exact az.seq ar
  .rintro i v σ cE ev ⟨kvs,gM,v1,v2,kT,rfl,az,aD,T,len,U,bd,Br⟩;refine⟨_,rfl,b,rfl,⟨_,az.seq ae⟩,?_⟩;refine oL (xs:=bM rs) (IK b c p g H hs ds gM v i)
    ⟨kvs,gM,v2,kT,rfl,az,aD,T,len,U,⟨b2.nt.refl _,λe he=>by simp[fY]at he⟩,Br⟩ ?_ ?_ ?_
   .rintro j σ hk bu ⟨kvs,D,v2,kT,rfl,az,_⟩;exact az.seq ae
   .rintro j z σ hk g9 ⟨zh,D,v2,kT,rfl,az,aD,T,len,U,R,Bs⟩;unfold bM at g9;rw[d0]at g9;obtain⟨r,eB,rfl⟩:=iq.mp g9;obtain⟨d,BA,uG,hd⟩:=bQ.get eB;have LL:cV hs d∈fY hs ds:=cw.mpr ⟨d,f_ BA,rfl⟩;have afH:fY hs (ds.take (j+1))=fY hs (ds.take j)++[cV hs d]:=by unfold fY;rw[yd,BA,fk];rfl
    have vU:=b2.SS.step R (cV hs d);rw[<-afH]at vU;have vY:=b2.aiJ Iw fZ U LL;have pT:=az _ _ hd;have ga:=gu.k (k:=dC (S (hs.getD d.a []))) aD;have jB:=gu.k (k:=dC (S (hs.getD d.b []))) aD;rw[T.at_]at ga jB;have cl:(hs.map S).countP (λk=>(D k).isSome)<=hs.length:=by
     have:=IT (p:=λk=>(D k).isSome) (l:=hs.map S)
     rwa [cj]at this
    have Wt:∀u:Int,D (S (hs.getD d.b []))=some u->(∀w,D (S (hs.getD d.a []))=some w->u+d.t<w)->∀σ,σ=[some (V.ref b),some (.ref c),some (.str g),some (.ref p),some v,some (.ref r),some (.int (u+d.t))]->
      IK b c p g H hs ds gM v i (j+1) σ (upd hk p (.cF (fv zh (dC (S (hs.getD d.a [])):bb) (.int (u+d.t))))):=by
     intro u bL aX σ Kz;have eB:b2.mb D (cV hs d)=b2.put D (S (hs.getD d.a [])) (u+d.t):=by
      rcases b2.GZ D (cV hs d)with⟨_,c6|⟨u',d8,c6,j9,l⟩⟩|⟨u',c6,cT,_⟩
      .exact bk (bL.symm.trans c6) (by intro y;cases y)
      .have aF:u=u':=fG (bL.symm.trans c6);have:=aX d8 j9;have ea:d8<=u'+d.t:=l;omega
      .have aF:u=u':=fG (bL.symm.trans c6);rw[cT,<-aF];rfl
     rw[eB]at vU vY;have ao1:=Bs _ _ bL;have aA:=uG.t;refine⟨_,_,_,_,Kz,fO ay az,aE,T.put _ _,?_,vY,vU,(Bs.mono (by omega)).put (by omega) (by omega)⟩;cases av:D (S (hs.getD d.a []))with
     |none=>
      have aF:(fv zh (dC (S (hs.getD d.a [])):bb) (V.int (u+d.t))).length=zh.length+1:=by rw[zy _ (by rw[T.at_,av];rfl),eS];rfl
      have aG:(hs.map S).countP (λk=>(D k).isSome)<(hs.map S).countP (λk=>(b2.put D (S (hs.getD d.a [])) (u+d.t) k).isSome):=
       b2.Bv (b:=S (hs.getD d.a [])) (λk aD=>by unfold b2.put;split;rfl;exact aD) (by rw[av];rfl) (by unfold b2.put;rw[bO rfl];rfl) (ra uG.a)
      exact e1 (A1 aF) (by omega)
     |some d8=>
      have aF:(fv zh (dC (S (hs.getD d.a [])):bb) (V.int (u+d.t))).length=zh.length:=O6 _ (by rw[T.at_,av];rfl);have aG:(hs.map S).countP (λk=>(D k).isSome)<=(hs.map S).countP (λk=>(b2.put D (S (hs.getD d.a [])) (u+d.t) k).isSome):=
       b2.count_le (λk aD=>by unfold b2.put;split;rfl;exact aD) _
      exact e1 (A1 aF) (by omega)
    have WK:b2.mb D (cV hs d)=D->∀σ Xk,σ=[some (V.ref b),some (.ref c),some (.str g),some (.ref p),some v,some (.ref r),Xk]->IK b c p g H hs ds gM v i (j+1) σ hk:=by intro eB σ Xk Kz;rw[eB]at vU vY;exact⟨zh,D,_,_,Kz,az,aD,T,len,vY,vU,Bs.mono (by omega)⟩
    refine⟨_,rfl,r,_,_,_,rfl,rfl,cG.of pT,rfl,_,rfl,p,_,rfl,jB,_,rfl,?_⟩;cases c6:D (S (hs.getD d.b []))with
    |none=>
     refine c3 rfl (WK ?_ _ _ rfl);unfold b2.mb;rw[show D (cV hs d).b=none from c6]
    |some u=>
     rw[c6]at jB;refine cY rfl ⟨_,rfl,_,rfl,r,_,_,_,rfl,rfl,cG.of pT,rfl,p,_,rfl,jB,_,rfl,r,_,_,_,rfl,rfl,cG.of pT,rfl,_,_,rfl,rfl,?_⟩;refine⟨_,rfl,r,_,_,_,rfl,rfl,cG.of pT,rfl,_,rfl,p,_,rfl,ga,_,rfl,?_⟩;cases j9:D (S (hs.getD d.a []))with
     |none=>
      refine cY rfl (f6 ⟨_,rfl,_,rfl,_,rfl,r,_,_,_,rfl,rfl,cG.of pT,rfl,p,_,rfl,n_.k (k:=dC (S (hs.getD d.a []))) aD (en (by omega)),?_⟩);exact Wt u c6 (λd8 z=>by rw[j9]at z;cases z) _ rfl
     |some d8=>
      rw[j9]at ga;refine c3 rfl ⟨_,rfl,_,rfl,_,rfl,r,_,_,_,rfl,rfl,cG.of pT,rfl,p,_,rfl,ga,_,_,rfl,rfl,_,rfl,?_⟩;by_cases lt:u+d.t<d8
      .refine cY (b4 lt) ⟨_,rfl,_,rfl,_,rfl,r,_,_,_,rfl,rfl,cG.of pT,rfl,p,_,rfl,n_.k (k:=dC (S (hs.getD d.a []))) aD (en (by omega)),?_⟩;exact Wt u c6 (λao3 z=>by rw[j9]at z;cases z;exact lt) _ rfl
      .refine c3 (cM lt) (WK ?_ _ _ rfl);unfold b2.mb;rw[show D (cV hs d).b=some u from c6,show D (cV hs d).a=some d8 from j9];exact bz lt
   .rintro σ hk ⟨kvs,D,v2,kT,rfl,az,aD,T,len,vY,R,Bs⟩;refine⟨kvs,D,_,v2,kT,rfl,az,aD,T,len,vY,?_,Bs.mono (by rw[i4,hlen];omega)⟩;rw[i4,hlen,ye]at R;rcases b2.round Iw fZ (ns:=hs.map S) (λe he=>by obtain⟨d,hd,rfl⟩:=cw.mp he;exact ra (bQ.ok d hd).b) U vY R with lt|z
    .rcases bd with y|y
     .exact .inl (by omega)
     .omega
    .exact .inr z
  .rintro σ cE ⟨kvs,D,v1,v2,kT,rfl,az,aD,T,len,U,bd,Br⟩;refine⟨_,rfl,q p cE kvs D ay az aD T (Br.mono (by omega)) λiy=>?_⟩;have z:(hs.map S).countP (b2.bad (toD hs ds g) D)=0:=by
    rcases bd with y|y
    .omega
    .exact y
   exact YY bQ.ok fZ bp U z
end
end c2
namespace b5
open PySem PySem.Spec PyProof.Rows ao
noncomputable def uL(n:Int):Bool:=ng 0&&ng n&&ng 1&&ng (-1)&&ng (0-1)&&ng (Ao 0 n 1)
noncomputable def n'(n:Int):Obj:={cls:=.type (if uL n then "range_iterator" else "longrange_iterator"),data:=.fields #[jg (0+(Ao 0 n 1-1)*1),jg (Ao 0 n 1),jg (-1)]}
theorem aio(r:Addr)(n:Int)(t u v:Tok)(U9:¬(!(ng 0&&ng n&&ng 1&&ng (-1)&&ng (0-1)&&ng (Ao 0 n 1)))=true):
  Meets (Builtin.«range.__reversed__» ⟨[.ref r],[]⟩) (λ_ R s=>s.heap.get? r=some {cls:=.type "range",dict:=none,data:=.fields #[.int 0 t,.int n u,.int 1 v],slots:=#[]}/\R (.ok (.ret (cg s.heap.objs.size))) {s with heap:=s.heap.push (n' n)}):=
 .of_wp λprog w A R s h=>by obtain⟨ay,g,d,aH,os⟩:=s;obtain⟨au,h⟩:=h;wp_walk;(first|exact⟨_,rfl,h⟩|(rw[bz U9];wp_walk;exact⟨_,rfl,h⟩)|(simp only[U9,if_false];wp_walk;exact⟨_,rfl,h⟩)|trace_state)
section
variable{prog:cA}{w:bU}{A:dn}{E:b6}{s:aO}
theorem aiv{n:Int}{t:Tok}{Q:b6}(al:IsRange s.heap r 0 n 1 t u v)(hs:uL n=true)(h:Q (.ref s.heap.objs.size) {s with heap:=s.heap.push (n' n)}):aN (a_ prog w) A (call (.builtin "range.__reversed__") [.ref r]) Q E s:=by
 have hH:s.TypeIs (.ref r) "range":=⟨_,al,rfl⟩
 exact yH F.slot_range_reversed hH F.entry_range_reversed (F.args_range_reversed_1 _) (aio r n t u v (by unfold uL at hs;rw[hs];decide)) ⟨al,h⟩
theorem aiw{n:Int}{t:Tok}{Q₁:b6}(al:IsRange s.heap r 0 n 1 t u v)(hs:uL n=true)(h:Q₁ (.ref s.heap.objs.size) {s with heap:=s.heap.push (n' n)}):
  jv (a_ prog w) A (.call (.builtin "reversed.__new__") ⟨[.type "reversed",.ref r],[]⟩) (wants Q₁ E) s:=by
 have hH:s.TypeIs (.ref r) "range":=⟨_,al,rfl⟩
 refine Un ?_;show aN _ A.in1 (do Uk "reversed.__new__" ⟨[.type "reversed",.ref r],[]⟩;again (.builtin "reversed.__new__" ⟨[.type "reversed",.ref r],[]⟩)) _ _ s;refine aq (oh (F.newCall_reversed_1 _) (ba ⟨kO F.plain_reversed_new _,k_ F.entry_reversed_new ?_⟩));rw[ml F.plain_reversed_new _];unfold Builtin.«reversed.__new__»;refine aq (oh (newClass_reversed _) ?_)
 try dsimp only
 refine aq (oh (a:=()) (by first|rfl|kernel_rfl) ?_);refine aq (oh (a:=()) (by first|rfl|kernel_rfl) ?_)
 try dsimp only
 refine aq (aj1 hH F.slot_range_reversed.lookup ?_)
 try dsimp only
 refine aq (oh (F.slot_range_reversed.bind _) ?_)
 try dsimp only
 first
 |rw[bz (show¬((qI "range.__reversed__"==eT)=true)from ei)]
 | (show aN _ _ (if(qI "range.__reversed__"==eT)=true then _ else _) _ _ _;rw[bz (show¬((qI "range.__reversed__"==eT)=true)from ei)])
 refine aq (u_ ?_);refine aq (m:=runValue (.call (.builtin "range.__reversed__") ⟨[.ref r],[]⟩)) (show aN _ _ (call (.builtin "range.__reversed__") [.ref r]) _ _ _ from aiv al hs ?_)
 first
 |exact ba h
 |exact aq (ba (ba h))
theorem ajq:isSubtype (.type "range_iterator") (.type "reversed")=pure false:=by rw[isSubtype_type];kernel_rfl
theorem aix{n:Int}{t:Tok}{Q:b6}(al:IsRange s.heap r 0 n 1 t u v)(hs:uL n=true)(h:Q (.ref s.heap.objs.size) {s with heap:=s.heap.push (n' n)}):aN (a_ prog w) A (call (.type "reversed") [.ref r]) Q E s:=by refine callType_other (U:="range_iterator") (Q₁:=λobj dI=>obj=.ref s.heap.objs.size/\dI={s with heap:=s.heap.push (n' n)}) (by decide+kernel) F.create_reversed ⟨_,_,F.mro_reversed⟩ F.made_reversed ajq (F.typeCall_reversed_1 _) (aiw al hs ⟨rfl,rfl⟩) ?_;rintro obj dI ⟨rfl,rfl⟩;exact⟨⟨_,eY _ (by unfold n';rfl),by unfold n';rw[hs];rfl⟩,h⟩
noncomputable def AB(n:Nat):gm:=⟨λi _=>i<n,λi H x H'=>H'=H/\x=.int ((n:Int)-1-i),λi _=>n<=i⟩
end
theorem Ĺ{K:aQ}(it:Addr)(n:Nat):Turn P w K dZ (AB n) [it] it (λi h=>Eg h it (((n:Int)-1)+(i:Nat)*(-1)) ((n:Int)-(i:Nat)) (-1))where
 mem:=by simp
 obj:=λi h st b ae=>by
  have e:b=it:=by simpa using ae
  subst e;exact⟨_,st,λv z=>by
   have cZ:D3 _=xR v:=z;cases cZ⟩
 keep:=λi h h' st k=>k it (by simp) _ st
 item:=by intro X eV hw eP ar i pins s σ H E I bE st bp;subst eV hw eP;obtain⟨f0,f1,f2,cS,f4,d7⟩:=bE it (by simp);have W:=Walks.range (prog:=X.prog) (w:=X.w) (I.ok.hd ar) it ((n:Int)-1) (-1) n;refine W.item i s _ _ bp st λv h' aH a7 eJ bG=>?_;obtain⟨t,rfl⟩:=a7;have aL:Inv X pins σ H {s with heap:=h',toks:=aH}:=I.turned (λb o ae e=>bG b o (by simpa using ae) e) f0 f1 cS f4 d7;refine⟨_,rfl,xy (s:={s with heap:=h',toks:=aH}) (n:="range_iterator") eJ rfl rfl (by decide) ⟨.int ((n:Int)-1-i),H,aL,⟨t,?_⟩,⟨rfl,rfl⟩,eJ,λb ae=>(bE b ae).1⟩⟩;congr 1;omega
 done:=by intro X eV hw eP ar i pins s σ H E I bE st bp;subst eV hw eP;obtain⟨f0,f1,f2,cS,f4,d7⟩:=bE it (by simp);exact aj0 (I.ok.hd ar) st (by have:n<=i:=bp;omega) λh' dq=>⟨rfl,I.turned (t':=s.toks) (λb o ae e=>dq b o ae e) f0 f1 cS f4 d7⟩
 self:=λ_ _ _ _ _ st h=>XD st h
noncomputable def ae1(bW:fo):el:=λσ H R=>bW σ H λvs H1=>∃n:Nat,vs=[.int (n:Int)]/\n<=1000/\R (AB n) H1
theorem Qd(n:Nat):Ao 0 (n:Int) 1=(n:Int):=by rw[rangeSize_one];split<;>omega
theorem Yd{n:Nat}(h:n<=1000):uL (n:Int)=true:=by
 have:∀m:Nat,m<1001->uL (m:Int)=true:=by
  intro m hm;unfold uL;rw[Qd];have e:ng (m:Int)=true:=by unfold ng;simp only[ie,decide_eq_true_eq];omega
  rw[e];decide
 exact this n (by omega)
section
variable{X:bx}{dZ:Expr}
theorem aca{bW:fo}{p ey:Pos}(bp:ij X "reversed")(hm:X.mg "reversed"=none)(LB:ij X "range")(agR:X.mg "range"=none)(av:fl X [a] bW)(h4:dt [a] X.env=[(false,eval a X.env)]:=by rfl)(hs:dt [.Call (.Name "range" ey) [a] [] GB] X.env=[(false,eval (.Call (.Name "range" ey) [a] [] GB) X.env)]:=by rfl):mE X dZ (.Call (.Name "reversed" p) [.Call (.Name "range" ey) [a] [] GB] [] pos) (ae1 bW):=by
 intro pins s σ H R I h;refine Call_ (rb I bp hm boot_reversed (A_ ?_ hs rfl));rw[hs];show aN _ _ (spliced [(false,eval (.Call (.Name "range" ey) [a] [] GB) X.env)]) _ _ s;refine xP (Call_ (rb I LB agR boot_range (A_ (bA (av GB pins s σ H _ I h) λus s1 hz=>?_) h4 rfl)));obtain⟨vs,H1,aL,cq,n,rfl,cn,q⟩:=hz;cases cq with
 |cons r lB=>
  cases lB;obtain⟨t,rfl⟩:=r;refine call_range_1 (D2 (aix (IsRange.new ..) (Yd cn) ?_));have br:Inv X pins σ H1 {s1 with heap:=s1.heap.push {cls:=.type "range",data:=.fields #[.int 0 s1.toks,.int n t,.int 1 (s1.toks+1)]},toks:=s1.toks+1+1}:=aL.kept λb o e=>c9 _ e;generalize aod:({s1 with heap:=s1.heap.push {cls:=.type "range",data:=.fields #[.int 0 s1.toks,.int n t,.int 1 (s1.toks+1)]},toks:=s1.toks+1+1}:aO)=aW at br⊢;have st:Eg (aW.heap.push (n' n)) aW.heap.objs.size ((n:Int)-1) (n:Int) (-1):=by
   have e:(aW.heap.push (n' (n:Int))).get? aW.heap.objs.size=some (n' (n:Int)):=eY _ (by unfold n';rfl);have eB:n' (n:Int)={cls:=.type "range_iterator",data:=.fields #[jg ((n:Int)-1),jg (n:Int),jg (-1)]}:=by unfold n';rw[Yd cn,Qd,show(0:Int)+((n:Int)-1)*1=(n:Int)-1 by omega];rfl
   exact e.trans (ek some eB)
  refine XD st ?_;refine⟨aW.heap.objs.size,[aW.heap.objs.size],_,_,H1,rfl,br.kept (t':=aW.toks) λb o e=>c9 _ e,Ĺ _ n,?_,λb ae=>?_,q⟩
  .show Eg _ _ (((n:Int)-1)+((0:Nat):Int)*(-1)) ((n:Int)-((0:Nat):Int)) (-1);rw[show((n:Int)-1)+((0:Nat):Int)*(-1)=(n:Int)-1 by omega,show(n:Int)-((0:Nat):Int)=(n:Int) by omega];exact st
  .have e:b=aW.heap.objs.size:=by simpa using ae
   subst e;exact br.pN (cL _) (br.bj.fresh (cL _))
theorem aaD{n:Nat}{g:kr}{aA:e_}{D:Ends}(Pv:Nat->ao.St->af->Prop)(a8:Pv 0 σ H)(hs:∀i σ H,i<n->Pv i σ H->g (.int ((n:Int)-1-i)) σ H λgA ah=>aA {D with cp:=Pv (i+1),ec:=Pv (i+1),ho:=D.cp} gA ah)(hd:∀σ H,Pv n σ H->D.cp σ H):
  ∃W:Nat->Nat->ao.St->af->Prop,(∃m,W 0 m σ H)/\∀i m σ H,W i m σ H->
   ((AB n).stop i H/\D.cp σ H)\/((AB n).go i H/\∃N:ao.St->af->Prop,(∀a' H',N a' H'->∃c4,c4<m/\W (i+1) c4 a' H')/\∀x H',(AB n).oi i H x H'->g x σ H' λgA ah=>aA {D with cp:=N,ec:=N,ho:=D.cp} gA ah):=by
 refine⟨λi m σ H=>m=n-i/\i<=n/\Pv i σ H,⟨n,by simp,ej _,a8⟩,?_⟩;rintro i m σ H ⟨rfl,hi,p⟩;by_cases dw:i<n
 .refine .inr ⟨dw,Pv (i+1),λa' H' gJ=>⟨n-(i+1),by omega,rfl,dw,gJ⟩,λx H' y=>?_⟩;obtain⟨e,y⟩:=y;subst e y;exact hs i σ _ dw p
 .have e:i=n:=by omega
  subst e;exact .inl ⟨cL _,hd σ H p⟩
end
section
variable{prog:cA}{w:bU}{K:Type}[DecidableEq K]{knd:HeapKind prog w K}{A:dn}{E:b6}{s:aO}
theorem ξ{xs:List (K×Addr×Value)}{Q:b6}(hm:s.heap.DictOfH knd d xs)(hz:xs.length<=sizeLine)(h:∀h',h'.DictOfH knd d []->iK d s.heap h'->Q .none {s with heap:=h'}):
  aN (a_ prog w) A (call (.builtin "dict.clear") [.ref d]) Q E s:=by
 obtain⟨o,es,ep,aI,ar,hd,he,FN,aX⟩:=id hm;have T0:s.TypeIs (.ref d) "dict":=⟨o,aI,ar.1⟩
 have hsz:es.size=xs.length:=WM he;refine m_ F.slot_dict_clear T0 F.entry_dict_clear ?_ (F.args_dict_clear_1 _);unfold Builtin.«dict.clear» YE;refine aq (aq (O0 T0 ?_));change aN _ _ (pure d) _ _ s;refine ba ?_;refine aq (u7 aI hd ?_);refine aq ?_;unfold bearsInstanceDictMark;refine aq (wpAny_load aI (ba ?_));refine aq (aj2 (hz:=by omega) aI hd ?_);have FV:(s.heap.update d (Obj.mapDictKeys λ_=>#[])).DictOfH knd d []:=
  ⟨_,_,ep+1,nj _ aI (Ĭ (Je hd _)),ar.mapDictKeys _,Je hd _,rfl,λ_ he=>by simp at he,oq⟩
 split
 .exact aq (jI (ba ⟨.none,rfl,h _ FV (tk ..)⟩))
 .exact aq (ba (ba ⟨.none,rfl,h _ FV (tk ..)⟩))
end
section
variable{X:bx}
inductive aaE(x:ao.V)(vs:aR)(H:af)(Q:a4):Prop where
 |mk (a:Addr) (kvs:List (List bb×ao.V)) (aT:x=.ref a) (aP:vs=[]) (bh:H a=some (.bV kvs)) (cf:Q .bJ (upd H a (.bV [])))
theorem π:I_ X "dict.clear" aaE:=by
 intro pins s σ H x vs v us Q I bf cc h;obtain⟨a,kvs,rfl,rfl,aS,q⟩:=h;cases bf;have ahi:=cc.zero;subst ahi;obtain⟨o_,hs,xs,rel,dd⟩:=IP I.bj aS;have Mf:xs.length<=sizeLine:=by rw[<-tv rel];exact o_
 refine ξ dd Mf λh' oD si=>?_;obtain⟨ob,es,mS,ai,aj,bC,c5,_,fq⟩:=oD;exact⟨.bJ,_,De (t':=s.toks) (ob:=.bV []) I (by rw[aS];exact lJ) si ⟨ob,ai⟩ ⟨ej _,hs,[],.nil,ob,es,mS,ai,aj,bC,c5,fq⟩,rfl,q⟩
end
end b5
namespace c2
open PySem ao b5 cQ
noncomputable def Fk(hs:bt)(ds:dc)(h g:Str)(k:Nat):Prop:=∃d v u,ds[k]?=some d/\fK hs ds h g=some v/\h≠g/\S (hs.getD d.a [])=h/\fK hs ds (S (hs.getD d.b [])) g=some u/\d.t+u=v
section
variable{hs:bt}{ds:dc}{h g:Str}{k:Nat}
theorem acb(f:Fk hs ds h g k):(k:Int)∈fit hs ds h g:=by
 obtain⟨d,v,u,cV,a7,_,aS,lS,e⟩:=f;refine ph.mpr ⟨OR cV aS,?_⟩;unfold s4 v8 Dr;have dm:ds.getD k fp=d:=by rw[eb,cV];rfl
 rw[qw,dm];rw[show fK hs ds (S (hs.getD d.b [])) g=some u from lS,show fK hs ds h g=some v from a7];exact b4 (by rw[e])
theorem Sr{v i:Int}(a7:fK hs ds h g=some v)(ne:h≠g)(hi:i∈fit hs ds h g):∃k:Nat,i=(k:Int)/\Fk hs ds h g k:=by
 obtain⟨ai,aj⟩:=ph.mp hi;obtain⟨j,bu⟩:=rM ai;obtain⟨k,d,aF,aG,cR⟩:=Hn (v:=.int i) (by rw[d0,bu];rfl);have oF:=V.int.inj aF;subst oF;refine⟨k,rfl,d,v,?_⟩;have dm:ds.getD k fp=d:=by rw[eb,aG];rfl
 unfold s4 v8 Dr at aj;rw[qw,dm]at aj;cases lS:fK hs ds (S (hs.getD d.b [])) g with
 |none=>
  rw[show fK hs ds (S (hs.getD d.b [])) g=none from lS]at aj;cases aj
 |some u=>
  rw[show fK hs ds (S (hs.getD d.b [])) g=some u from lS,show fK hs ds h g=some v from a7]at aj;exact⟨u,aG,a7,ne,cR,rfl,fG (rl aj)⟩
theorem aaF(f:Fk hs ds h g k)(zu:∀j,Fk hs ds h g j->k<=j):best hs ds h g=(k:Int):=by have m:=acb f;obtain⟨d,v,u,cV,a7,ne,_⟩:=id f;obtain⟨gh,gv⟩:=R5 (ò m);have dr:=gv _ m;obtain⟨j,g8,hG⟩:=Sr a7 ne gh;have eu:=zu j hG;unfold best;rw[g8]at dr⊢;omega
theorem adp(fZ:∀e∈fY hs ds,1<=e.t)(no:∀k,¬Fk hs ds h g k):¬(h≠g/\(fK hs ds h g).isSome=true):=λ⟨ne,is⟩=>by obtain⟨v,a7⟩:=pq.mp is;obtain⟨i,hi⟩:=List.exists_mem_of_ne_nil _ (Iu fZ a7 ne);obtain⟨k,_,f⟩:=Sr a7 ne hi;exact no k f
noncomputable def Seen(hs:bt)(ds:dc)(h g:Str)(m:Nat)(o:ju):Prop:=
 (∃k,m<=k/\Fk hs ds h g k/\(∀j,m<=j->Fk hs ds h g j->k<=j)/\o=some (.int (k:Int)))\/((∀j,m<=j->¬Fk hs ds h g j)/\o=none)
theorem Seen.yes{m:Nat}(f:Fk hs ds h g m):Seen hs ds h g m (some (.int (m:Int))):=.inl ⟨m,cL _,f,λ_ h _=>h,rfl⟩
theorem Seen.no{m:Nat}{o:ju}(s:Seen hs ds h g (m+1) o)(f:¬Fk hs ds h g m):Seen hs ds h g m o:=by
 rcases s with⟨k,ai,aj,bC,c5⟩|⟨ai,aj⟩
 .refine .inl ⟨k,by omega,aj,λj bu hG=>?_,c5⟩;by_cases e:j=m
  .rw[e]at hG;exact bk hG f
  .exact bC j (by omega) hG
 .refine .inr ⟨λj bu hG=>?_,aj⟩;by_cases e:j=m
  .rw[e]at hG;exact f hG
  .exact ai j (by omega) hG
theorem Seen.last(au:ds.length<=k):Seen hs ds h g k none:=.inr ⟨λj bu⟨d,_,_,e,_⟩=>by have:=(gn.mp e).1;omega,rfl⟩
theorem Seen.all(fZ:∀e∈fY hs ds,1<=e.t){o:ju}(s:Seen hs ds h g 0 o):(h≠g/\(fK hs ds h g).isSome=true/\o=some (.int (best hs ds h g)))\/(¬(h≠g/\(fK hs ds h g).isSome=true)/\o=none):=by
 rcases s with⟨k,_,f,zu,rfl⟩|⟨no,rfl⟩
 .obtain⟨d,v,u,cV,a7,ne,_⟩:=id f;exact .inl ⟨ne,by rw[a7];rfl,by rw[aaF f λj hG=>zu j (ej _) hG]⟩
 .exact .inr ⟨adp fZ λj=>no j (ej _),rfl⟩
end
structure T6(hs:bt)(ds:dc)(kvs:hA)(M:Str->Str->Prop):Prop where
 yes:∀h g,M h g->b_ kvs (dy h g)=some (.int (best hs ds h g))
 no:∀h g,¬M h g->b_ kvs (dy h g)=none
noncomputable def Eu(hs:bt)(ds:dc)(i:Nat)(h g:Str):Prop:=h∈hs.map S/\g∈(hs.map S).take i/\h≠g/\(fK hs ds h g).isSome=true
noncomputable def I9(hs:bt)(ds:dc)(i:Nat)(e8:Str)(j:Nat)(h g:Str):Prop:=Eu hs ds i h g\/(g=e8/\h∈(hs.map S).take j/\h≠g/\(fK hs ds h g).isSome=true)
inductive ω(an bH ad:Addr)(H:af)(hs:bt)(ds:dc)(i:Nat)(σ:ao.St)(cE:af):Prop where
 |mk (aA:List Row) (kT v4 rv v6 qg:ju) (aT:σ=[some (.ref an),some (.ref bH),some (.ref ad),kT,v4,rv,v6,qg]) (aP:∀b o,b≠ad->H b=some o->cE b=some o) (bh:cE ad=some (.bV (b8 aA))) (cf:gG hs ds aA) (cP:T6 hs ds (b8 aA) (Eu hs ds i))
inductive Α(an bH ad p:Addr)(H:af)(hs:bt)(ds:dc)(kvs:List (bb×ao.V))(i:Nat)(e8:Str)(j:Nat)(σ:ao.St)(cE:af):Prop where
 |mk (aA:List Row) (rv v6 qg:ju) (aT:σ=[some (.ref an),some (.ref bH),some (.ref ad),some (.str e8),some (.ref p),rv,v6,qg]) (aP:∀b o,b≠ad->H b=some o->cE b=some o) (aku:cE p=some (.cF kvs)) (bh:cE ad=some (.bV (b8 aA))) (cf:gG hs ds aA) (cP:T6 hs ds (b8 aA) (I9 hs ds i e8 j))
inductive Rg(an bH ad p:Addr)(H:af)(hs:bt)(ds:dc)(kvs:List (bb×ao.V))(ajg:List Row)(e8 a8:Str)(c:Nat)(σ:ao.St)(cE:af):Prop where
 |mk (aA:List Row) (v6 qg:ju) (aT:σ=[some (.ref an),some (.ref bH),some (.ref ad),some (.str e8),some (.ref p),some (.str a8),v6,qg]) (aP:∀b o,b≠ad->H b=some o->cE b=some o) (aku:cE p=some (.cF kvs)) (bh:cE ad=some (.bV (b8 aA))) (cf:gG hs ds aA) (cP:∀h g,¬(h=a8/\g=e8)->b_ (b8 aA) (dy h g)=b_ (b8 ajg) (dy h g)) (dM:Seen hs ds a8 e8 (ds.length-c) (b_ (b8 aA) (dy a8 e8)))
theorem OS{L:ck}(aC:L.Nodup){i:Nat}{x:Str}(e:L[i]?=some x):x∉L.take i:=λm=>by obtain⟨j,bu⟩:=rM m;have au:=(gn.mp bu).1;rw[ya]at au;rw[ì (by omega)]at bu;obtain⟨dr,aF⟩:=gn.mp e;obtain⟨eu,aG⟩:=gn.mp bu;exact(AM.mp aC) j i eu dr (by omega) (aG.trans aF.symm)
section
variable{P:cA}{w:bU}{K:aQ}{mg:b9}{base:Heap}
noncomputable abbrev E7:Stmt:=top 131
noncomputable abbrev E8:List Str:=["_law_names","_law_lines","_law_told"]
noncomputable abbrev ae2:List Str:=["_law_names","_law_lines","_law_told","_law_goal","_law_far","_law_house_here","_law_n","_law_line"]
theorem Aj:de ae2 E8 (cy E7):={}
inductive Tz(vs:aR)(H:af)(Q:a4)(E:bP):Prop where
 |mk (an bH ad:Addr) (hs:bt) (ls:c7) (ds:dc) (aA:List Row) (aT:vs=[.ref an,.ref bH,.ref ad]) (aP:H an=some (.lst (bY hs))) (bh:H bH=some (.lst (bM ls))) (cf:gE H hs ls ds) (cP:H ad=some (.bV (b8 aA))) (dM:Good hs) (gk:ds.length<=40) (ic:hs.length<=7)
   (qo:∀v H' gz,(∀b o,b≠ad->H b=some o->H' b=some o)->H' ad=some (.bV (b8 gz))->nL hs ds (b8 gz)->gG hs ds gz->m3 H' (bK "shortest") [.aM true,.str "ok"] v->Q v H')
seal fl bl fM gc
theorem acB{f:Addr}(F:cz K "_law_shortest" "_law_shortest" E7 f fd)(B:eR mg)(CP:mg "reversed"=none)(nE:bX K mg "_law_fars" As vK f1 dN)(Nw:aK P w K mg base bq 1 f1 dN vK (HY K)):aK P w K mg base bq 2 f fd E8 Tz:=by
 refine F.ok Aj (λcdv A outer s H vs Q E al h=>?_)
 .refine⟨_,(a9 (gZ (abi ED PySem.F.slot_dict_clear PySem.F.type_dict_clear π (aa 2)))
   (a9 (j6 jL rfl (hU (aa 0)) (eo (i:=3) Aj.aC rfl (ct rfl))
    (a9 (c8 (i:=4) Aj.aC rfl (ct rfl) (dB Nw al.mono (by rfl) nE.at_ nE.fn.b3 nE.bd .nil cJ (ag (aa 1) (ag (aa 0) (ag (aa 3) aw)))))
   (bg (j6 jL rfl (hU (aa 0)) (eo (i:=5) Aj.aC rfl (ct rfl))
    (bg (j6 jL rfl (aca rfl CP rfl B.range (ag (df iQ (by rfl) B.len g7 (ag (aa 1) aw)) aw)) (eo (i:=6) Aj.aC rfl (ct rfl))
    (a9 (c8 (i:=7) Aj.aC rfl (ct rfl) (cU gr (aa 1) (aa 6) (λ_ _=>rfl)))
   (bg (dH (hl.pt (HO (uF (Il (gs al) (aa 5) (aa 4))) (HO (dG rm (aa 5) (aa 3) (dE _)) (HO (dG jd (cU fe (aa 7) bc (λ_ _=>rfl)) (aa 5) (dE _)) (Qp (uF (Il (gs al) (cU fe (aa 7) bc (λ_ _=>rfl)) (aa 4)))))))) (bg (dH (dG jd (b7 oU (cU fe (aa 7) bc (λ_ _=>rfl)) (nS (gs al) (aa 4) (cU fe (aa 7) bc (λ_ _=>rfl)) (λ_ _=>rfl))) (nS (gs al) (aa 4) (aa 5) (λ_ _=>rfl)) (dE _)) (bg (zM (gs al) (aa 2) (hE (ag (aa 5) (ag (aa 3) aw))) (aa 6) rfl)) dJ)) dJ)))))))))
   (bg (cm (hE (ag cv (ag (d5 (ag iz (ag cv aw))) aw))))))),?_⟩
  try dsimp only[gR,gQ]
  refine cut λcu bT=>?_;obtain⟨an,bH,ad,hs,ls,ds,aA,rfl,av,au,bQ,hd,G,pL,gg,q⟩:=h;have ajm:Hv K "dict" (.ref ad) H:=.inr (.inr (.inl ⟨rfl,.inr ⟨_,hd⟩⟩));refine⟨_,rfl,ajm,ad,_,rfl,rfl,hd,?_⟩;have nan:an≠ad:=ao.f9 av hd (by intro z;cases z);have oY:bH≠ad:=ao.f9 au hd (by intro z;cases z);have My:=q4 hs;have MR:(hs.map S).Nodup:=vI.mpr (G.aC.imp λne e=>ne (m2 e));have fZ:∀e∈fY hs ds,1<=e.t:=λe he=>by obtain⟨d,hd,rfl⟩:=cw.mp he;exact(bQ.ok d hd).t.1
  have g5:∀{cE:af},(∀b o,b≠ad->H b=some o->cE b=some o)->gE cE hs ls ds:=λ{cE}k=>⟨fH.oW bQ.fi λr d e=>k _ _ (ao.f9 e hd (by intro z;cases z)) e,bQ.ok⟩
  refine f7 cu bT λcu bT=>?_;show ht _ _ _ _ (upd H ad (.bV []));refine⟨_,rfl,an,rfl,⟨_,aJ.of (xs:=bY hs) (by rw[aV nan];exact av)⟩,?_⟩;refine oL (K:=K) (a:=an) (xs:=bY hs) (ω an bH ad H hs ds) ⟨[],_,_,_,_,_,rfl,λb o nb e=>by rw[aV nb];exact e,aE,⟨oq,by decide,λ_ z=>bk z di⟩,⟨λh g m=>bk m.2.1 di,λ_ _ _=>rfl⟩⟩ (λi σ cE _⟨_,_,_,_,_,_,_,k,_,_,_⟩=>aJ.of (k _ _ nan av)) ?_ ?_
  .rintro i v σ cE ev ⟨Hr,kT,v4,rv,v6,qg,rfl,k1,t1,oz,s9⟩;rw[q3,d0]at ev;obtain⟨e8,tZ,rfl⟩:=iq.mp ev;have UO:=f_ tZ;refine⟨_,rfl,_,rfl,_,rfl,bH,an,bY hs,hs,ls,ds,e8,rfl,aJ.of (k1 _ _ oY au),aJ.of (k1 _ _ nan av),g5 k1,by omega,UO,by omega,pL,λp H1 kvs D np s1 ay Jz _ pM=>?_⟩;have pM:=pM My;subst pM;have pad:p≠ad:=(cI t1 np).symm;refine⟨_,rfl,an,rfl,⟨_,aJ.of (xs:=bY hs) (s1 _ _ (k1 _ _ nan av))⟩,?_⟩;refine oL (K:=K) (a:=an) (xs:=bY hs) (Α an bH ad p H hs ds kvs i e8) ⟨Hr,_,_,_,rfl,λb o nb e=>s1 _ _ (k1 b o nb e),ay,s1 _ _ t1,oz,?_⟩ (λj σ hk _⟨_,_,_,_,_,k,_,_,_,_⟩=>aJ.of (k _ _ nan av)) ?_ ?_
   .exact⟨λh g m=>s9.yes h g (m.elim id λz=>bk z.2.1 di),λh g m=>s9.no h g λz=>m (.inl z)⟩
   .rintro j v σ hk UA ⟨Dq,rv,v6,qg,rfl,k2,ey,fh,oA,s_⟩;rw[q3,d0]at UA;obtain⟨a8,i6,rfl⟩:=iq.mp UA;have af5:=f_ i6;have sD:ls.length=ds.length:=bQ.len;refine⟨_,rfl,bH,_,rfl,.inl (aJ.of (k2 _ _ oY au)),ls.length,by rw[i4],by omega,?_⟩;rw[sD];refine aaD (n:=ds.length) (Rg an bH ad p H hs ds kvs Dq e8 a8) ⟨Dq,_,_,rfl,k2,ey,fh,oA,λ_ _ _=>rfl,?_⟩ ?_ ?_
    .rw[s_.no a8 e8 λm=>?_]
     .exact Seen.last (cL _)
     .rcases m with⟨_,m,_⟩|⟨_,m,_⟩
      .exact OS MR tZ m
      .exact OS MR i6 m
    .rintro c σ qu ar ⟨Hs,v6,qg,rfl,k3,gx,t3,Bj,A7,yu⟩;obtain⟨k0,e6⟩:∃k0:Nat,k0=ds.length-1-c:=⟨_,rfl⟩
     have oF:(ds.length:Int)-1-c=(k0:Int):=by omega
     rw[show ds.length-c=k0+1 by omega]at yu;rw[oF];obtain⟨r,eB⟩:∃r,ls[k0]?=some r:=⟨_,dW (by omega)⟩
     obtain⟨d,cV,uG,nQ⟩:=(g5 k3).get eB;have Kd:ao.hD (bM ls) (k0:Int)=some (.ref r):=mV (by unfold bM;rw[d0,eB];rfl);have Fy:=gu.k (k:=dC a8) gx;have jB:=gu.k (k:=dC (S (hs.getD d.b []))) gx;rw[Jz.at_]at Fy jB;have same:¬Fk hs ds a8 e8 k0->Rg an bH ad p H hs ds kvs Dq e8 a8 (c+1) [some (.ref an),some (.ref bH),some (.ref ad),some (.str e8),some (.ref p),some (.str a8),some (.int k0),some (.ref r)] qu:=λgw=>
      ⟨Hs,_,_,rfl,k3,gx,t3,Bj,A7,by rw[show ds.length-(c+1)=k0 by omega];exact yu.no gw⟩
     refine⟨_,rfl,_,rfl,bH,_,_,_,rfl,rfl,aJ.of (k3 _ _ oY au),Kd,_,rfl,_,rfl,p,_,rfl,Fy,_,rfl,?_⟩;cases a7:toD hs ds e8 a8 with
     |none=>exact c3 rfl (same λ⟨_,v,_,_,e,_⟩=>nomatch (show toD hs ds e8 a8=some v from e).symm.trans a7)
     |some v=>
      rw[a7]at Fy;refine cY rfl ⟨_,rfl,_,rfl,rfl,_,rfl,?_⟩;by_cases aT:a8=e8
      .exact c3 (by rw[aT,b4 rfl];rfl) (same λ⟨_,_,_,_,_,ne,_⟩=>ne aT)
      refine cY (by rw[cM λy=>aT (V.str.inj y)];rfl) ⟨_,rfl,r,_,_,_,rfl,rfl,cG.of nQ,rfl,_,rfl,rfl,_,rfl,?_⟩;by_cases aP:S (hs.getD d.a [])=a8
      case neg=>exact c3 (cM λy=>aP (V.str.inj y)) (same λ⟨d',_,_,e,_,_,aG,_⟩=>aP (by rw[cV]at e;cases e;exact aG))
      refine cY (b4 (by rw[aP])) ⟨_,rfl,r,_,_,_,rfl,rfl,cG.of nQ,rfl,_,rfl,p,_,rfl,jB,_,rfl,?_⟩;cases bL:toD hs ds e8 (S (hs.getD d.b []))with
      |none=>exact c3 rfl (same λ⟨d',_,u,e,_,_,_,aG,_⟩=>by rw[cV]at e;cases e;exact nomatch (show toD hs ds e8 (S (hs.getD d.b []))=some u from aG).symm.trans bL)
      |some u=>
       rw[bL]at jB;refine cY rfl ⟨_,rfl,r,_,_,_,rfl,rfl,cG.of nQ,rfl,_,rfl,_,rfl,r,_,_,_,rfl,rfl,cG.of nQ,rfl,p,_,rfl,jB,_,_,rfl,rfl,_,rfl,_,rfl,p,_,rfl,Fy,rfl,_,rfl,?_⟩;by_cases bh:d.t+u=v
       case neg=>exact c3 (cM λy=>bh (V.int.inj y)) (same λ⟨d',me,u',e,aF,_,_,aG,cR⟩=>by
        rw[cV]at e;cases e;have a1:v=me:=fG (a7.symm.trans aF);have a2:u=u':=fG (bL.symm.trans aG);exact bh (by rw[a1,a2];exact cR))
       have lV:Fk hs ds a8 e8 k0:=⟨d,v,u,cV,a7,aT,aP,bL,bh⟩
       refine cY (b4 (by rw[bh])) ⟨_,rfl,_,rfl,_,rfl,_,rfl,(by show 2<=sizeLine;decide),λt eI=>?_⟩;have cK:=aZ (o:=.tup [V.str a8,V.str e8]) eI;refine⟨ad,_,rfl,n_.t (k:=dy a8 e8) (cK _ _ t3) aE (en (by unfold b8;rw[cj];have:=Bj.cN;omega)),?_⟩;rw[G8];refine⟨oc Hs a8 e8 k0,_,_,rfl,λb o nb e=>by rw[aV nb];exact cK _ _ (k3 b o nb e),by rw[aV pad];exact cK _ _ gx,aE,Bj.put gg ⟨af5,UO,aT,k0,d,rfl,cV,aP⟩,λh g no=>?_,?_⟩
       .rw[HD,bz λy=>no (DC y)];exact A7 h g no
       .rw[HD,bO rfl,show ds.length-(c+1)=k0 by omega];exact Seen.yes lV
    .rintro σ qu ⟨Hs,v6,qg,rfl,k3,gx,t3,Bj,A7,yu⟩;refine⟨Hs,_,_,_,rfl,k3,gx,t3,Bj,?_⟩;rw[ě]at yu;have g8:=take_snoc i6;refine⟨λh g m=>?_,λh g m=>?_⟩
     .by_cases z:h=a8/\g=e8
      .obtain⟨rfl,rfl⟩:=z;rcases yu.all fZ with⟨_,_,e⟩|⟨no,_⟩
       .exact e
       .rcases m with⟨_,m,_⟩|⟨_,_,m⟩
        .exact bk m (OS MR tZ)
        .exact bk m no
      .rw[A7 h g z];refine s_.yes h g ?_;rcases m with m|⟨e,m,gv⟩
       .exact .inl m
       .rw[g8]at m;rcases ip.mp m with m|m
        .exact .inr ⟨e,m,gv⟩
        .exact bk ⟨gW.mp m,e⟩ z
     .by_cases z:h=a8/\g=e8
      .obtain⟨rfl,rfl⟩:=z;rcases yu.all fZ with⟨gh,gv,_⟩|⟨_,e⟩
       .exact bk (.inr ⟨rfl,by rw[g8];exact my _ (.head _),gh,gv⟩) m
       .exact e
      .rw[A7 h g z];refine s_.no h g λc4=>m ?_;rcases c4 with c4|⟨e,c4,gv⟩
       .exact .inl c4
       .exact .inr ⟨e,by rw[g8];exact yb _ c4,gv⟩
   .rintro σ hk ⟨Dq,rv,v6,qg,rfl,k2,ey,fh,oA,s_⟩;refine⟨Dq,_,_,_,_,_,rfl,k2,fh,oA,?_⟩;have g8:=take_snoc tZ;have lR:(hs.map S).take (bY hs).length=hs.map S:=RO (by rw[cj,My];exact cL _);have VT:∀h g,I9 hs ds i e8 (bY hs).length h g↔Eu hs ds (i+1) h g:=λh g=>by
     unfold I9 Eu;rw[lR,g8,ip,gW];constructor
     .rintro(⟨a,b,c⟩|⟨a,b,c⟩)
      .exact⟨a,.inl b,c⟩
      .exact⟨b,.inr a,c⟩
     .rintro⟨a,b|b,c⟩
      .exact .inl ⟨a,b,c⟩
      .exact .inr ⟨b,a,c⟩
    exact⟨λh g m=>s_.yes h g ((VT h g).mpr m),λh g m=>s_.no h g λz=>m ((VT h g).mp z)⟩
  .rintro σ cE ⟨Hr,kT,v4,rv,v6,qg,rfl,k1,t1,oz,s9⟩;subst bT;have lR:(hs.map S).take (bY hs).length=hs.map S:=RO (by rw[cj,My];exact cL _);have ahv:∀{h g:Str},h≠g->(fK hs ds h g).isSome=true->g∈hs.map S:=λ{h g}ne is=>by
    obtain⟨v,a7⟩:=pq.mp is;cases(b2.wm fZ g).path h v a7 with
    |nil=>exact bk rfl ne
    |snoc e _ he=>
     obtain⟨d,hd,rfl⟩:=cw.mp he;exact ra (bQ.ok d hd).b
   have ST:nL hs ds (b8 Hr):=by refine⟨⟨λh g m=>s9.yes h g ⟨m.1,by rw[lR];exact ahv m.2.1 m.2.2,m.2.1,m.2.2⟩,λh g m=>s9.no h g λz=>m ⟨z.1,z.2.2.1,z.2.2.2⟩,λk aD=>?_,Ď oz.aC⟩⟩;obtain⟨kP,bo,rfl⟩:=cw.mp aD;unfold b8 at bo;obtain⟨r,al,rfl⟩:=cw.mp bo;exact⟨r.1,r.2.1,rfl,(oz.ok r al).a,(oz.ok r al).b⟩
   refine⟨(by show 2<=sizeLine;decide),λl nl=>⟨(by show 2<=sizeLine;decide),λu gS=>q _ _ Hr (λb o nb e=>aZ gS _ _ (aZ nl _ _ (k1 b o nb e))) (aZ gS _ _ (aZ nl _ _ t1)) ST oz ⟨u,l,aE,aZ gS _ _ aE⟩⟩⟩
unseal fl bl fM gc
noncomputable def uI:List Nat:=[104,111,117,115,101]
noncomputable def DG:List Nat:=[115,104,111,114,116,101,115,116]
theorem Ye(m:cx):bK "house "++S m=gH [uI,m]:=by
 have aF:bK "house "=S (uI++[32]):=by decide+kernel
 rw[aF];unfold gH;simp only[sM,eO,qx]
theorem ρ:bK "shortest"=gH [DG]:=by decide+kernel
set_option genInjectivity false in
structure Ez where
 (an bH eM ad:Addr)
 (ls cd:c7)
structure l'(H:af)(O:Ez)(s:fL):Prop where
 nm:H O.an=some (.lst (bY s.hs))
 ln:H O.bH=some (.lst (bM O.ls))
 eQ:gE H s.hs O.ls s.ds
 lt:H O.eM=some (.lst (bM O.cd))
 h7:ha H O.cd (s.bS.map VQ)
 c1:H O.ad=some (.bV (b8 s.aA))
 cn:O.an≠O.bH
 cC:O.an≠O.eM
 fB:O.bH≠O.eM
inductive Op where
 |keep
 |way (a b:Str) (o:Option Nat)
 |short
noncomputable def Op.to(hs:bt)(ds:dc):Op->List Row->List Row->Prop
 |.keep,aA,gz=>∀h g,b_ (b8 gz) (dy h g)=b_ (b8 aA) (dy h g)
 |.way a b o,aA,gz=>∀h g,b_ (b8 gz) (dy h g)=b_ (b8 (s5 aA a b o)) (dy h g)
 |.short,_,gz=>nL hs ds (b8 gz)
inductive jt(hs:bt)(ds:dc)(bS:vX):List cx->List ao.V->List cx->List cQ.fm->List Bn->Op->Prop
 |LU (n m:cx) (nm:fF n) (h:m∈kN n\/(m=n/\n∈hs)):jt hs ds bS [uI,m] [.str "net"] hs ds bS .keep
 |B9 (n:cx) (nm:fF n) (h:n∉hs):jt hs ds bS [uI,n] [.aM true,.str "ok"] (hs++[n]) ds bS .keep
 |NL (a b:cx) (t m:Nat) (na:fF a) (nb:fF b) (cO:t<11) (hm:m<10 ^ 10) (h:¬uY hs a b t m\/ds.length=40):jt hs ds bS [p8,a,b,cB t,cB m] [.str "net"] hs ds bS .keep
 |G2 (a b:cx) (t m:Nat) (d:cQ.fm) (na:fF a) (nb:fF b) (h:uY hs a b t m) (l:ds.length<40) (ok:d.Ok hs.length) (e:lA hs d=nd (S a) (S b) t m):jt hs ds bS [p8,a,b,cB t,cB m] [.aM true,.str (S (cB ds.length))] hs (ds++[d]) bS .keep
 |MA (a b:cx) (t:Nat) (na:fF a) (nb:fF b) (cO:t<10 ^ 10) (h:¬vy hs bS a b t):jt hs ds bS [qk,a,b,cB t] [.str "letter"] hs ds bS .keep
 |F' (a b:cx) (t:Nat) (na:fF a) (nb:fF b) (h:vy hs bS a b t):jt hs ds bS [qk,a,b,cB t] [.aM true,.str (S (cB bS.length))] hs ds (bS++[(S a,(t:Int),S b)]) .keep
 |OU (a b:cx) (o:Option Nat) (na:fF a) (nb:fF b) (aI:∀i,o=some i->i<=40) (h:¬(a∈hs/\b∈hs/\a≠b)):jt hs ds bS [m7,a,b,lu o] [.str "house"] hs ds bS .keep
 |OV (a b:cx) (o:Option Nat) (na:fF a) (nb:fF b) (aI:∀i,o=some i->i<=40) (av:a∈hs) (ae:b∈hs) (ne:a≠b) (h:¬vz hs ds a o):jt hs ds bS [m7,a,b,lu o] [.str "road"] hs ds bS .keep
 |OW (a b:cx) (o:Option Nat) (na:fF a) (nb:fF b) (aI:∀i,o=some i->i<=40) (av:a∈hs) (ae:b∈hs) (ne:a≠b) (h:vz hs ds a o):jt hs ds bS [m7,a,b,lu o] [.aM true,.str "ok"] hs ds bS (.way (S a) (S b) o)
 |kf:jt hs ds bS [DG] [.aM true,.str "ok"] hs ds bS .short
theorem Oc{κ:Type}[DecidableEq κ](k iX:κ):∀kvs:List (κ×ao.V),b_ (s6 kvs k) iX=if iX=k then none else b_ kvs iX
 |[]=>by split<;>rfl
 |p::r=>by
  have a5:=Oc k iX r;unfold s6 at a5⊢;by_cases h:p.1=k
  .rw[List.filter_cons_of_neg (by simp[h]),a5];split
   .rfl
   .rename_i n;rw[kx (λz=>n (z.symm.trans h))]
  .rw[List.filter_cons_of_pos (by simp[h])];by_cases e:p.1=iX
   .rw[lb e,bz (λz=>h (e.trans z)),lb e]
   .rw[kx e,a5,kx e]
theorem Op.alike{p:Op}{t1 fh z5 z6:List Row}(a:∀h g,b_ (b8 t1) (dy h g)=b_ (b8 fh) (dy h g))(ai:p.to hs ds t1 z5)(aj:p.to hs ds fh z6)(h g:Str):b_ (b8 z5) (dy h g)=b_ (b8 z6) (dy h g):=by
 cases p with
 |keep=>rw[ai h g,aj h g,a h g]
 |short=>exact nL.alike ai aj h g
 |way x y o=>
  rw[ai h g,aj h g];cases o with
  |none=>
   show b_ (b8 (vw t1 x y)) _=b_ (b8 (vw fh x y)) _;rw[<-G9,<-G9,Oc,Oc,a h g]
  |some i=>
   show b_ (b8 (oc t1 x y i)) _=b_ (b8 (oc fh x y i)) _;rw[HD,HD,a h g]
theorem l'.same{O:Ez}{s:fL}(W:l' H O s)(az:aB H H'):l' H' O s:=⟨az _ _ W.nm,az _ _ W.ln,W.eQ.same az,az _ _ W.lt,W.h7.same az,az _ _ W.c1,W.cn,W.cC,W.fB⟩
theorem rd{H H':af}{ds:List aR}(h:ha H rs ds)(ax:H x=some u)(gS:∀l,u≠.tup l)(k:∀b o,b≠x->H b=some o->H' b=some o):ha H' rs ds:=
 fH.oW h λr d e=>k _ _ (λz=>gS d (fG (ax.symm.trans ((ek H z.symm).trans e)))) e
theorem OT{c:Int}{m:Nat}(h:m<=40):∀i,p9 c m=some i->i<=40:=λi e=>by
 unfold p9 at e;split at e
 .cases e
 .have e8:=lF c (show(m:Int)+1≠0 by omega);have g1:=qv c (show 0<(m:Int)+1 by omega);have:=fG e;omega
theorem gG.way{hs:bt}{aA:List Row}(T:gG hs ds aA)(gg:hs.length<=7){a b:cx}{o:Option Nat}(l0:a∈hs)(jS:b∈hs)(ne:a≠b)(dK:vz hs ds a o):gG hs ds (s5 aA (S a) (S b) o):=by
 cases o with
 |none=>exact T.pop _ _
 |some i=>
  obtain⟨d,cV,aS⟩:=dK i rfl;exact T.put gg ⟨cw.mpr ⟨_,l0,rfl⟩,cw.mpr ⟨_,jS,rfl⟩,λz=>ne (m2 z),i,d,rfl,cV,aS⟩
noncomputable abbrev E9:Stmt:=top 133
noncomputable abbrev E':List Str:=["_law_some","_law_names","_law_lines","_law_letters","_law_told","_law_base","_law_n"]
theorem Ea:de ["_law_some","_law_names","_law_lines","_law_letters","_law_told","_law_base","_law_n","_law_one","_law_other","_law_what"] E' (cy E9):={}
inductive TA(vs:aR)(H:af)(Q:a4)(E:bP):Prop where
 |mk (am:Addr) (az:bt) (O:Ez) (s:fL) (bs:Nat) (c:Int) (aT:vs=[.ref am,.ref O.an,.ref O.bH,.ref O.eM,.ref O.ad,.int bs,.int c]) (aP:H am=some (.lst (bY az))) (bh:az.length=6) (cf:∀x∈az,fF x) (cP:l' H O s) (dM:j1 s) (gk:0<=c) (ic:bs<=1000000000)
   (qo:∀ps eG ft h2 kc(p:Op)Cu kS gz v H',jt s.hs s.ds s.bS ps eG ft h2 kc p->(∀x∈ft,x∈s.hs\/x∈az)->gG ft h2 gz->p.to ft h2 s.aA gz->(∀b o,b≠O.an->b≠O.bH->b≠O.eM->b≠O.ad->H b=some o->H' b=some o)->l' H' ⟨O.an,O.bH,O.eM,O.ad,Cu,kS⟩ ⟨ft,h2,kc,gz⟩->m3 H' (gH ps) eG v->Q v H')
seal fl bl fM gc
theorem acC{f:Addr}(F:cz K "_law_row" "_law_row" E9 f fd)(t7:bX K mg "_law_house" ER yf f1 dN)(ako:aK P w K mg base bq 1 f1 dN yf Tu)(ua:bX K mg "_law_road" ES ET f2 eU)(Y0:aK P w K mg base bq 1 f2 eU ET Tv)(tU:bX K mg "_law_letter" EU EV cS jQ)(aj5:aK P w K mg base bq 1 cS jQ EV Tw)(uu:bX K mg "_law_way" EW EM f4 wo)(Zq:aK P w K mg base bq 1 f4 wo EM Tx)(tN:bX K mg "_law_shortest" E7 E8 d7 BH)(ajr:aK P w K mg base bq 2 d7 BH E8 Tz):aK P w K mg base bq 3 f fd E' TA:=by
 refine F.ok Ea (λcdv A outer s0 H vs Q E al h=>?_)
 .refine⟨_,(a9 (c8 (i:=7) Ea.aC rfl (ct rfl) (cU gr (aa 0) (b7 jR (b7 mU (aa 6) bc) bc) (λ_ _=>rfl)))
   (a9 (c8 (i:=8) Ea.aC rfl (ct rfl) (cU gr (aa 0) (b7 jR (b7 mU (aa 6) bc) bc) (λ_ _=>rfl)))
   (a9 (c8 (i:=9) Ea.aC rfl (ct rfl) (b7 jR (aa 6) bc))
   (a9 (dH (dG uZ (aa 9) bc (dE _)) (bg (cm (dB ako al.mono (by rfl) t7.at_ t7.fn.b3 t7.bd .nil cJ (ag (aa 1) (ag (cU gr (aa 0) (b7 jR (b7 mU (aa 6) bc) bc) (λ_ _=>rfl)) (ag (b7 mU (aa 6) bc) aw)))))) dJ)
   (a9 (dH (dG uZ (aa 9) bc (dE _)) (bg (cm (dB Y0 al.mono (by rfl) ua.at_ ua.fn.b3 ua.bd .nil cJ (ag (aa 1) (ag (aa 2) (ag (aa 7) (ag (aa 8) (ag (b7 mU (aa 6) bc) aw)))))))) dJ)
   (a9 (dH (dG uZ (aa 9) bc (dE _)) (bg (cm (dB aj5 al.mono (by rfl) tU.at_ tU.fn.b3 tU.bd .nil cJ (ag (aa 1) (ag (aa 3) (ag (aa 7) (ag (aa 8) (ag (b7 oU (aa 5) (b7 jR (b7 mU (aa 6) bc) bc)) aw)))))))) dJ)
   (a9 (dH (dG uZ (aa 9) bc (dE _)) (bg (cm (dB Zq al.mono (by rfl) uu.at_ uu.fn.b3 uu.bd .nil cJ (ag (aa 1) (ag (aa 2) (ag (aa 4) (ag (aa 7) (ag (aa 8) (ag (b7 mU (aa 6) bc) aw))))))))) dJ)
   (bg (cm (dB ajr al.mono (by rfl) tN.at_ tN.fn.b3 tN.bd .nil cJ (ag (aa 1) (ag (aa 2) (ag (aa 4) aw))))))))))))),?_⟩
  try dsimp only[gR,gQ]
  refine cut λcu bT=>?_;obtain⟨am,az,O,s,bs,c,rfl,hm,Cr,sG,W,b',yF,Ub,q⟩:=h;have pick:∀(m:Int)(n:Int),0<n->n<=6->∃x,(fF x/\x∈az)/\ao.hD (bY az) (m%n)=some (.str (S x)):=λm n ahS CC=>by
   have e8:=lF m (show n≠0 by omega);have g1:=qv m ahS;obtain⟨j,g8⟩:=Ed e8;have bu:j<az.length:=by omega
   refine⟨az[j],⟨sG _ (qy bu),qy bu⟩,?_⟩;rw[g8];exact mV (by unfold bY;rw[d0,dW bu];rfl)
  obtain⟨eg,⟨rh,_⟩,aF⟩:=pick (c/16) 6 (by decide) (by decide);obtain⟨gj,⟨ri,_⟩,aG⟩:=pick (c/96) 6 (by decide) (by decide);obtain⟨mi,⟨M8,ahu⟩,cR⟩:=pick (c/16) 5 (by decide) (by decide);refine⟨_,rfl,_,rfl,_,_,rfl,rfl,⟨by decide,by decide⟩,_,_,rfl,rfl,by decide,am,_,_,_,rfl,rfl,aJ.of hm,aF,?_⟩;refine f7 cu bT λcu bT=>?_;refine⟨_,rfl,_,rfl,_,_,rfl,rfl,⟨by decide,by decide⟩,_,_,rfl,rfl,by decide,am,_,_,_,rfl,rfl,aJ.of hm,aG,?_⟩;refine f7 cu bT λcu bT=>?_;refine⟨_,rfl,_,_,rfl,rfl,by decide,?_⟩;subst bT;have keep:∀{ps:bt}{eG:aR}{v:ao.V}{H':af},jt s.hs s.ds s.bS ps eG s.hs s.ds s.bS .keep->aB H H'->m3 H' (gH ps) eG v->Q v H':=λ{ps eG v H'}r hX dS=>q ps eG _ _ _ .keep _ _ s.aA v H' r (λ_ h=>.inl h) b'.aA (λ_ _=>rfl) (λb o _ _ _ _ e=>hX _ _ e) (W.same hX) dS;have M1:O.an≠O.ad:=ao.f9 W.nm W.c1 (by intro z;cases z);have zC:O.bH≠O.ad:=ao.f9 W.ln W.c1 (by intro z;cases z);have M3:O.eM≠O.ad:=ao.f9 W.lt W.c1 (by intro z;cases z);have q_:O.ls.length=s.ds.length:=W.eQ.len;have pL:=b'.cN;refine⟨_,rfl,_,_,rfl,rfl,_,rfl,?_⟩;by_cases Ad:c%16<4
  .refine cY (b4 Ad) ⟨_,rfl,_,rfl,_,rfl,_,_,rfl,rfl,⟨by decide,by decide⟩,_,_,rfl,rfl,by decide,am,_,_,_,rfl,rfl,aJ.of hm,cR,_,rfl,_,_,rfl,rfl,⟨by decide,by decide⟩,O.an,s.hs,mi,c/96,rfl,W.nm,M8,b'.g.cN,λm h v H' hX dS=>?_,λno v H' k av dS=>?_⟩
   .rw[Ye]at dS;exact keep (.LU mi m M8 h) hX dS
   .rw[Ye]at dS;refine q _ _ _ _ _ .keep _ _ s.aA v H' (.B9 mi M8 no) (λz h=>(ip.mp h).imp id λh=>by rw[gW.mp h];exact ahu) ⟨b'.aA.aC,b'.aA.cN,λr al=>(b'.aA.ok r al).r' W.eQ.ok [mi]⟩ (λ_ _=>rfl) (λb o nb _ _ _ e=>k b o nb e) ⟨av,k _ _ W.cn.symm W.ln,⟨?_,?_⟩,k _ _ W.cC.symm W.lt,rd W.h7 W.nm (λ_=>nofun) k,k _ _ M1.symm W.c1,W.cn,W.cC,W.fB⟩ dS
    .exact(gE.r' (H:=H') ⟨rd W.eQ.fi W.nm (λ_=>nofun) k,W.eQ.ok⟩ [mi]).fi
    .exact(W.eQ.r' [mi]).ok
  refine c3 (cM Ad) ⟨_,rfl,_,_,rfl,rfl,_,rfl,?_⟩;have afl:0<=c/576:=Int.ediv_nonneg yF (by decide);by_cases X5:c%16<9
  .refine cY (b4 X5) ⟨_,rfl,_,rfl,_,rfl,_,rfl,_,rfl,_,_,rfl,rfl,⟨by decide,by decide⟩,O.an,O.bH,s.hs,O.ls,eg,gj,c/576,rfl,W.nm,W.ln,rh,ri,b'.g.cN,by omega,afl,λno v H' hX dS=>?_,λyes zi v r H' fS k yZ h3 dS=>?_⟩
   .exact keep (.NL eg gj _ _ rh ri (Yc _) (Yb _) (no.imp id λe=>by omega)) hX dS
   .obtain⟨l0,pZ,aS⟩:=IZ yes.y_;obtain⟨jS,p0,dq⟩:=IZ yes.za;have ga:s.hs.getD l0 []=eg:=by rw[eb,dW pZ,aS];rfl
    have jB:s.hs.getD jS []=gj:=by rw[eb,dW p0,dq];rfl
    have ok:(⟨l0,jS,(l9 (c/576):Int),(jT (c/576):Int)⟩:cQ.fm).Ok s.hs.length:=⟨pZ,p0,λz=>yes.ne (by rw[<-ga,<-jB,show l0=jS from z]),⟨by have:=yes.ru.1;show(1:Int)<=((l9 (c/576):Nat):Int);omega,by have:=yes.ru.2;show((l9 (c/576):Nat):Int)<=9;omega⟩,⟨by have:=yes.jY.1;show(1:Int)<=((jT (c/576):Nat):Int);omega,by have:=yes.jY.2;show((jT (c/576):Nat):Int)<=1000000000;omega⟩⟩
    have eB:lA s.hs ⟨l0,jS,(l9 (c/576):Int),(jT (c/576):Int)⟩=nd (S eg) (S gj) (l9 (c/576)) (jT (c/576)):=by unfold lA nd;rw[ga,jB]
    rw[q_]at dS;refine q _ _ _ _ _ .keep (O.ls++[r]) O.cd s.aA v H' (.G2 eg gj _ _ _ rh ri yes (by omega) ok eB) (λ_ h=>.inl h) ⟨b'.aA.aC,b'.aA.cN,λr al=>(b'.aA.ok r al).K_ [_]⟩ (λ_ _=>rfl) (λb o _ nb _ _ e=>k b o nb e) ⟨k _ _ W.cn W.nm,yZ,⟨?_,λd hd=>?_⟩,k _ _ W.fB.symm W.lt,rd W.h7 W.ln (λ_=>nofun) k,k _ _ zC.symm W.c1,W.cn,W.cC,W.fB⟩ dS
    .rw[fk];refine(rd W.eQ.fi W.ln (λ_=>nofun) k).snoc ?_;rw[eB];exact h3
    .rcases ip.mp hd with h|h
     .exact W.eQ.ok d h
     .rw[gW.mp h];exact ok
  refine c3 (cM X5) ⟨_,rfl,_,_,rfl,rfl,_,rfl,?_⟩;by_cases X6:c%16<11
  .have e8:=lF (c/576) (show(41:Int)≠0 by decide);have g1:=qv (c/576) (show(0:Int)<41 by decide);obtain⟨t,lR⟩:∃t:Nat,(bs:Int)+c/576%41=(t:Int):=⟨((bs:Int)+c/576%41).toNat,by omega⟩
   have lt:O.cd.length=s.bS.length:=by have:=W.h7.len;rwa [cj]at this
   have zi:=b'.lf;refine cY (b4 X6) ⟨_,rfl,_,rfl,_,rfl,_,rfl,_,rfl,_,rfl,_,_,rfl,rfl,⟨by decide,by decide⟩,_,_,rfl,rfl,by decide,_,_,rfl,rfl,O.an,O.eM,s.hs,O.cd,s.bS,eg,gj,t,(by rw[lR];rfl),W.nm,W.lt,W.h7,rh,ri,b'.g.cN,zi,by omega,λno v H' hX dS=>?_,λyes v r H' fS k yZ h3 dS=>?_⟩
   .exact keep (.MA eg gj _ rh ri (by omega) no) hX dS
   .refine q _ _ _ _ _ .keep O.ls (O.cd++[r]) s.aA v H' (.F' eg gj _ rh ri yes) (λ_ h=>.inl h) b'.aA (λ_ _=>rfl) (λb o _ _ nb _ e=>k b o nb e) ⟨k _ _ W.cC W.nm,k _ _ W.fB W.ln,⟨rd W.eQ.fi W.lt (λ_=>nofun) k,W.eQ.ok⟩,yZ,?_,k _ _ M3.symm W.c1,W.cn,W.cC,W.fB⟩ dS;rw[fk];exact(rd W.h7 W.lt (λ_=>nofun) k).snoc h3
  refine c3 (cM X6) ⟨_,rfl,_,_,rfl,rfl,_,rfl,?_⟩;by_cases X7:c%16<15
  .refine cY (b4 X7) ⟨_,rfl,_,rfl,_,rfl,_,rfl,_,rfl,_,rfl,_,_,rfl,rfl,⟨by decide,by decide⟩,O.an,O.bH,O.ad,s.hs,O.ls,s.ds,s.aA,eg,gj,c/576,rfl,W.nm,W.ln,W.eQ.fi,W.c1,rh,ri,b'.g.cN,pL,b'.aA.cN,λno v H' hX dS=>?_,λl0 jS ne no v H' hX dS=>?_,λl0 jS ne dK v H' k yY dS=>?_⟩
   .exact keep (.OU eg gj _ rh ri (OT pL) no) hX dS
   .exact keep (.OV eg gj _ rh ri (OT pL) l0 jS ne no) hX dS
   .exact q _ _ _ _ _ (.way (S eg) (S gj) _) _ _ (s5 s.aA (S eg) (S gj) (p9 (c/576) s.ds.length)) v H' (.OW eg gj _ rh ri (OT pL) l0 jS ne dK) (λ_ h=>.inl h) (b'.aA.way b'.gg l0 jS ne dK) (λ_ _=>rfl) (λb o _ _ _ nb e=>k b o nb e) ⟨k _ _ M1 W.nm,k _ _ zC W.ln,⟨rd W.eQ.fi W.c1 (λ_=>nofun) k,W.eQ.ok⟩,k _ _ M3 W.lt,rd W.h7 W.c1 (λ_=>nofun) k,yY,W.cn,W.cC,W.fB⟩ dS
  refine c3 (cM X7) ⟨_,rfl,_,rfl,_,rfl,O.an,O.bH,O.ad,s.hs,O.ls,s.ds,s.aA,rfl,W.nm,W.ln,W.eQ,W.c1,b'.g,pL,b'.gg,λv H' gz k yY ST T dS=>?_⟩;rw[ρ]at dS;exact q _ _ _ _ _ .short _ _ gz v H' .kf (λ_ h=>.inl h) T ST (λb o _ _ _ nb e=>k b o nb e) ⟨k _ _ M1 W.nm,k _ _ zC W.ln,⟨rd W.eQ.fi W.c1 (λ_=>nofun) k,W.eQ.ok⟩,k _ _ M3 W.lt,rd W.h7 W.c1 (λ_=>nofun) k,yY,W.cn,W.cC,W.fB⟩ dS
unseal fl bl fM gc
theorem τ{hs:bt}{n m:cx}(ah0:fF n)(h:m∈kN n\/(m=n/\n∈hs)):wO (.list (bF hs++[.str (S m)]))=false:=by
 rw[kk];intro z;obtain⟨_,nm,aC⟩:=Yt z;rcases h with h|⟨rfl,h⟩
 .have:=nm (.str (S m)) (my _ (.head _));unfold nT at this;simp only[ie,decide_eq_true_eq]at this;obtain⟨⟨_,sx⟩,low⟩:=this;rw[dR]at sx;have low:∀x∈m,vq x=true:=λx ax=>(rL.mp low) x (by simpa using ax);unfold kN at h;simp only[dX,di,or_false]at h;rcases h with rfl|rfl|rfl|rfl
  .exact bk (low 65 (by simp)) (by decide)
  .rw[eS]at sx;have sx:n.length+8<=8:=sx;have:=ah0.1;omega
  .exact bk (low 49 (by simp)) (by decide)
  .exact bk (low 45 (by simp)) (by decide)
 .rw[XT,PM]at aC;have aC:(hs.map S++[S m]).Nodup:=aC;exact(Ep.mp aC).2.2 _ (cw.mpr ⟨m,h,rfl⟩) _ (.head _) rfl
theorem NF{hs:bt}{n:cx}(G:Good hs)(nm:fF n)(h:n∉hs)(l:hs.length<12):Good (hs++[n]):=by
 refine⟨λx ax=>?_,Ep.mpr ⟨G.aC,by simp,λa av b ae e=>?_⟩,by rw[eS];exact l⟩
 .rcases ip.mp ax with z|z
  .exact G.nm x z
  .rw[gW.mp z];exact nm
 .rw[gW.mp ae]at e;rw[e]at av;exact h av
theorem GK{hs:bt}{a b:cx}(u:fX (bF hs) (.str (S a)) (.str (S b))=true):a∈hs/\b∈hs/\a≠b:=by obtain⟨ai,aj⟩:=NC u;obtain⟨x,ax,ex⟩:=cw.mp ai;obtain⟨y,cb,dU⟩:=cw.mp aj;refine⟨by rw[<-m2 ex];exact ax,by rw[<-m2 dU];exact cb,λe=>?_⟩;unfold fX at u;rw[e,Hm,b4 rfl,YB,H6]at u;cases u
theorem Gu{hs:bt}{a b:cx}(av:a∈hs)(ae:b∈hs)(ne:a≠b):fX (bF hs) (.str (S a)) (.str (S b))=true:=HB (cw.mpr ⟨_,av,rfl⟩) (cw.mpr ⟨_,ae,rfl⟩) λe=>ne (m2 e)
theorem X8{o:Option Nat}:vz hs ds a o↔∀i,o=some i->((i:Nat):Int)∈jG hs ds (·.a) (S a):=by
 constructor
 .intro h i e;obtain⟨d,cV,aS⟩:=h i e;exact OR cV aS
 .intro h i e;obtain⟨j,bu⟩:=rM (h i e);obtain⟨k,d,aF,aG,cR⟩:=Hn (v:=.int (i:Int)) (by rw[d0,bu];rfl);have:i=k:=by have:=V.int.inj aF;omega
  rw[this];exact⟨d,aG,cR⟩
theorem ĺ{ds:dc}{t m:Nat}(h:¬uY hs a b t m\/ds.length=40):C1 (bF hs) (.list (ds.map (xm hs)++[O5 (S a) (S b) t m]))=false:=by
 rw[kk];intro z;unfold C1 at z;simp only[ie,decide_eq_true_eq]at z;obtain⟨aT,aP⟩:=z;rw[eS,cj]at aT;have aT:ds.length+1<=40:=aT;rcases h with h|h
 .have r:pX (bF hs) (O5 (S a) (S b) t m)=true:=(rL.mp aP) _ (my _ (.head _));have r:(fX (bF hs) (.str (S a)) (.str (S b))&&(decide ((1:Int)<=t)&&decide ((t:Int)<=9))&&(decide ((1:Int)<=m)&&decide ((m:Int)<=1000000000)))=true:=r;simp only[ie,decide_eq_true_eq]at r;obtain⟨⟨u,t1,fh⟩,gh,gv⟩:=r;exact h (by
   obtain⟨l0,jS,ne⟩:=GK u;exact⟨l0,jS,ne,⟨by omega,by omega⟩,by omega,by omega⟩)
 .omega
theorem aa2(bS:vX):(bS.map l6).map nZ=bS.map λd=>d.2.1:=by rw[jK];rfl
theorem Oq{d:Bn}:lP (bF hs) (l6 d)=true↔fX (bF hs) (.str d.1) (.str d.2.2)=true/\0<=d.2.1/\d.2.1<=1000000000:=by show(fX (bF hs) (.str d.1) (.str d.2.2)&&(decide (0<=d.2.1)&&decide (d.2.1<=1000000000)))=true↔_;simp only[ie,decide_eq_true_eq]
theorem Xb{bS:vX}(lk:∀d∈bS,fX (bF hs) (.str d.1) (.str d.2.2)=true/\0<=d.2.1/\d.2.1<=1000000000){t:Nat}:vv (bF hs) ((bS++[(S a,(t:Int),S b)]).map l6)↔vy hs bS a b t:=by
 have lR:((bS++[(S a,(t:Int),S b)]).map l6).map nZ=ql bS t:=by rw[aa2,fk];rfl
 have nn:ql bS t≠[]:=by unfold ql;simp
 unfold vv;rw[<-F5,lR,cj,eS];unfold DD;rw[bz nn];constructor
 .rintro⟨f,l,p⟩;have l:bS.length+1<=40:=l;have g:=Oq.mp (f (l6 (S a,(t:Int),S b)) (cw.mpr ⟨_,my _ (.head _),rfl⟩));obtain⟨l0,jS,ne⟩:=GK g.1;exact⟨l0,jS,ne,by have:=g.2.2;dsimp only at this;omega,by omega,p⟩
 .intro y;refine⟨λd hd=>?_,y.cN,y.ap⟩;obtain⟨x,ax,rfl⟩:=cw.mp hd;rcases ip.mp ax with h|h
  .exact Oq.mpr (lk x h)
  .rw[gW.mp h];exact Oq.mpr ⟨Gu y.y_ y.za y.ne,by show(0:Int)<=((t:Nat):Int);omega,by have:=y.ru;show((t:Nat):Int)<=1000000000;omega⟩
end
structure ti(K:aQ)(R:ny)(dA d4:Addr)(kw:cx)(eD:List mG)(f:Addr):Prop where
 nN:jz K dA (S kw) (eD.map R.f)
 ns:iM K d4 (S kw)=some (some (.ref f))
noncomputable def x3:List Nat:=[102,97,114]
noncomputable def z7:List Nat:=[114,111,117,116,101]
noncomputable def A8:List Nat:=[114,117,110]
structure x4(K:aQ)(R:ny)(dA d4:Addr)(D:xS):Prop where
 aI:ti K R dA d4 uI [.t] D.aI
 jY:ti K R dA d4 p8 [.t,.t,.n,.n] D.jY
 le:ti K R dA d4 qk [.t,.t,.n] D.le
 jk:ti K R dA d4 m7 [.t,.t,.r] D.jk
 kf:ti K R dA d4 DG [] D.kf
 gF:ti K R dA d4 x3 [.t,.t] D.gF
 h9:ti K R dA d4 z7 [.t,.t] D.h9
 dF:ti K R dA d4 A8 [] D.dF
structure AE(K:aQ)(gq:Addr)(cs:c7)(e0 dz gb eZ eL:Addr):Prop where
 n:tp K gq cs e0 0
 h:tp K gq cs dz 1
 r:tp K gq cs gb 2
 l:tp K gq cs eZ 3
 w:tp K gq cs eL 5
structure mH(p:cx):Prop where
 a:32∉p
 b:p≠[]
 c:p.length<=20
 d:∀c∈p,c<256
theorem fP(h:fF n):mH n:=⟨λz=>by have:=h.2.2 _ z;omega,λz=>by rw[z]at h;exact bk h.1 (by decide),by have:=h.2.1;omega,λc ar=>by have:=h.2.2 c ar;omega⟩
theorem xF{m:Nat}(h:m<10 ^ 10):mH (cB m):=⟨λz=>by have:=xk z;omega,Ec m,e1 (sI h) (by decide),λc ar=>by have:=xk ar;omega⟩
theorem acD{m:cx}(nm:fF n)(h:m∈kN n):mH m:=by
 have l:=QD nm.2.1 h;unfold kN at h;simp only[dX,di,or_false]at h;have k:=fP nm;have app:∀{r:cx},(∀c∈r,c≠32/\c<256)->(n++r).length<=16->mH (n++r):=λ{r}al au=>⟨λz=>(ip.mp z).elim k.a λz=>(al _ z).1 rfl,λz=>k.b (List.append_eq_nil_iff.mp z).1,by omega,λc ar=>(ip.mp ar).elim (k.d c) λz=>(al c z).2⟩
 rcases h with rfl|rfl|rfl|rfl
 .exact⟨by decide,by decide,by decide,by decide⟩
 .exact app (by decide) l
 .exact⟨by decide,by decide,by decide,by decide⟩
 .exact app (by decide) l
theorem Iv{o:Option Nat}(aI:∀i,o=some i->i<=40):mH (lu o):=by
 cases o with
 |none=>exact⟨by decide,by decide,by decide,by decide⟩
 |some i=>exact xF (qC (aI i rfl) (by decide))
theorem Qf{c:Nat}{r:cx}(h:c≠99):JB (S (c::r)) (bK "check ")=false:=by
 rw[kk];intro z;unfold JB akM at z;obtain⟨_,z⟩:=(ie _ _).mp z;have z:=eq_of_beq z;have e:=ek (λa:Array Nat=>a[0]?) z;have aG:(bK "check ").cps[0]?=some 99:=by decide+kernel
 have cR:(bK "check ").length=6:=by decide+kernel
 dsimp only at e;rw[aG,cR]at e;have hV:((S (c::r)).cps.extract 0 (0+6))[0]?=some c:=by rw[Array.getElem?_extract];simp[S]
 rw[hV]at e;exact h (fG e)
theorem n0{c:Nat}{k:cx}{r:bt}(ar:c≠99)(aD:mH (c::k))(l:r.length<=5)(h:∀p∈r,mH p):vt ((c::k)::r):=by
 refine⟨nofun,by rw[fV];omega,λp ay=>?_,?_⟩
 .have w:mH p:=by
   rcases dX.mp ay with rfl|ay
   .exact aD
   .exact h p ay
  exact⟨w.a,w.b,w.c,w.d⟩
 .cases r with
  |nil=>exact Qf ar
  |cons q r=>exact Qf ar
theorem lr(h:mH p):cW H (.str (S p)) (.str (S p)):=.str _ (by rw[dR];have:=h.c;omega) (by
 simp only[ox,S];rw[PH];intro x ax;have:=h.d x (by simpa using ax);exact b4 (by omega))
theorem mD.same{A eh:e'}(n:mD H' A eh)(az:aB H H'):mD H A eh:=⟨n.t.imp id (e4 az),n.l.imp id (e4 az),n.a.imp id (e4 az),n.b.imp id (e4 az)⟩
theorem Y1{hs:bt}(n:cx)(u:fX (bF hs) (.str a) (.str b)=true):fX (bF (hs++[n])) (.str a) (.str b)=true:=by
 obtain⟨ai,aj⟩:=NC u;have ne:a≠b:=λe=>by unfold fX at u;rw[e,Hm,b4 rfl,YB,H6]at u;cases u
 refine HB ?_ ?_ ne
 .rw[fk];exact yb _ ai
 .rw[fk];exact yb _ aj
theorem jt.good{hs:bt}{eG:aR}{p:Op}(r:jt hs ds bS ps eG ft h2 kc p)(g:Good hs)(gg:hs.length<=7):Good ft:=by
 cases r with
 |B9 n nm h=>exact NF g nm h (by omega)
 |_=>exact g
theorem jt.ahD{s:fL}{ft:bt}{gz:List Row}{eG:aR}{p:Op}(r:jt s.hs s.ds s.bS ps eG ft h2 kc p)(b':j1 s)(gg:ft.length<=7)(T:gG ft h2 gz):j1 ⟨ft,h2,kc,gz⟩:=by
 have g:=b'.g;have cN:=b'.cN;have lf:=b'.lf;have lk:=b'.lk;have ahI:=b'.gg;cases r with
 |B9 n nm h=>exact⟨NF g nm h (by omega),cN,T,gg,lf,λd hd=>⟨Y1 n (lk d hd).1,(lk d hd).2⟩⟩
 |G2 a b t m d na nb h l ok e=>exact⟨g,by show(s.ds++[d]).length<=40;rw[eS];exact l,T,gg,lf,lk⟩
 |F' a b t na nb h=>
  refine⟨g,cN,T,gg,by show(s.bS++[_]).length<=40;rw[eS];exact h.cN,λd hd=>?_⟩;rcases ip.mp hd with z|z
  .exact lk d z
  .rw[gW.mp z];have:=h.ru;exact⟨Gu h.y_ h.za h.ne,by show(0:Int)<=((t:Nat):Int);omega,by show((t:Nat):Int)<=1000000000;omega⟩
 |_=>exact⟨g,cN,T,gg,lf,lk⟩
theorem Ir{o:Option Nat}(aI:∀i,o=some i->i<=40):mG.r.eQ (S (lu o)) (ta o):=by
 cases o with
 |none=>exact .inl ⟨by decide+kernel,rfl⟩
 |some i=>exact .inr ⟨i,qC (aI i rfl) (by decide),rfl,rfl⟩
theorem m4{hs:bt}{a:cx}:S a∈hs.map S↔a∈hs:=⟨λh=>by
 obtain⟨y,cb,e⟩:=cw.mp h;rw[<-m2 e];exact cb,λh=>cw.mpr ⟨_,h,rfl⟩⟩
theorem aa3{aA:List Row}(aC:(aA.map λr=>(r.1,r.2.1)).Nodup):((b8 aA).map (·.1)).Nodup:=by unfold b8;rw[jK];have aC:=vI.mp aC;refine vI.mpr (aC.imp λ{a b}h z=>h ?_);have z:([.inr a.1,.inr a.2.1]:List bb)=[.inr b.1,.inr b.2.1]:=z;injection z with aT aP;injection aP with aP;rw[yw aT,yw aP]
theorem Xc{aA:List Row}(aC:(aA.map λr=>(r.1,r.2.1)).Nodup)(h g:Str):b_ (b8 (l7 aA)) (dy h g)=b_ (b8 aA) (dy h g):=by have pm:=Gy aA;exact Χ (pm.map _) (aa3 ((pm.map _).nodup_iff.mpr aC)) _
section
variable{P:cA}{w:bU}{K:aQ}{mg:b9}{base:Heap}
variable{a6 CW a3 e0 eZ dz gb eL gq dA d4 x:Addr}{cs:c7}{R:ny}{F:xS}
theorem aa5(SC:x4 K R dA d4 F)(kp:AE K gq cs e0 dz gb eZ eL){s:fL}{A:e'}{eG:aR}{p:Op}(r:jt s.hs s.ds s.bS ps eG ft h2 kc p)(D:e7 a6 CW a3 H x A s)(b':j1 s){Q:a4}(q:∀l H'(eh:e')gz,om x A.t H H'->mD H A eh->e7 a6 CW a3 H' x eh ⟨ft,h2,kc,gz⟩->gG ft h2 gz->p.to ft h2 s.aA gz->H' l=some (.lst eG)->Q (.ref l) H'):
  x9 K a6 gq cs (Ah K R dA d4 (mr a6 CW a3 e0 eZ dz gb eL F)) [.ref x,.str (gH ps)] H Q E:=by
 refine⟨x,A.ak,A.n,A.l,A.y,gH ps,rfl,D.ins,λyt mv et e9=>?_⟩;have Cn:∀{H':af}{l:Addr},ft=s.hs->h2=s.ds->kc=s.bS->p=.keep->aB H H'->H' l=some (.lst eG)->Q (.ref l) H':=λ{H' l}aF aG cR hV az au=>by subst aF aG cR hV;exact q l H' A s.aA (λb o _ _ e=>az _ _ e) (mD.refl _ _) (D.same az) b'.aA (λ_ _=>rfl) au
 have r_:=b'.g.cN;have ahI:=b'.gg;cases r with
 |LU n m nm h=>
  have Xu:mH m:=by
   rcases h with h|⟨rfl,_⟩
   .exact acD nm h
   .exact fP nm
  refine⟨x,_,S uI,[S m],[.t],[.str (S m)],F.aI,_,rfl,n0 (by decide) ⟨by decide,by decide,by decide,by decide⟩ (ov rfl) (λp ay=>?_),rfl,SC.aI.nN,.cons rfl .nil,by decide,SC.aI.ns,.aI,λl H1 nl s1 au=>?_⟩
  .rw[gW.mp ay];exact Xu
  .exact⟨x,l,A,s,S m,rfl,D.same s1,au,b',lr Xu,.inr ⟨τ nm h,λah s2=>e9 e0 0 _ none ah kp.n rfl λea aU jf aW fR=>Cn rfl rfl rfl rfl (s1.trans (s2.trans aW)) fR⟩⟩
 |B9 n nm h=>
  refine⟨x,_,S uI,[S n],[.t],[.str (S n)],F.aI,_,rfl,n0 (by decide) ⟨by decide,by decide,by decide,by decide⟩ (ov rfl) (λp ay=>?_),rfl,SC.aI.nN,.cons rfl .nil,by decide,SC.aI.ns,.aI,λl H1 nl s1 au=>?_⟩
  .rw[gW.mp ay];exact fP nm
  .exact⟨x,l,A,s,S n,rfl,D.same s1,au,b',lr (fP nm),.inl ⟨n,rfl,NF b'.g nm h (by omega),λah eh eI aD dP=>et _ ah λea aU jf aW fR=>q ea aU eh (l7 s.aA) (λb o cn _ e=>aW _ _ (aD b o cn (s1 _ _ e))) (eI.same s1) (dP.same aW) (gG.perm ⟨b'.aA.aC,b'.aA.cN,λr al=>(b'.aA.ok r al).r' D.g5.ok [n]⟩ (Gy s.aA)) (Xc b'.aA.aC) fR⟩⟩
 |NL a b t m na nb cO hm h=>
  refine⟨x,_,S p8,[S a,S b,S (cB t),S (cB m)],[.t,.t,.n,.n],nd (S a) (S b) t m,F.jY,_,rfl,n0 (by decide) ⟨by decide,by decide,by decide,by decide⟩ (ov rfl) (λp ay=>?_),rfl,SC.jY.nN,.cons rfl (.cons rfl (.cons ⟨t,by omega,rfl,rfl⟩ (.cons ⟨m,hm,rfl,rfl⟩ .nil))),by decide,SC.jY.ns,.jY,λl H1 nl s1 au=>?_⟩
  .simp only[dX,di,or_false]at ay;rcases ay with rfl|rfl|rfl|rfl
   .exact fP na
   .exact fP nb
   .exact xF (by omega)
   .exact xF hm
  .exact⟨x,l,A,s,S a,S b,t,m,rfl,D.same s1,au,b',lr (fP na),lr (fP nb),.inr ⟨ĺ h,λah s2=>e9 e0 0 _ none ah kp.n rfl λea aU jf aW fR=>Cn rfl rfl rfl rfl (s1.trans (s2.trans aW)) fR⟩⟩
 |G2 a b t m d na nb h zi ok e=>
  have cO:=h.ru;have hm:=h.jY;refine⟨x,_,S p8,[S a,S b,S (cB t),S (cB m)],[.t,.t,.n,.n],nd (S a) (S b) t m,F.jY,_,rfl,n0 (by decide) ⟨by decide,by decide,by decide,by decide⟩ (ov rfl) (λp ay=>?_),rfl,SC.jY.nN,.cons rfl (.cons rfl (.cons ⟨t,by omega,rfl,rfl⟩ (.cons ⟨m,by omega,rfl,rfl⟩ .nil))),by decide,SC.jY.ns,.jY,λl H1 nl s1 au=>?_⟩
  .simp only[dX,di,or_false]at ay;rcases ay with rfl|rfl|rfl|rfl
   .exact fP na
   .exact fP nb
   .exact xF (by omega)
   .exact xF (by omega)
  .exact⟨x,l,A,s,S a,S b,t,m,rfl,D.same s1,au,b',lr (fP na),lr (fP nb),.inl ⟨d,ok,zi,e.symm,λah eh eI aD dP=>et _ ah λea aU jf aW fR=>q ea aU eh (l7 s.aA) (λb o cn _ e=>aW _ _ (aD b o cn (s1 _ _ e))) (eI.same s1) (dP.same aW) (gG.perm ⟨b'.aA.aC,b'.aA.cN,λr al=>(b'.aA.ok r al).K_ [d]⟩ (Gy s.aA)) (Xc b'.aA.aC) fR⟩⟩
 |MA a b t na nb cO h=>
  refine⟨x,_,S qk,[S a,S b,S (cB t)],[.t,.t,.n],[.str (S a),.str (S b),.int (t:Int)],F.le,_,rfl,n0 (by decide) ⟨by decide,by decide,by decide,by decide⟩ (ov rfl) (λp ay=>?_),rfl,SC.le.nN,.cons rfl (.cons rfl (.cons ⟨t,cO,rfl,rfl⟩ .nil)),by decide,SC.le.ns,.le,λl H1 nl s1 au=>?_⟩
  .simp only[dX,di,or_false]at ay;rcases ay with rfl|rfl|rfl
   .exact fP na
   .exact fP nb
   .exact xF cO
  .exact⟨x,l,A,s,S a,S b,t,rfl,D.same s1,au,b',lr (fP na),lr (fP nb),λyes=>bk ((Xb b'.lk).mp yes) h,λ_ ak ah fs aC s2 hd=>e9 eZ 3 _ _ ah kp.l rfl λea aU jf aW fR=>Cn rfl rfl rfl rfl (s1.trans (s2.trans aW)) fR⟩
 |F' a b t na nb h=>
  have cO:=h.ru;refine⟨x,_,S qk,[S a,S b,S (cB t)],[.t,.t,.n],[.str (S a),.str (S b),.int (t:Int)],F.le,_,rfl,n0 (by decide) ⟨by decide,by decide,by decide,by decide⟩ (ov rfl) (λp ay=>?_),rfl,SC.le.nN,.cons rfl (.cons rfl (.cons ⟨t,by omega,rfl,rfl⟩ .nil)),by decide,SC.le.ns,.le,λl H1 nl s1 au=>?_⟩
  .simp only[dX,di,or_false]at ay;rcases ay with rfl|rfl|rfl
   .exact fP na
   .exact fP nb
   .exact xF (by omega)
  .exact⟨x,l,A,s,S a,S b,t,rfl,D.same s1,au,b',lr (fP na),lr (fP nb),λ_ ah eh Ks aD dP=>et _ ah λea aU jf aW fR=>q ea aU eh s.aA (λb o cn _ e=>aW _ _ (aD b o cn (s1 _ _ e))) (Ks.same s1) (dP.same aW) b'.aA (λ_ _=>rfl) fR,λno=>bk ((Xb b'.lk).mpr h) no⟩
 |OU a b o na nb aI h=>
  refine⟨x,_,S m7,[S a,S b,S (lu o)],[.t,.t,.r],[.str (S a),.str (S b),ta o],F.jk,_,rfl,n0 (by decide) ⟨by decide,by decide,by decide,by decide⟩ (ov rfl) (λp ay=>?_),rfl,SC.jk.nN,.cons rfl (.cons rfl (.cons (Ir aI) .nil)),by decide,SC.jk.ns,.jk,λl H1 nl s1 au=>?_⟩
  .simp only[dX,di,or_false]at ay;rcases ay with rfl|rfl|rfl
   .exact fP na
   .exact fP nb
   .exact Iv aI
  .exact⟨x,l,A,s,S a,S b,o,rfl,D.same s1,au,b',lr (fP na),lr (fP nb),λun=>bk (GK un) h,λ_ ah s2=>e9 dz 1 _ _ ah kp.h rfl λea aU jf aW fR=>Cn rfl rfl rfl rfl (s1.trans (s2.trans aW)) fR,λun=>bk (GK un) h⟩
 |OV a b o na nb aI av ae ne h=>
  refine⟨x,_,S m7,[S a,S b,S (lu o)],[.t,.t,.r],[.str (S a),.str (S b),ta o],F.jk,_,rfl,n0 (by decide) ⟨by decide,by decide,by decide,by decide⟩ (ov rfl) (λp ay=>?_),rfl,SC.jk.nN,.cons rfl (.cons rfl (.cons (Ir aI) .nil)),by decide,SC.jk.ns,.jk,λl H1 nl s1 au=>?_⟩
  .simp only[dX,di,or_false]at ay;rcases ay with rfl|rfl|rfl
   .exact fP na
   .exact fP nb
   .exact Iv aI
  .exact⟨x,l,A,s,S a,S b,o,rfl,D.same s1,au,b',lr (fP na),lr (fP nb),λ_ yes=>bk (X8.mpr yes) h,λno=>bk ((Gu av ae ne).symm.trans no) nofun,λ_ i e no ah s2=>e9 gb 2 _ _ ah kp.r rfl λea aU jf aW fR=>Cn rfl rfl rfl rfl (s1.trans (s2.trans aW)) fR⟩
 |OW a b o na nb aI av ae ne h=>
  refine⟨x,_,S m7,[S a,S b,S (lu o)],[.t,.t,.r],[.str (S a),.str (S b),ta o],F.jk,_,rfl,n0 (by decide) ⟨by decide,by decide,by decide,by decide⟩ (ov rfl) (λp ay=>?_),rfl,SC.jk.nN,.cons rfl (.cons rfl (.cons (Ir aI) .nil)),by decide,SC.jk.ns,.jk,λl H1 nl s1 au=>?_⟩
  .simp only[dX,di,or_false]at ay;rcases ay with rfl|rfl|rfl
   .exact fP na
   .exact fP nb
   .exact Iv aI
  .exact⟨x,l,A,s,S a,S b,o,rfl,D.same s1,au,b',lr (fP na),lr (fP nb),λ_ _ ah k2 dP=>et _ ah λea aU jf aW fR=>q ea aU A (s5 s.aA (S a) (S b) o) (λb o cn cC e=>aW _ _ (k2 b o cn cC (s1 _ _ e))) (mD.refl _ _) (dP.same aW) (b'.aA.way b'.gg av ae ne h) (λ_ _=>rfl) fR,λno=>bk ((Gu av ae ne).symm.trans no) nofun,λ_ i e no=>bk (X8.mp h i e) no⟩
 |kf=>
  refine⟨x,_,S DG,[],[],[],F.kf,_,rfl,n0 (by decide) ⟨by decide,by decide,by decide,by decide⟩ (ov rfl) (λp ay=>nomatch ay),rfl,SC.kf.nN,.nil,by decide,SC.kf.ns,.kf,λl H1 nl s1 au=>?_⟩;exact⟨x,.ref l,A,s,rfl,D.same s1,b',λah eh aA eI aD ST T dP=>et _ ah λea aU jf aW fR=>q ea aU eh aA (λb o cn _ e=>aW _ _ (aD b o cn (s1 _ _ e))) (eI.same s1) (dP.same aW) T ST fR⟩
theorem Qg(SC:x4 K R dA d4 F)(kp:AE K gq cs e0 dz gb eZ eL){s:fL}{A:e'}{H:af}{a b:cx}(jk:mH a)(OX:mH b)(o:Option Nat)(D:e7 a6 CW a3 H x A s)(b':j1 s){Q:a4}(oH:a∈s.hs->b∈s.hs->A5 (b2.dist (fY s.hs s.ds) (S a) (S b))=ta o)(Kf:∀m,o=some m->m<10 ^ 10)(q:a∈s.hs->b∈s.hs->∀l H',H l=none->aB H H'->H' l=some (.lst [.aM true,.str (qh o)])->Q (.ref l) H')(o2:¬(a∈s.hs/\b∈s.hs)->∀l H',H l=none->aB H H'->H' l=some (.lst [.str "house"])->Q (.ref l) H'):
  x9 K a6 gq cs (Ah K R dA d4 (mr a6 CW a3 e0 eZ dz gb eL F)) [.ref x,.str (gH [x3,a,b])] H Q E:=by
 refine⟨x,A.ak,A.n,A.l,A.y,_,rfl,D.ins,λyt mv et e9=>?_⟩;refine⟨x,_,S x3,[S a,S b],[.t,.t],[.str (S a),.str (S b)],F.gF,_,rfl,n0 (by decide) ⟨by decide,by decide,by decide,by decide⟩ (ov rfl) (λp ay=>?_),rfl,SC.gF.nN,.cons rfl (.cons rfl .nil),by decide,SC.gF.ns,.gF,λl H1 nl s1 au=>?_⟩
 .simp only[dX,di,or_false]at ay;rcases ay with rfl|rfl
  .exact jk
  .exact OX
 .exact⟨x,l,A,s,S a,S b,o,rfl,D.same s1,au,b',λai aj=>oH (m4.mp ai) (m4.mp aj),Kf,λai aj ah s2=>et _ ah λea aU jf aW fR=>q (m4.mp ai) (m4.mp aj) ea aU (e4 (s1.trans s2) jf) (s1.trans (s2.trans aW)) fR,λno=>e9 dz 1 _ _ H1 kp.h rfl λea aU jf aW fR=>o2 (λz=>no.elim (λn=>n (m4.mpr z.1)) λn=>n (m4.mpr z.2)) ea aU (e4 s1 jf) (s1.trans aW) fR⟩
noncomputable def Au:Out->List ao.V
 |.ok aH=>[.aM true,.str (S (eO [32] (aH.map cB)))]
 |.no _ _=>[.str "way"]
theorem Zr(SC:x4 K R dA d4 F)(kp:AE K gq cs e0 dz gb eZ eL){s:fL}{A:e'}{H:af}{a b:cx}(jk:mH a)(OX:mH b)(D:e7 a6 CW a3 H x A s)(b':j1 s){Q:a4}(q:a∈s.hs->b∈s.hs->∀l H',H l=none->aB H H'->H' l=some (.lst (Au (kJ (b8 s.aA) s.hs s.ds (S b) 13 (S a) [S a] [])))->Q (.ref l) H')(o2:¬(a∈s.hs/\b∈s.hs)->∀l H',H l=none->aB H H'->H' l=some (.lst [.str "house"])->Q (.ref l) H'):
  x9 K a6 gq cs (Ah K R dA d4 (mr a6 CW a3 e0 eZ dz gb eL F)) [.ref x,.str (gH [z7,a,b])] H Q E:=by
 refine⟨x,A.ak,A.n,A.l,A.y,_,rfl,D.ins,λyt mv et e9=>?_⟩;refine⟨x,_,S z7,[S a,S b],[.t,.t],[.str (S a),.str (S b)],F.h9,_,rfl,n0 (by decide) ⟨by decide,by decide,by decide,by decide⟩ (ov rfl) (λp ay=>?_),rfl,SC.h9.nN,.cons rfl (.cons rfl .nil),by decide,SC.h9.ns,.h9,λl H1 nl s1 au=>?_⟩
 .simp only[dX,di,or_false]at ay;rcases ay with rfl|rfl
  .exact jk
  .exact OX
 .refine⟨x,l,A,s,S a,S b,rfl,D.same s1,au,b',λai aj aH e ah s2=>et _ ah λea aU jf aW fR=>?_,λai aj rA sn e ak ah fs aC s2 hd=>e9 eL 5 _ _ ah kp.w rfl λea aU jf aW fR=>?_,λno=>e9 dz 1 _ _ H1 kp.h rfl λea aU jf aW fR=>o2 (λz=>no.elim (λn=>n (m4.mpr z.1)) λn=>n (m4.mpr z.2)) ea aU (e4 s1 jf) (s1.trans aW) fR⟩
  .refine q (m4.mp ai) (m4.mp aj) ea aU (e4 (s1.trans s2) jf) (s1.trans (s2.trans aW)) ?_;rw[e];exact fR
  .refine q (m4.mp ai) (m4.mp aj) ea aU (e4 (s1.trans s2) jf) (s1.trans (s2.trans aW)) ?_;rw[e];exact fR
theorem Ī(SC:x4 K R dA d4 F){s:fL}{A:e'}{H:af}(D:e7 a6 CW a3 H x A s)(a8:s.bS=[]){Q:a4}(q:∀l H',H l=none->aB H H'->H' l=some (.lst [.aM true,.str ""])->Q (.ref l) H'):
  x9 K a6 gq cs (Ah K R dA d4 (mr a6 CW a3 e0 eZ dz gb eL F)) [.ref x,.str (gH [A8])] H Q E:=by refine⟨x,A.ak,A.n,A.l,A.y,_,rfl,D.ins,λyt mv et e9=>?_⟩;refine⟨x,_,S A8,[],[],[],F.dF,_,rfl,n0 (by decide) ⟨by decide,by decide,by decide,by decide⟩ (ov rfl) (λp ay=>nomatch ay),rfl,SC.dF.nN,.nil,by decide,SC.dF.ns,.dF,λl H1 nl s1 au=>?_⟩;exact⟨x,.ref l,A,s,rfl,D.same s1,a8,λah s2=>et _ ah λea aU jf aW fR=>q ea aU (e4 (s1.trans s2) jf) (s1.trans (s2.trans aW)) fR⟩
end
theorem QF{p:cx}(h:∀c∈p,c<256):ox (S p)=true:=by simp only[ox,S];rw[PH];intro x ax;have:=h x (by simpa using ax);exact b4 (by omega)
inductive n1:List ao.V->Prop
 |one {y:Str} (h:ox y=true):n1 [.str y]
 |two {y:Str} (h:ox y=true):n1 [.aM true,.str y]
theorem n1.data{K:aQ}{eG:aR}(h:n1 eG):∃ds:List PyData,yn (.list ds)=true/\pv (.list ds)<=1/\∀(H:af)(l:Addr),H l=some (.lst eG)->mu K H (.ref l) (.list ds):=by
 cases h with
 |@one y h=>exact⟨[.str y],by simp only[yn,rS,h,H7],by simp[pv,ow],λH l e=>.lst (aJ.of e) (.cons (.str _) .nil)⟩
 |@two y h=>exact⟨[.bool true,.str y],by simp only[yn,rS,h,H7],by simp[pv,ow],λH l e=>.lst (aJ.of e) (.cons (.aM _) (.cons (.str _) .nil))⟩
theorem zd{d:PyData}(h:yn d=true)(k:d.depth<=64):rW d=true:=by unfold rW;rw[h,b4 k];rfl
theorem Jd(n:Nat):ox (S (cB n))=true:=QF λc ar=>by have:=xk ar;omega
theorem jt.eG{eG:aR}{p:Op}(r:jt hs ds bS ps eG ft h2 kc p):n1 eG:=by
 have k1:ox "net"=true:=by decide+kernel
 have k2:ox "ok"=true:=by decide+kernel
 have k3:ox "letter"=true:=by decide+kernel
 have oS:ox "house"=true:=by decide+kernel
 have k5:ox "road"=true:=by decide+kernel
 cases r with
 |LU=>exact .one k1
 |B9=>exact .two k2
 |NL=>exact .one k1
 |G2=>exact .two (Jd _)
 |MA=>exact .one k3
 |F'=>exact .two (Jd _)
 |OU=>exact .one oS
 |OV=>exact .one k5
 |OW=>exact .two k2
 |kf=>exact .two k2
theorem acE(o:Out):n1 (Au o):=by
 cases o with
 |ok aH=>
  refine .two (QF λc ar=>?_);rcases Iq ar with h|⟨p,ay,h⟩
  .rw[gW.mp h];decide
  .obtain⟨n,_,rfl⟩:=cw.mp ay;have:=xk h;omega
 |no=>exact .one (by decide+kernel)
theorem aa6(o:Option Nat):n1 [.aM true,.str (qh o)]:=by
 cases o with
 |none=>exact .two (by decide+kernel)
 |some m=>exact .two (Jd m)
section
variable{K:aQ}
theorem acF{eG:aR}(h:n1 eG){H:af}{Q:a4}(e:H l=some (.lst eG))(bB:H ea=some (.lst eG))(q:Q (.aM false) H):AG K true (.ref l) (.ref ea) H Q:=by obtain⟨ds,c,d,k⟩:=h.data (K:=K);refine⟨_,_,k H l e,k H ea bB,zd c (by omega),zd c (by omega),?_⟩;rw[GO _ c];exact q
theorem Sh{eG:aR}(h:n1 eG){H:af}{Q:a4}(e:H l=some (.lst eG))(bB:H ea=some (.lst eG))(q:Q (.aM true) H):AG K false (.ref l) (.ref ea) H Q:=by obtain⟨ds,c,d,k⟩:=h.data (K:=K);refine⟨_,_,k H l e,k H ea bB,zd c (by omega),zd c (by omega),?_⟩;rw[GO _ c];exact q
theorem aa7(ai:n1 fJ)(aj:n1 fy){H:af}{Q:a4}(e:H l=some (.lst [.ref a,.ref b]))(bB:H ea=some (.lst [.ref bR,.ref bI]))(aS:H a=some (.lst fJ))(Fm:H bR=some (.lst fJ))(dq:H b=some (.lst fy))(afy:H bI=some (.lst fy))(q:Q (.aM false) H):AG K true (.ref l) (.ref ea) H Q:=by
 obtain⟨ds,c,d,k⟩:=ai.data (K:=K);obtain⟨Bx,gY,ami,k2⟩:=aj.data (K:=K);have Kj:yn (.list [.list ds,.list Bx])=true:=by show rS [.list ds,.list Bx]=true;simp only[rS,c,gY,H7]
 have dd:pv (.list [.list ds,.list Bx])<=64:=by
  have:pv (.list [.list ds,.list Bx])=max (pv (.list ds)) (max (pv (.list Bx)) 0)+1:=by simp only[pv,ow]
  omega
 refine⟨_,_,.lst (aJ.of e) (.cons (k H a aS) (.cons (k2 H b dq) .nil)),.lst (aJ.of bB) (.cons (k H bR Fm) (.cons (k2 H bI afy) .nil)),zd Kj dd,zd Kj dd,?_⟩;rw[GO _ Kj];exact q
end
end c2
namespace b5
open PySem PySem.Spec PyProof.Rows ao
section
variable{X:bx}
inductive TB(xs:aR)(H:af)(Q:a4):Prop where
 |int (i:Int) (aT:xs=[.int i]) (aP:i.natAbs.log2<1920) (bh:Q (.str (bK (toString i))) H)
 |str (y:Str) (aT:xs=[.str y]) (aP:Q (.str y) H)
theorem υ:jc X (.type "str") TB:=by
 intro pins s σ H xs us Q I r h;rcases h with⟨i,rfl,hz,q⟩|⟨y,rfl,q⟩
 .obtain⟨u,rfl,t,rfl⟩:=vals1 r;exact ş hz ⟨.str _,H,I.tok _,⟨_,rfl⟩,q⟩
 .obtain⟨u,rfl,t,rfl⟩:=vals1 r;exact PySem.P.str_of_str ⟨.str y,H,I,⟨_,rfl⟩,q⟩
end
end b5
namespace c2
open PySem ao b5 cQ
section
variable{P:cA}{w:bU}{K:aQ}{mg:b9}{base:Heap}
noncomputable abbrev E_:Stmt:=top 127
noncomputable abbrev E6:List Str:=["_law_lines","_law_told","_law_house_here","_law_goal"]
noncomputable abbrev ae3:List Str:=["_law_lines","_law_told","_law_house_here","_law_goal","_law_found","_law_seen"]
theorem Eb:de ae3 E6 (cy E_):={}
inductive TC(vs:aR)(H:af)(Q:a4)(E:bP):Prop where
 |mk (b t:Addr) (hs:bt) (rs:c7) (ds:dc) (kvs:hA) (h g:Str) (aT:vs=[.ref b,.ref t,.str h,.str g]) (aP:H b=some (.lst (bM rs))) (bh:H t=some (.bV kvs)) (cf:hs.length<=12) (cP:gE H hs rs ds) (dM:yz kvs ds.length) (gk:ds.length<=40)
   (ic:∀l H',aB H H'->H' l=some (.lst (Au (kJ kvs hs ds g 13 h [h] [])))->Q (.ref l) H')
noncomputable def qd(aH:cx):List ao.V:=((aH.map cB).map S).map V.str
theorem ĥ(aH:cx)(i:Nat):qd aH++[.str (S (cB i))]=qd (aH++[i]):=by unfold qd;rw[fk,fk,fk];rfl
inductive ae4(Q:a4)(H:af)(hs:bt)(ds:dc)(kvs:hA)(b t gx gy:Addr)(h' g':Str)(m:Nat)(σ:ao.St)(cE:af):Prop where
 |mk (c:Str) (sn:ck) (aH:cx) (aT:σ=[some (.ref b),some (.ref t),some (.str c),some (.str g'),some (.ref gx),some (.ref gy)]) (aP:aB H cE) (bh:cE gx=some (.lst (qd aH))) (cf:cE gy=some (.lst (lz sn))) (cP:∀y∈sn,y∈h'::hs.map S) (dM:sn.Nodup)
   (gk:∀l H',aB H H'->H' l=some (.lst (Au (kJ kvs hs ds g' m c sn aH)))->Q (.ref l) H') (ic:m+sn.length=14) (qo:aH.length+1=sn.length) (Pm:∀k∈aH,k<40)
seal fl bl fM gc
theorem acG{f:Addr}(F:cz K "_law_route" "_law_route" E_ f fd)(B:eR mg):aK P w K mg base bq 1 f fd E6 TC:=by
 refine F.ok Eb (λcdv A outer s H vs Q E al h=>?_)
 .refine⟨_,(a9 (c8 (i:=4) Eb.aC rfl (ct rfl) (d5 aw))
   (a9 (c8 (i:=5) Eb.aC rfl (ct rfl) (d5 (ag (aa 2) aw)))
   (a9 (G0 jL (dG rm (aa 2) (aa 3) (dE _))
    (a9 (dH (uF (GG (gs al) (hE (ag (aa 2) (ag (aa 3) aw))) (aa 1))) (bg (cm (d5 (ag cv aw)))) dJ)
   (a9 (gZ (l5 rT tw tx qR (aa 4) (ag (iv qO (by rfl) B.str mZ (ag (nS (gs al) (aa 1) (hE (ag (aa 2) (ag (aa 3) aw))) (λ_ _=>rfl)) aw)) aw)))
   (a9 (c8 (i:=2) Eb.aC rfl (ct rfl) (cU fe (cU gr (aa 0) (nS (gs al) (aa 1) (hE (ag (aa 2) (ag (aa 3) aw))) (λ_ _=>rfl)) (λ_ _=>rfl)) bc (λ_ _=>rfl)))
   (a9 (dH (dG ux (aa 2) (aa 5) (by rfl)) (bg (cm (d5 (ag cv aw)))) dJ)
   (bg (gZ (l5 rT tw tx qR (aa 5) (ag (aa 2) aw)))))))))
   (bg (cm (d5 (ag iz (ag (l5 EE Sw Sx Ph cv (ag (aa 4) aw)) aw)))))))),?_⟩
  try dsimp only[gR,gQ]
  obtain⟨b,t,hs,rs,ds,kvs,h',g',rfl,ae,cO,cN,bQ,tab,pL,q⟩:=h;refine⟨ej _,λgx fB=>⟨_,rfl,(by show 1<=sizeLine;decide),λgy kL=>?_⟩⟩;have aW:=aZ (o:=.lst []) fB;have cK:=aZ (o:=.lst [V.str h']) kL;have w8:gy≠gx:=λz=>by rw[z,aE]at kL;cases kL
  have MM:H gy=none:=by rw[aV w8]at kL;exact kL
  refine⟨ae4 Q H hs ds kvs b t gx gy h' g',⟨13,h',[h'],[],rfl,aW.trans cK,cK _ _ aE,aE,λy cb=>?_,?_,q,rfl,rfl,λ_ z=>nomatch z⟩,?_⟩
  .rw[gW.mp cb];exact .head _
  .exact nu.mpr ⟨di,oq⟩
  rintro m σ cE ⟨c,sn,aH,rfl,az,bC,c5,sub,aC,q,hm,au,W4⟩;have ahG:sn.length<=13:=by have:=zp aC sub;rw[fV,cj]at this;omega
  obtain⟨m,rfl⟩:∃c4,m=c4+1:=⟨m-1,by omega⟩
  have aha:(lz sn).length=sn.length:=cj _;have B_:(qd aH).length=aH.length:=by unfold qd;rw[cj,cj,cj]
  refine⟨_,rfl,_,rfl,rfl,_,rfl,?_⟩;unfold kJ at q;by_cases sb:c=g'
  .rw[bO sb]at q;refine c3 (by rw[sb];simp) ⟨rfl,_,rfl,?_⟩;have NR:bK " "=S [32]:=by decide+kernel
   rw[NR];refine⟨S [32],gx,(aH.map cB).map S,rfl,rfl,aJ.of bC,?_,(by show 2<=sizeLine;decide),λl nl=>?_⟩
   .have:=Pk (λx:Str=>x.length) 10 ((aH.map cB).map S) λx ax=>by obtain⟨p,ay,rfl⟩:=cw.mp ax;obtain⟨n,aX,rfl⟩:=cw.mp ay;rw[dR];exact sI (A3 (W4 n aX) (by decide))
    rw[cj,cj,dR]at *;simp only[fV,x_];omega
   rw[PL];exact q l _ (az.trans (aZ nl)) aE
  rw[bz sb]at q;refine cY (by simp[sb]) ⟨_,λa' H' h=>⟨m,vO _,h⟩,?_⟩;refine⟨_,rfl,_,rfl,(by show 2<=sizeLine;decide),λr fS=>?_⟩;have rq:=aZ (o:=.tup [V.str c,V.str g']) fS;have n9:=az.trans rq;have wz:=rq _ _ bC;have ud:=rq _ _ c5;have y7:upd cE r (.tup [V.str c,V.str g']) r=some (.tup ((dy c g').map c0)):=aE;generalize upd cE r (.tup [V.str c,V.str g'])=H1 at rq n9 wz ud y7⊢;refine⟨_,rfl,t,_,rfl,gu.t (n9 _ _ cO) y7,_,rfl,?_⟩;rcases tab.get c g' with⟨aF,aG⟩|⟨i,aF,aG,hi⟩
  .rw[aG]at q;rw[aF];exact cY (by rfl) ⟨(by show 1<=sizeLine;decide),λl nl=>q l _ (n9.trans (aZ nl)) aE⟩
  .rw[aG]at q;rw[aF];refine c3 (by rfl) ?_;have VF:i<40:=by omega
   refine⟨_,rfl,.inl ⟨rfl,_,aJ.of wz⟩,_,rfl,_,rfl,_,rfl,(by show 2<=sizeLine;decide),λdV aia=>?_⟩;have Hj:=aZ (o:=.tup [V.str c,V.str g']) aia;have uS:=n9.trans Hj;have UT:=Hj _ _ wz;have BP:=Hj _ _ ud;have um:upd H1 dV (.tup [V.str c,V.str g']) dV=some (.tup ((dy c g').map c0)):=aE;generalize upd H1 dV (.tup [V.str c,V.str g'])=ah at Hj uS UT BP um⊢;refine⟨t,_,rfl,(by rw[<-aF];exact gu.t (uS _ _ cO) um),(i:Int),rfl,pP (by omega),gx,_,_,rfl,rfl,UT,en (by omega),?_⟩;rw[nW,ĥ];have WT:=fO (o:=.lst (qd (aH++[i]))) fB uS;have UU:upd ah gx (.lst (qd (aH++[i]))) gx=some (.lst (qd (aH++[i]))):=aE;have UX:upd ah gx (.lst (qd (aH++[i]))) gy=some (.lst (lz sn)):=by rw[aV w8];exact BP
   generalize upd ah gx (.lst (qd (aH++[i])))=aU at WT UU UX⊢;obtain⟨cT,eB⟩:∃cT,rs[i]?=some cT:=⟨_,dW (by rw[bQ.len];exact hi)⟩
   obtain⟨d,cV,Kp,nQ⟩:=bQ.get eB;have lR:tb hs ds i=S (hs.getD d.b []):=by unfold tb;rw[zO cV]
   have BD:ao.hD (bM rs) (i:Int)=some (.ref cT):=mV (by unfold bM;rw[d0,eB];rfl);refine⟨_,rfl,_,rfl,_,rfl,_,rfl,(by show 2<=sizeLine;decide),λp' aib=>?_⟩;have Hk:=aZ (o:=.tup [V.str c,V.str g']) aib;have zX:=WT.trans Hk;have UW:=Hk _ _ UU;have Fz:=Hk _ _ UX;have Vt:upd aU p' (.tup [V.str c,V.str g']) p'=some (.tup ((dy c g').map c0)):=aE;generalize upd aU p' (.tup [V.str c,V.str g'])=dx at Hk zX UW Fz Vt⊢;refine⟨t,_,rfl,(by rw[<-aF];exact gu.t (zX _ _ cO) Vt),b,_,_,_,rfl,rfl,aJ.of (zX _ _ ae),BD,cT,_,_,_,rfl,rfl,cG.of (zX _ _ nQ),rfl,?_⟩;simp only[lR]at q;have Cz:S (hs.getD d.b [])∈hs.map S:=cw.mpr ⟨_,getD_mem' Kp.b,rfl⟩;generalize S (hs.getD d.b [])=gY at q Cz⊢;refine⟨_,rfl,_,rfl,gy,_,rfl,.inl (aJ.of Fz),rfl,uy _,_,rfl,?_⟩;by_cases i9:gY∈sn
   .rw[bO i9]at q;exact cY (xc i9) ⟨(by show 1<=sizeLine;decide),λl nl=>q l _ (zX.trans (aZ nl)) aE⟩
   .rw[bz i9]at q;refine c3 (CB i9) ?_;refine⟨_,rfl,.inl ⟨rfl,_,aJ.of Fz⟩,_,rfl,gy,_,_,rfl,rfl,Fz,en (by omega),?_⟩;refine⟨gY,sn++[gY],aH++[i],rfl,fO MM zX,?_,?_,λy cb=>?_,Xo aC i9,q,?_,?_,λk aD=>?_⟩
    .rw[aV (d3 w8)];exact UW
    .rw[aE];unfold lz;rw[fk];rfl
    .rcases ip.mp cb with cb|cb
     .exact sub y cb
     .rw[gW.mp cb];exact .tail _ Cz
    .rw[eS];show m+(sn.length+1)=14;omega
    .rw[eS,eS];show aH.length+1+1=sn.length+1;omega
    .rcases ip.mp aD with aD|aD
     .exact W4 k aD
     .rw[gW.mp aD];exact VF
unseal fl bl fM gc
theorem Ħ{wi:el}{te:TE}{rest:ao.St}{H1:af}{Q:a4}{J:gm}{xs:aR}(hw:∀R:gm->af->Prop,R J H1->wi σ H R)(g0:h5 cs σ=none::rest)(qm:rY J H1 xs)(au:xs.length<sizeLine)(F:Addr->Nat->ao.V->af->Prop)(st:∀D i v ah aU,aB ah aU->F D i v ah->F D i v aU)(bZ:∀D i v ah zs,F D i v ah->F D i v (upd ah D (.lst zs)))(elt:∀(D:Addr)(i:Nat)(x:ao.V)(ah:af)(R:a4),xs[i]?=some x->aB H1 ah->H1 D=none->(∃ys,ah D=some (.lst ys))->(∀v b1,aB ah b1->F D i v b1->R v b1)->te (some x::rest) ah R)(fin:∀(D:Addr)(H':af)(vs:aR),H1 D=none->H' D=some (.lst vs)->vs.length=xs.length->(∀i v,vs[i]?=some v->F D i v H')->aB H1 H'->Q (.ref D) H'):o5 wi cs (jD 0) sY te σ H Q:=by
 refine hw _ λD bF=>?_;refine⟨λi m ys a' H'=>m=xs.length-i/\i<=xs.length/\(ys.length=i/\∀j v,ys[j]?=some v->F D j v H')/\(∃o,a'=o::rest)/\aB H1 H'/\H' D=some (.lst ys),⟨xs.length,by simp,ej _,⟨rfl,λj v e=>by simp at e⟩,⟨none,by rw[g0]⟩,aZ bF,aE⟩,?_⟩;rintro i m ys a' H' ⟨rfl,hi,⟨Pl,cb⟩,⟨o,rfl⟩,az,g_⟩;obtain⟨jj,m9,oe⟩:=qm H' az;refine⟨g_,qC (by omega) au,?_⟩;by_cases dw:i<xs.length
 .refine .inr ⟨m9 i dw,λx ah y=>?_⟩;obtain⟨rfl,ex⟩:=oe i x ah dw y;show te (some x::rest) ah _;refine elt D i x ah _ ex az bF ⟨ys,g_⟩ λv b1 dY a7=>⟨dY _ _ g_,xs.length-(i+1),by omega,rfl,dw,⟨by rw[eS,Pl];rfl,λj u e=>?_⟩,⟨_,rfl⟩,fO bF (az.trans dY),aE⟩
  refine bZ D j u b1 _ ?_;by_cases bu:j<ys.length
  .rw[El bu]at e;exact st D j u _ _ dY (cb j u e)
  .rw[è (by omega)]at e;have g8:j=i:=by
    by_cases hz:j-ys.length=0
    .omega
    .rw[ê (by simp;omega)]at e;cases e
   subst g8;rw[Pl,ě]at e;cases e;exact a7
 .have e:i=xs.length:=by omega
  subst e;exact .inl ⟨jj,fin D H' ys bF g_ Pl cb az⟩
theorem Zs{k1 k2:hA}(a:∀h g,b_ k1 (dy h g)=b_ k2 (dy h g))(n:Nat):∀(h:Str)(sn:ck)(aH:cx),kJ k1 hs ds g n h sn aH=kJ k2 hs ds g n h sn aH:=by
 induction n with
 |zero=>exactλ_ _ _=>rfl
 |succ n a5=>
  intro h sn aH;have e:u3 k1 h g=u3 k2 h g:=by unfold u3;rw[a]
  unfold kJ;rw[e];simp only[a5]
set_option genInjectivity false in
structure km where
 (x y am an bH eM ad:Addr)
 B:e'
noncomputable def vQ(X:km)(p:Addr):Prop:=p≠X.an/\p≠X.bH/\p≠X.eM
structure Apart(A:e')(X:km):Prop where
 a:vQ X A.bR
 b:vQ X A.bI
 l:vQ X A.l
 t:A.t≠X.ad
noncomputable def od(X:km)(H H':af):Prop:=∀b o,b≠X.an->b≠X.bH->b≠X.eM->b≠X.ad->H b=some o->H' b=some o
theorem He{H:af}{X:km}{ls cd:c7}{s:fL}(W:l' H ⟨X.an,X.bH,X.eM,X.ad,ls,cd⟩ s)(h:H p=none):vQ X p:=⟨(cI W.nm h).symm,(cI W.ln h).symm,(cI W.lt h).symm⟩
theorem od.lst{H H':af}{X:km}{ls cd:c7}{s:fL}(W:l' H ⟨X.an,X.bH,X.eM,X.ad,ls,cd⟩ s)(f:od X H H')(n:vQ X p)(h:H p=some (.lst l)):H' p=some (.lst l):=f _ _ n.1 n.2.1 n.2.2 (ao.f9 h W.c1 (by intro z;cases z)) h
theorem od.aim{H H':af}{X:km}{ls cd:c7}{s:fL}(W:l' H ⟨X.an,X.bH,X.eM,X.ad,ls,cd⟩ s)(f:od X H H')(cn:∀l,o≠.lst l)(cC:∀k,o≠.bV k)(h:H p=some o):H' p=some o:=f _ _ (ao.f9 h W.nm (cn _)) (ao.f9 h W.ln (cn _)) (ao.f9 h W.lt (cn _)) (ao.f9 h W.c1 (cC _)) h
theorem Si{H H':af}(k:∀b l,H b=some (.tup l)->H' b=some (.tup l)):∀{bS:vX}{xs:aR},dQ H xs (bS.map l6)->dQ H' xs (bS.map l6)
 |[],_,h=>by cases h;exact .nil
 |d::r,_,h=>by
  cases h with
  |cons a b=>
  refine .cons ?_ (Si k b);unfold l6 at a⊢;cases a with
  |tup h z t=>
  refine .tup (k _ _ h) z ?_;cases t with
  |cons a1 t=>
  cases t with
  |cons a2 t=>
  cases t with
  |cons fN t=>
  cases t;cases a1 with
  |str _ aT iZ=>
  cases a2;cases fN with
  |str _ bh Gs=>
  exact .cons (.str _ aT iZ) (.cons (.int _) (.cons (.str _ bh Gs) .nil))
theorem e7.own{A:e'}{s s':fL}{X:km}{ls cd:c7}(D:e7 a6 CW a3 H y A s)(W:l' H ⟨X.an,X.bH,X.eM,X.ad,ls,cd⟩ s')(f:od X H H')(ap:Apart A X):e7 a6 CW a3 H' y A s:=by
 have F8:∀{p:Addr}{o:hN},(∀l,o≠.lst l)->(∀k,o≠.bV k)->H p=some o->H' p=some o:=λcn cC h=>od.aim W f cn cC h;have VL:∀b l,H b=some (.tup l)->H' b=some (.tup l):=λb l h=>F8 (λ_=>nofun) (λ_=>nofun) h;obtain⟨dp,cb⟩:=D.dK.ins;obtain⟨gP,aX⟩:=D.dK.hb.ins;refine⟨F8 (λ_=>nofun) (λ_=>nofun) D.ins,⟨⟨dp,F8 (λ_=>nofun) (λ_=>nofun) cb⟩,⟨⟨gP,F8 (λ_=>nofun) (λ_=>nofun) aX⟩,od.lst W f ap.a D.dK.hb.wH,od.lst W f ap.b D.dK.hb.p_⟩,?_⟩,⟨fH.oW D.g5.fi λ_ _ e=>VL _ _ e,D.g5.ok⟩,?_⟩
 .exact f _ _ (ao.f9 D.dK.told W.nm (by intro z;cases z)) (ao.f9 D.dK.told W.ln (by intro z;cases z)) (ao.f9 D.dK.told W.lt (by intro z;cases z)) ap.t D.dK.told
 .have au:=D.lt;cases au with
  |lst h z t=>exact .lst (od.lst W f ap.l h) z (Si VL t)
theorem om.Hq{A:e'}{s:fL}(D:e7 a6 CW a3 H x A s)(k:om x A.t H H'):rn H H':=λb o to e=>k b o (λz=>to.1 _ _ _ _ _ (fG (e.symm.trans ((ek H z).trans D.ins)))) (λz=>to.2 _ (fG (e.symm.trans ((ek H z).trans D.dK.told)))) e
theorem l'.b3{A:e'}{s s':fL}{O:Ez}(W:l' H O s')(D:e7 a6 CW a3 H x A s)(k:om x A.t H H')(n:O.ad≠A.t):l' H' O s':=by have st:=om.Hq D k;exact⟨st _ _ q0 W.nm,st _ _ q0 W.ln,W.eQ.hL st,st _ _ q0 W.lt,W.h7.hL st,k _ _ (ao.f9 W.c1 D.ins (by intro z;cases z)) n W.c1,W.cn,W.cC,W.fB⟩
theorem e7.b3{A B:e'}{s s':fL}(E:e7 a6 CW a3 H y B s')(D:e7 a6 CW a3 H x A s)(k:om x A.t H H')(n:y≠x)(m:B.t≠A.t):e7 a6 CW a3 H' y B s':=by have st:=om.Hq D k;obtain⟨dp,cb⟩:=E.dK.ins;exact⟨k _ _ n (ao.f9 E.ins D.dK.told (by intro z;cases z)) E.ins,⟨⟨dp,st _ _ CU cb⟩,E.dK.hb.hL st,k _ _ (ao.f9 E.dK.told D.ins (by intro z;cases z)) m E.dK.told⟩,E.g5.hL st,E.lt.hL st⟩
theorem Apart.sH{X:km}{ls cd:c7}{s:fL}{A eh:e'}(W:l' H ⟨X.an,X.bH,X.eM,X.ad,ls,cd⟩ s)(ap:Apart A X)(n:mD H A eh):Apart eh X:=by
 refine⟨?_,?_,?_,?_⟩
 .rcases n.a with e|e
  .rw[e];exact ap.a
  .exact He W e
 .rcases n.b with e|e
  .rw[e];exact ap.b
  .exact He W e
 .rcases n.l with e|e
  .rw[e];exact ap.l
  .exact He W e
 .rcases n.t with e|e
  .rw[e];exact ap.t
  .exact(cI W.c1 e).symm
theorem j1.tab{s:fL}(k:j1 s){aA:List Row}(T:gG s.hs s.ds aA):j1 ⟨s.hs,s.ds,s.bS,aA⟩:=⟨k.g,k.cN,T,k.gg,k.lf,k.lk⟩
structure oo(a6 CW a3:Addr)(X:km)(az:bt)(H:af)(A:e')(ls cd:c7)(s:fL)(j0:List Row):Prop where
 own:l' H ⟨X.an,X.bH,X.eM,X.ad,ls,cd⟩ s
 Bw:e7 a6 CW a3 H X.x A ⟨s.hs,s.ds,s.bS,j0⟩
 ok:j1 s
 aH:gG s.hs s.ds j0
 bH:∀h g,b_ (b8 s.aA) (dy h g)=b_ (b8 j0) (dy h g)
 ap:Apart A X
 Kb:Apart X.B X
 sub:∀z∈s.hs,z∈az
 Fd:e7 a6 CW a3 H X.y X.B ⟨[],[],[],[]⟩
 xN:X.y≠X.x
 d6:X.B.t≠A.t
 hm:H X.am=some (.lst (bY az))
 nm:vQ X X.am
theorem oo.Ko{X:km}{A:e'}{s:fL}{j0:List Row}(L:oo a6 CW a3 X az H A ls cd s j0)(f:od X H H1):e7 a6 CW a3 H1 X.x A ⟨s.hs,s.ds,s.bS,j0⟩:=L.Bw.own L.own f L.ap
theorem oo.step{X:km}{az:bt}{A eh:e'}{s:fL}{j0 gz z2:List Row}{eG:aR}{ft:bt}{p:Op}(L:oo a6 CW a3 X az H A ls cd s j0)(Cr:az.length=6)(r:jt s.hs s.ds s.bS ps eG ft h2 kc p)(eE:∀x∈ft,x∈s.hs\/x∈az)(T:gG ft h2 gz)(to:p.to ft h2 s.aA gz)(f:od X H H1)(W:l' H1 ⟨X.an,X.bH,X.eM,X.ad,Cu,kS⟩ ⟨ft,h2,kc,gz⟩)(k:om X.x A.t H1 ah)(sH:mD H1 A eh)(dP:e7 a6 CW a3 ah X.x eh ⟨ft,h2,kc,z2⟩)(k4:gG ft h2 z2)(Om:p.to ft h2 j0 z2):oo a6 CW a3 X az ah eh Cu kS ⟨ft,h2,kc,gz⟩ z2:=by
 have hh:=L.Ko f;have st:=om.Hq hh k;have sub:∀z∈ft,z∈az:=λz hz=>(eE z hz).elim (L.sub z) id;have gg:ft.length<=7:=by have:=zp (r.good L.ok.g L.ok.gg).aC sub;omega
 have s9:e7 a6 CW a3 H1 X.y X.B ⟨[],[],[],[]⟩:=L.Fd.own L.own f L.Kb;refine⟨W.b3 hh k L.ap.t.symm,dP,r.ahD L.ok gg T,k4,Op.alike L.bH to Om,L.ap.sH W sH,L.Kb,sub,s9.b3 hh k L.xN L.d6,L.xN,?_,st _ _ q0 (od.lst L.own f L.nm L.hm),L.nm⟩;rcases sH.t with e|e
 .rw[e];exact L.d6
 .exact cI s9.dK.told e
theorem oo.same{X:km}{A:e'}{s:fL}{j0:List Row}(L:oo a6 CW a3 X az H A ls cd s j0)(f:aB H H1):oo a6 CW a3 X az H1 A ls cd s j0:=⟨L.own.same f,L.Bw.same f,L.ok,L.aH,L.bH,L.ap,L.Kb,L.sub,L.Fd.same f,L.xN,L.d6,f _ _ L.hm,L.nm⟩
theorem QG(a b:cx):bK "far "++S a++bK " "++S b=gH [x3,a,b]:=by
 have aF:bK "far "=S (x3++[32]):=by decide+kernel
 have aG:bK " "=S [32]:=by decide+kernel
 rw[aF,aG];unfold gH;simp only[sM,eO,qx]
theorem φ(a b:cx):bK "route "++S a++bK " "++S b=gH [z7,a,b]:=by
 have aF:bK "route "=S (z7++[32]):=by decide+kernel
 have aG:bK " "=S [32]:=by decide+kernel
 rw[aF,aG];unfold gH;simp only[sM,eO,qx]
theorem aaX:bK "run"=gH [A8]:=by decide+kernel
end
theorem oo.wm{K:aQ}{X:km}{H:af}{A:e'}{s:fL}{j0:List Row}(L:oo a6 CW a3 X az H A ls cd s j0){g:cx}{Q:a4}(q:∀p H' kvs(D:hP),H p=none->aB H H'->H' p=some (.cF kvs)->Tab kvs D->pa D 5000->(g∈s.hs->D=toD s.hs s.ds (S g))->Q (.ref p) H'):HY K [.ref X.bH,.ref X.an,.str (S g)] H Q E:=by
 have gg:=L.ok.gg;by_cases bp:g∈s.hs
 .exact⟨X.bH,X.an,bY s.hs,s.hs,ls,s.ds,S g,rfl,aJ.of L.own.ln,aJ.of L.own.nm,L.own.eQ,by omega,m4.mpr bp,by rw[q4];omega,L.ok.cN,λp H' kvs D np az ay T bd e=>q p H' kvs D np az ay T bd λ_=>e (q4 _)⟩
 .exact⟨X.bH,X.an,bY s.hs,s.hs++[g],ls,s.ds,S g,rfl,aJ.of L.own.ln,aJ.of L.own.nm,L.own.eQ.r' [g],by rw[eS];show s.hs.length+1<=13;omega,m4.mpr (my _ (.head _)),by rw[q4];omega,L.ok.cN,λp H' kvs D np az ay T bd e=>q p H' kvs D np az ay T bd λz=>bk z bp⟩
theorem aaY{kvs:List (bb×ao.V)}{D:hP}(T:Tab kvs D)(bd:pa D 5000)(k:Str){Q:a4}(q:Q (.str (qh ((D k).map vD))) H):TB [(b_ kvs (dC k:bb)).getD (.str (bK "-"))] H Q:=by
 rw[T.at_];cases e:D k with
 |none=>
  rw[e]at q;exact .str _ rfl q
 |some v=>
  obtain⟨kt,iP⟩:=bd k v e;obtain⟨m,rfl⟩:=Ed kt;rw[e]at q;refine .int (m:Int) rfl (pP (by omega)) ?_;rw[nW];exact q
theorem ħ{K:aQ}{du:TE}{te:TE}{rest:ao.St}{H:af}{Q:a4}{xs:aR}(ax:∀R:a4,(∀dv,H dv=none->R (.ref dv) (upd H dv (.tup xs)))->du σ H R)(g0:h5 cs σ=none::rest)(au:xs.length<sizeLine)(F:Addr->Nat->ao.V->af->Prop)(st:∀D i v ah aU,aB ah aU->F D i v ah->F D i v aU)(bZ:∀D i v ah zs,F D i v ah->F D i v (upd ah D (.lst zs)))(elt:∀(D:Addr)(i:Nat)(x:ao.V)(ah:af)(R:a4),xs[i]?=some x->aB H ah->(∃ys,ah D=some (.lst ys))->(∀v b1,aB ah b1->F D i v b1->R v b1)->te (some x::rest) ah R)(fin:∀(D:Addr)(H':af)(vs:aR),H' D=some (.lst vs)->vs.length=xs.length->(∀i v,vs[i]?=some v->F D i v H')->aB H H'->Q (.ref D) H'):o5 (TL K du) cs (jD 0) sY te σ H Q:=by
 refine ax _ λdv uE=>⟨dv,rfl,⟨_,cG.of aE⟩,?_⟩
 have dY:aB H (upd H dv (.tup xs)):=aZ uE;have pU:upd H dv (.tup xs) dv=some (.tup xs):=aE;exact Ħ (wi:=λ_ _ R=>R (AA K dv) (upd H dv (.tup xs))) (cs:=cs) (te:=te) (σ:=σ) (rest:=rest) (H:=H) (H1:=upd H dv (.tup xs)) (Q:=Q) (J:=AA K dv) (xs:=xs) (λR h=>h) g0 (abS (cG.of pU) λH' az=>cG.of (az _ _ pU)) au F st bZ (λD i x ah R ex az _ bF bG=>elt D i x ah R ex (dY.trans az) bF bG) (λD H' vs _ bF lv qT az=>fin D H' vs bF lv qT (dY.trans az))
set_option maxHeartbeats 8000000
section
variable{P:cA}{w:bU}{K:aQ}{mg:b9}{base:Heap}
noncomputable abbrev x5:Stmt:=top 134
noncomputable abbrev acH:List Str:=["_law_script","_law_desk","_law_beside","_law_some","_law_base","_law_names","_law_lines","_law_letters","_law_told","_law_cell","_law_row_here","_law_due","_law_goal","_law_far","_law_house_here"]
theorem kG:de acH ["_law_script"] (cy x5):={}
inductive Γ(a6 CW a3:Addr)(X:km)(az:bt)(a ps:Addr)(bs:Nat)(cells:aR)(_:Nat)(σ:ao.St)(H:af):Prop where
 |mk (A:e') (ls cd:c7) (s:fL) (j0:List Row) (lC v10 v11:ju) (aT:σ=[some (.ref a),some (.ref X.x),some (.ref X.y),some (.ref X.am),some (.int bs),some (.ref X.an),some (.ref X.bH),some (.ref X.eM),some (.ref X.ad),lC,v10,v11,none,none,none]) (aP:oo a6 CW a3 X az H A ls cd s j0) (bh:H ps=some (.lst cells))
inductive Δ(X:km)(tj:af)(a:Addr)(bs:Nat)(_:Nat)(σ:ao.St)(H:af):Prop where
 |mk (lC v10 v11 HF HG sU:ju) (aT:σ=[some (.ref a),some (.ref X.x),some (.ref X.y),some (.ref X.am),some (.int bs),some (.ref X.an),some (.ref X.bH),some (.ref X.eM),some (.ref X.ad),lC,v10,v11,HF,HG,sU]) (aP:aB tj H)
inductive Ri(X:km)(tj:af)(a p:Addr)(bs:Nat)(g:cx)(_:Nat)(σ:ao.St)(H:af):Prop where
 |mk (lC v10 v11 sU:ju) (aT:σ=[some (.ref a),some (.ref X.x),some (.ref X.y),some (.ref X.am),some (.int bs),some (.ref X.an),some (.ref X.bH),some (.ref X.eM),some (.ref X.ad),lC,v10,v11,some (.str (S g)),some (.ref p),sU]) (aP:aB tj H)
theorem ae5:j1 ⟨[],[],[],[]⟩:=⟨⟨λ_ z=>bk z di,oq,ej _⟩,ej _,⟨oq,R_ _,λ_ z=>bk z di⟩,ej _,ej _,λ_ z=>bk z di⟩
theorem Sj{az:bt}{j:Nat}(e:(bY az)[j]?=some v):∃g∈az,v=.str (S g):=by unfold bY at e;rw[d0]at e;obtain⟨g,tZ,rfl⟩:=iq.mp e;exact⟨g,f_ tZ,rfl⟩
seal fl bl fM gc
theorem acI{f:Addr}{R:ny}{Qh:xS}(F:cz K "law" "law" x5 f fd)(B:eR mg)(SC:x4 K R dA d4 Qh)(kp:AE K gq cs e0 dz gb eZ eL)(zR:mg "Desk"=some (.ref a6))(Qz:ou K a6 qQ)(ub:nk K a6 "Desk.__init__" G6 fD qQ BI)(Xd:aK P w K mg base bq 7 qQ BI fD (T' a6 CW a3))(pG:bX K mg "_law_cell_at" G5 yg gF afP)(Wn:aK P w K mg base bq 1 gF afP yg (TV K))(tR:bX K mg "_law_houses" GV AQ afT afQ)(aj6:aK P w K mg base bq 1 afT afQ AQ XU)(uv:bX K mg "_law_row" E9 E' f1 dN)(Zt:aK P w K mg base bq 3 f1 dN E' TA)(ku:bX K mg "_law_said" Hc AO f2 eU)(Gh:aK P w K mg base bq 10 f2 eU AO (x9 K a6 gq cs (Ah K R dA d4 (mr a6 CW a3 e0 eZ dz gb eL Qh))))(nE:bX K mg "_law_fars" As vK cS jQ)(Nw:aK P w K mg base bq 1 cS jQ vK (HY K))(t5:bX K mg "_law_route" E_ E6 f4 wo)(akp:aK P w K mg base bq 1 f4 wo E6 TC):
  aK P w K mg base bq 11 f fd ["_law_script"] (D6 K):=by
 refine F.ok kG (λcdv A outer s H vs Q E al h=>?_)
 .refine⟨_,(a9 (c8 (i:=1) kG.aC rfl (qE rfl) (Yh Qz Xd al.mono (by rfl) zR ub.bd .nil cJ))
   (a9 (c8 (i:=2) kG.aC rfl (ct rfl) (Yh Qz Xd al.mono (by rfl) zR ub.bd .nil cJ))
   (a9 (c8 (i:=3) kG.aC rfl (ct rfl) (dB aj6 al.mono (by rfl) tR.at_ tR.fn.b3 tR.bd .nil cJ (ag (dB Wn al.mono (by rfl) pG.at_ pG.fn.b3 pG.bd .nil cJ (ag (aa 0) (ag bc aw))) (ag bc aw))))
   (a9 (c8 (i:=4) kG.aC rfl (ct rfl) (b7 jR (dB Wn al.mono (by rfl) pG.at_ pG.fn.b3 pG.bd .nil cJ (ag (aa 0) (ag bc aw))) (b7 oU (b7 HP bc bc) bc)))
   (a9 (c8 (i:=5) kG.aC rfl (ct rfl) (d5 aw))
   (a9 (c8 (i:=6) kG.aC rfl (ct rfl) (d5 aw))
   (a9 (c8 (i:=7) kG.aC rfl (ct rfl) (d5 aw))
   (a9 (c8 (i:=8) kG.aC rfl (ct rfl) PA)
   (a9 (j6 jL rfl (hU (OL Qu (aa 0) (Hx bc) (Hx bc))) (eo (i:=9) kG.aC rfl (ct rfl))
    (a9 (abq (dB Zt al.mono (by rfl) uv.at_ uv.fn.b3 uv.bd .nil cJ (ag (aa 3) (ag (aa 5) (ag (aa 6) (ag (aa 7) (ag (aa 8) (ag (aa 4) (ag (b7 jR (b7 Dz (aa 9) bc) bc) aw)))))))) (Ih rfl (oK (eo (i:=10) kG.aC rfl (ct rfl)) (oK (eo (i:=11) kG.aC rfl (ct rfl)) zJ))))
   (bg (dH (dG (Ik al.units) (dB Gh al.mono (by rfl) ku.at_ ku.fn.b3 ku.bd .nil cJ (ag (aa 1) (ag (aa 10) aw))) (aa 11) (dE _)) (bg (cm iz)) dJ))))
   (a9 (j6 jL rfl (hU (aa 3)) (eo (i:=12) kG.aC rfl (qE rfl))
    (a9 (c8 (i:=13) kG.aC rfl (ct rfl) (dB Nw al.mono (by rfl) nE.at_ nE.fn.b3 nE.bd .nil cJ (ag (aa 6) (ag (aa 5) (ag (aa 12) aw)))))
   (bg (j6 jL rfl (hU (aa 3)) (eo (i:=14) kG.aC rfl (qE rfl))
    (a9 (c8 (i:=11) kG.aC rfl (ct rfl) (d5 (ag (d5 (ag iz (ag (iv υ (by rfl) B.str mZ (ag (Å (gs al) (aa 13) (aa 14) cv ⟨rfl,rfl,rfl,rfl⟩) aw)) aw))) (ag (dB akp al.mono (by rfl) t5.at_ t5.fn.b3 t5.bd .nil cJ (ag (aa 6) (ag (aa 8) (ag (aa 14) (ag (aa 12) aw))))) aw))))
   (a9 (dH (hl.pt (jb (dG tX (aa 14) (aa 5) (by rfl)) (kz (dG tX (aa 12) (aa 5) (by rfl))))) (bg (c8 (i:=11) kG.aC rfl (ct rfl) (d5 (ag (d5 (ag cv aw)) (ag (d5 (ag cv aw)) aw))))) dJ)
   (bg (dH (dG (Ik al.units) (lq (N':=["_law_word","_law_desk","_law_goal","_law_house_here"]) (cs:=[none,some 1,some 12,some 14]) rfl (abt (hE (ag cv (ag cv aw)))) rfl (by decide+kernel) rfl (by decide+kernel) (jy (dj.mpr ⟨rfl,(dj.mpr ⟨rfl,(dj.mpr ⟨rfl,(λp ay=>bk ay (di))⟩)⟩)⟩)) rfl
    (.own (.mM rfl (.inl rfl) (.inl rfl) rfl (.mM rfl (.inl rfl) (.inl rfl) rfl (.mM rfl (.inl rfl) (.inl rfl) rfl .nil))))
    (λC aW aU b0 ez=>⟨(eo (i:=0) (by show(["_law_word","_law_desk","_law_goal","_law_house_here"]:ck).Nodup;decide+kernel) rfl (.inl rfl)),lg,(dB Gh al.mono (by rfl) ku.at_ ku.fn.b3 ku.bd .nil cJ (ag (aa 1) (ag (b7 g6 (b7 g6 (b7 g6 (aa 0) (aa 3)) cv) (aa 2)) aw)))⟩)) (aa 11) (dE _)) (bg (cm iz)) dJ))))))))
   (bg (cm (hF (jP (Ru al.units) (dB Gh al.mono (by rfl) ku.at_ ku.fn.b3 ku.bd .nil cJ (ag (aa 2) (ag cv aw))) (d5 (ag iz (ag cv aw))) (dE _)) (kA (jP (Ru al.units) (dB Gh al.mono (by rfl) ku.at_ ku.fn.b3 ku.bd .nil cJ (ag (aa 2) (ag (b7 g6 (b7 g6 (b7 g6 cv (cU gr (aa 3) bc (λ_ _=>rfl))) cv) (cU gr (aa 3) bc (λ_ _=>rfl))) aw))) (d5 (ag cv aw)) (dE _)))))))))))))))),?_⟩
  try dsimp only[gR,gQ]
  refine cut λcu bT=>?_;obtain⟨a,ns,rfl,ee,B7,q⟩:=h
  refineλx ak cp zD aih=>⟨x,ak,rfl,aE,λH1 A Ks ahW k1 hh=>⟨rfl,?_⟩⟩
  have s1:aB H H1:=λb o e=>k1 b o (cI e cp) ((fO cp (aZ zD)) _ _ e);clear k1 ahW Ks;refine f7 cu bT λcu bT=>?_
  refineλy dp hW w9 Wk=>⟨y,dp,rfl,aE,λah B afx VX k2 kl=>⟨rfl,?_⟩⟩
  have NO:aB H1 (upd (upd H1 dp (.own y)) y (.ins a6 dp [])):=fO hW (aZ w9);have s2:aB H1 ah:=λb o e=>k2 b o (cI e hW) (NO _ _ e);have d6:B.t≠A.t:=(cI hh.dK.told (e4 NO VX)).symm;have xN:y≠x:=(cI hh.ins hW).symm;have hh:=hh.same s2;clear k2 VX afx NO;have BV:=(s1.trans s2).seq ee;refine f7 cu bT λcu bT=>?_;refine⟨_,rfl,a,ns,0,rfl,BV,by decide,ns.getD (0:Int).toNat 0,6,rfl,by decide,λam aU aoz aW hm=>?_⟩;obtain⟨az,Fo⟩:∃az,az=sC (ns.getD (0:Int).toNat 0) 6:=⟨_,rfl⟩
  have Cr:az.length=6:=by rw[Fo,Nu]
  have sG:∀z∈az,fF z:=by rw[Fo];exact(akf (by decide)).nm
  rw[<-Fo]at hm;clear Fo;have hh:=hh.same aW;have kl:=kl.same aW;have BW:=aW.seq BV;refine f7 cu bT λcu bT=>?_;refine⟨_,rfl,a,ns,1,rfl,BW,by decide,_,_,rfl,rfl,⟨by decide,by decide,by decide⟩,_,_,rfl,rfl,_,_,rfl,rfl,(by show(0:Int)<10 ^ (9:Int).toNat+1;decide),?_⟩;obtain⟨bs,Uw,Ub⟩:∃bs:Nat,ns.getD (1:Int).toNat 0%(10 ^ (9:Int).toNat+1)=(bs:Int)/\bs<=1000000000:=by
   have f0:0<=ns.getD (1:Int).toNat 0%(10 ^ (9:Int).toNat+1):=lF _ (by decide);have f1:ns.getD (1:Int).toNat 0%(10 ^ (9:Int).toNat+1)<10 ^ (9:Int).toNat+1:=qv _ (by decide);have e:(10:Int) ^ (9:Int).toNat+1=1000000001:=by decide
   rw[e]at f0 f1⊢;exact⟨_,(vE f0).symm,by omega⟩
  rw[Uw];clear Uw;refine f7 cu bT λcu bT=>?_;refine⟨ej _,λan nan=>?_⟩;refine f7 cu bT λcu bT=>?_;refine⟨ej _,λbH oY=>?_⟩;refine f7 cu bT λcu bT=>?_;refine⟨ej _,λeM uC=>?_⟩;refine f7 cu bT λcu bT=>?_
  refineλad zA=>?_
  have cK:aB aU (upd (upd (upd (upd aU an (.lst [])) bH (.lst [])) eM (.lst [])) ad (.bV [])):=(aZ nan).trans ((aZ oY).trans ((aZ uC).trans (aZ zA)));have U6:upd (upd (upd (upd aU an (.lst [])) bH (.lst [])) eM (.lst [])) ad (.bV []) an=some (.lst []):=aZ zA _ _ (aZ uC _ _ (aZ oY _ _ aE));have yZ:upd (upd (upd (upd aU an (.lst [])) bH (.lst [])) eM (.lst [])) ad (.bV []) bH=some (.lst []):=aZ zA _ _ (aZ uC _ _ aE);have U5:upd (upd (upd (upd aU an (.lst [])) bH (.lst [])) eM (.lst [])) ad (.bV []) eM=some (.lst []):=aZ zA _ _ aE;have yY:upd (upd (upd (upd aU an (.lst [])) bH (.lst [])) eM (.lst [])) ad (.bV []) ad=some (.bV []):=aE;have cn:an≠bH:=cI (H:=upd aU an (.lst [])) aE oY;have cC:an≠eM:=cI (aZ oY _ _ (aE (H:=aU) (o:=.lst []))) uC;have fB:bH≠eM:=cI (H:=upd (upd aU an (.lst [])) bH (.lst [])) aE uC;have V2:aU bH=none:=e4 (aZ nan) oY;have V1:aU eM=none:=e4 ((aZ nan).trans (aZ oY)) uC;have V0:aU ad=none:=e4 ((aZ nan).trans ((aZ oY).trans (aZ uC))) zA;have CO:∀{p:Addr}{o:hN},aU p=some o->p≠an/\p≠bH/\p≠eM:=λh=>⟨cI h nan,cI h V2,cI h V1⟩
  have Kc:∀{y:Addr}{A:e'},e7 a6 CW a3 aU y A ⟨[],[],[],[]⟩->∀(x y am:Addr)(B:e'),Apart A ⟨x,y,am,an,bH,eM,ad,B⟩:=λD x y am B=>by
   have au:=D.lt;cases au with
   |lst h z t=>exact⟨CO D.dK.hb.wH,CO D.dK.hb.p_,CO h,cI D.dK.told V0⟩
  have L:oo a6 CW a3 ⟨x,y,am,an,bH,eM,ad,B⟩ az (upd (upd (upd (upd aU an (.lst [])) bH (.lst [])) eM (.lst [])) ad (.bV [])) A [] [] ⟨[],[],[],[]⟩ []:=
   ⟨⟨U6,yZ,Ow [],U5,.nil,yY,cn,cC,fB⟩,hh.same cK,⟨⟨λ_ z=>bk z di,oq,ej _⟩,ej _,⟨oq,R_ _,λ_ z=>bk z di⟩,ej _,ej _,λ_ z=>bk z di⟩,⟨oq,R_ _,λ_ z=>bk z di⟩,λ_ _=>rfl,Kc hh _ _ _ _,Kc kl _ _ _ _,λ_ z=>bk z di,kl.same cK,xN,d6,cK _ _ hm,CO hm⟩
  have Lh:=cK.seq BW;clear U6 yZ U5 yY cn cC fB V2 V1 V0 CO Kc;refine f7 cu bT λcu bT=>?_;show ht _ _ _ _ (upd (upd (upd (upd aU an (.lst [])) bH (.lst [])) eM (.lst [])) ad (.bV []));generalize upd (upd (upd (upd aU an (.lst [])) bH (.lst [])) eM (.lst [])) ad (.bV [])=dx at L Lh⊢;clear nan oY uC zA cK hm hh kl BW BV aW s2 s1;generalize Uv:(⟨x,y,am,an,bH,eM,ad,B⟩:km)=X at L;obtain⟨rfl,rfl,rfl,rfl,rfl,rfl,rfl⟩:x=X.x/\y=X.y/\am=X.am/\an=X.an/\bH=X.bH/\eM=X.eM/\ad=X.ad:=by rw[<-Uv];exact⟨rfl,rfl,rfl,rfl,rfl,rfl,rfl⟩
  clear Uv;refine⟨_,rfl,1,rfl,51,rfl,a,_,rfl,Lh,λps Wh=>⟨ps,rfl,⟨_,aJ.of aE⟩,?_⟩⟩;obtain⟨cells,Ku⟩:∃cells,cells=vb (ns.map V.int) (some 1) (some 51):=⟨_,rfl⟩
  rw[<-Ku];have VJ:∀v∈cells,∃c:Int,v=.int c:=λv a7=>by rw[Ku]at a7;unfold vb at a7;obtain⟨c,_,e⟩:=cw.mp (ð (ñ a7));exact⟨c,e.symm⟩
  clear Ku;have CK:vQ X ps:=He L.own Wh;refine oL (K:=K) (a:=ps) (xs:=cells) (Γ a6 CW a3 X az a ps bs cells) ⟨A,[],[],⟨[],[],[],[]⟩,[],none,none,none,rfl,L.same (aZ Wh),aE⟩ (λj σ jo _⟨_,_,_,_,_,_,_,_,_,_,h⟩=>aJ.of h) ?_ ?_
  .clear L bT;rintro j v σ jo ev ⟨A,ls,cd,s,j0,lC,v10,v11,rfl,L,ag6⟩;obtain⟨c,rfl⟩:=VJ v (f_ ev);refine⟨_,rfl,_,rfl,_,rfl,_,rfl,_,rfl,_,rfl,_,rfl,_,_,rfl,rfl,.inr ⟨by decide,by decide⟩,_,_,rfl,rfl,by decide,X.am,az,⟨X.an,X.bH,X.eM,X.ad,ls,cd⟩,s,bs,_,rfl,L.hm,Cr,sG,L.own,L.ok,lF _ (by decide),Ub,λaoJ eG ft h2 kc p Cu kS gz v H1 r eE T to fr W dS=>?_⟩;obtain⟨t,l,aF,aG⟩:=dS;refine⟨t,_,rfl,cG.of aF,rfl,_,_,rfl,_,_,rfl,rfl,?_⟩;refine⟨_,rfl,_,rfl,aa5 (s:=⟨s.hs,s.ds,s.bS,j0⟩) SC kp r (L.Ko fr) (L.ok.tab L.aH) λea ah eh z2 k sH dP k4 Om fR=>?_⟩;have st:=om.Hq (L.Ko fr) k;refine⟨_,rfl,acF r.eG fR (st _ _ q0 aG) ⟨_,rfl,c3 rfl ?_⟩⟩;exact⟨eh,Cu,kS,⟨ft,h2,kc,gz⟩,z2,_,_,_,rfl,L.step Cr r eE T to fr W k sH dP k4 Om,st _ _ q0 (od.lst L.own fr CK ag6)⟩
  .rintro σ b1 ⟨A,ls,cd,s,j0,lC,v10,v11,rfl,L,_⟩;clear CK VJ Lh;refine f7 cu bT λcu bT=>?_;refine⟨_,rfl,X.am,rfl,⟨_,aJ.of L.hm⟩,?_⟩;refine oL (K:=K) (a:=X.am) (xs:=bY az) (Δ X b1 a bs) ⟨lC,v10,v11,none,none,none,rfl,aB.refl _⟩ (λj σ jo _⟨_,_,_,_,_,_,_,h⟩=>aJ.of (h _ _ L.hm)) ?_ ?_
   .clear bT lC v10 v11;rintro j v σ jo ev ⟨lC,v10,v11,HF,HG,sU,rfl,n7⟩;obtain⟨g,bp,rfl⟩:=Sj ev;have RP:=L.same n7;refine cut λjs Bz=>?_;refine⟨_,rfl,_,rfl,_,rfl,RP.wm λp kn kvs rH np jZ ay Jz bd pM=>?_⟩;subst Bz;have x':=RP.same jZ;refine⟨_,rfl,X.am,rfl,⟨_,aJ.of x'.hm⟩,?_⟩;refine oL (K:=K) (a:=X.am) (xs:=bY az) (Ri X kn a p bs g) ⟨lC,v10,v11,sU,rfl,aB.refl _⟩ (λj σ jo _⟨_,_,_,_,_,h⟩=>aJ.of (h _ _ x'.hm)) ?_ ?_
    .clear lC v10 v11 HF HG sU ev;rintro i v σ tl ev ⟨lC,v10,v11,sU,rfl,Dm⟩;obtain⟨h,dh,rfl⟩:=Sj ev;have IS:=x'.same Dm;have Vr:=Dm _ _ ay;show ht _ _ _ (List.set _ 14 _) tl;refine aab (λD=>∀σ H,Ri X kn a p bs g (i+1) σ H->D.cp σ H) (λ_ _ h=>h) λY2 agc=>?_;refine cut λjs Bz=>?_;refine⟨_,rfl,p,rfl,.inl ⟨_,.inl Vr⟩,_,rfl,_,gu.k (k:=dC (S h)) Vr,aaY Jz bd (S h) ⟨(by show 2<=sizeLine;decide),λdr ahY=>?_⟩⟩;have ke:aB tl (upd tl dr (.lst [.aM true,.str (qh ((rH (S h)).map vD))])):=aZ ahY;have ai:upd tl dr (.lst [.aM true,.str (qh ((rH (S h)).map vD))]) dr=some (.lst [.aM true,.str (qh ((rH (S h)).map vD))]):=aE;show l4 _ _ _ (upd tl dr (.lst [.aM true,.str (qh ((rH (S h)).map vD))])) _;generalize upd tl dr (.lst [.aM true,.str (qh ((rH (S h)).map vD))])=jJ at ke ai⊢;have AJ:=IS.same ke;have gg:=L.ok.gg;refine⟨_,rfl,_,rfl,_,rfl,_,rfl,X.bH,X.ad,s.hs,ls,s.ds,b8 s.aA,S h,S g,rfl,AJ.own.ln,AJ.own.c1,by omega,AJ.own.eQ,AJ.ok.aA.tab,AJ.ok.cN,λeu hj jh aj=>⟨(by show 2<=sizeLine;decide),λkK fB=>?_⟩⟩;have kQ:aB hj (upd hj kK (.lst [.ref dr,.ref eu])):=aZ fB;have bC:upd hj kK (.lst [.ref dr,.ref eu]) kK=some (.lst [.ref dr,.ref eu]):=aE;refine f7 js Bz λjs Bz=>?_;show ht _ _ _ _ (upd hj kK (.lst [.ref dr,.ref eu]));generalize upd hj kK (.lst [.ref dr,.ref eu])=Aw at kQ bC⊢;have ai:=kQ _ _ (jh _ _ ai);have aj:=kQ _ _ aj;have G3:=ke.trans (jh.trans kQ);have u6:=fP (sG h dh);have Xr:=fP (sG g bp);have zr:=(sG h dh).2.1;have VN:=(sG g bp).2.1;have key:∀(dl a1 a2:Addr)(fJ fy:aR)(dx:af),aB tl dx->n1 fJ->n1 fy->dx dl=some (.lst [.ref a1,.ref a2])->dx a1=some (.lst fJ)->dx a2=some (.lst fy)->(h∈s.hs->g∈s.hs->fJ=[.aM true,.str (qh ((rH (S h)).map vD))]/\fy=Au (kJ (b8 s.aA) s.hs s.ds (S g) 13 (S h) [S h] []))->(¬(h∈s.hs/\g∈s.hs)->fJ=[.str "house"]/\fy=[.str "house"])->
       js Y2 [some (.ref a),some (.ref X.x),some (.ref X.y),some (.ref X.am),some (.int bs),some (.ref X.an),some (.ref X.bH),some (.ref X.eM),some (.ref X.ad),lC,v10,some (.ref dl),some (.str (S g)),some (.ref p),some (.str (S h))] dx:=by
      intro dl a1 a2 fJ fy dx cK k1 k2 cR aF aG yes no;subst Bz;have Ei:=IS.same cK;have Sk:=Ei.ok.tab Ei.aH;dsimp only[JH,D7,sR];refine ħ (xs:=[V.str (bK "far "),V.str (bK "route ")]) (rest:=[some (.ref X.x),some (.str (S g)),some (.str (S h))]) (λR bQ=>⟨(by show 2<=sizeLine;decide),bQ⟩) rfl (en (by show 2<=1000;decide)) (λD i v H'=>∃l,v=.ref l/\l≠D/\H' l=some (.lst (if i=0 then fJ else fy))) (λD i v ZG akI az⟨l,e,n,au⟩=>⟨l,e,n,az _ _ au⟩) (λD i v ZG zs⟨l,e,n,au⟩=>⟨l,e,n,by rw[aV n];exact au⟩) (λD i v ah vU ev az bF bG=>?_) (λD H' vs bF lv qT mc=>?_)
      .obtain⟨ys,bF⟩:=bF;have kl:=Ei.Bw.same az
       match i,ev with
       |0,ev=>
        cases ev;refine⟨_,rfl,_,rfl,_,rfl,_,_,rfl,rfl,?_,_,_,rfl,rfl,?_,_,rfl,_,_,rfl,rfl,?_,?_⟩
        .exact hM 4 8 (by decide+kernel) (by rw[dR];exact zr) (by decide)
        .exact hM 12 1 (iF (k:=4) (m:=8) (by decide+kernel) (by rw[dR];exact zr) rfl) (by decide+kernel) (by decide)
        .exact hM 13 8 (iF (k:=12) (m:=1) (iF (k:=4) (m:=8) (by decide+kernel) (by rw[dR];exact zr) rfl) (by decide+kernel) rfl) (by rw[dR];exact VN) (by decide)
        rw[QG];refine Qg SC kp u6 Xr ((rH (S h)).map vD) kl Sk (λa5 Cb=>?_) (λm em=>?_) (λa5 Cb l H' nl bZ au=>bG _ H' bZ ⟨l,rfl,(cI bF nl).symm,?_⟩) (λn l H' nl bZ au=>bG _ H' bZ ⟨l,rfl,(cI bF nl).symm,?_⟩)
        .have e:=congrFun (pM Cb) (S h);show A5 (b2.dist (fY s.hs s.ds) (S h) (S g))=_;rw[show b2.dist (fY s.hs s.ds) (S h) (S g)=rH (S h)from e.symm];cases g9:rH (S h)with
         |none=>rfl
         |some v=>
          obtain⟨m,rfl⟩:=Ed (bd _ _ g9).1;rfl
        .obtain⟨v,g9,rfl⟩:=iq.mp em;have:=bd _ _ g9;omega
        .rw[bO rfl,(yes a5 Cb).1];exact au
        .rw[bO rfl,(no n).1];exact au
       |1,ev=>
        cases ev;refine⟨_,rfl,_,rfl,_,rfl,_,_,rfl,rfl,?_,_,_,rfl,rfl,?_,_,rfl,_,_,rfl,rfl,?_,?_⟩
        .exact hM 6 8 (by decide+kernel) (by rw[dR];exact zr) (by decide)
        .exact hM 14 1 (iF (k:=6) (m:=8) (by decide+kernel) (by rw[dR];exact zr) rfl) (by decide+kernel) (by decide)
        .exact hM 15 8 (iF (k:=14) (m:=1) (iF (k:=6) (m:=8) (by decide+kernel) (by rw[dR];exact zr) rfl) (by decide+kernel) rfl) (by rw[dR];exact VN) (by decide)
        rw[φ];refine Zr SC kp u6 Xr kl Sk (λa5 Cb l H' nl bZ au=>bG _ H' bZ ⟨l,rfl,(cI bF nl).symm,?_⟩) (λn l H' nl bZ au=>bG _ H' bZ ⟨l,rfl,(cI bF nl).symm,?_⟩)
        .rw[bz (by decide),(yes a5 Cb).2,Zs Ei.bH];exact au
        .rw[bz (by decide),(no n).2];exact au
       |_+2,ev=>cases ev
      .match vs,lv with
       |[v1,v2],_=>
        obtain⟨iP,rfl,_,uf⟩:=qT 0 v1 rfl;obtain⟨fW,rfl,_,pR⟩:=qT 1 v2 rfl;exact⟨_,rfl,aa7 k1 k2 bF (mc _ _ cR) uf (mc _ _ aF) pR (mc _ _ aG) ⟨_,rfl,c3 rfl (agc _ _ ⟨_,_,_,_,rfl,Dm.trans (cK.trans mc)⟩)⟩⟩
     have Et:=(IS.same G3).own.nm;have UG:∀{z:cx},z∉s.hs->iD (.str (S z)) (bY s.hs)=false:=λ{z}n=>kk.mpr λy=>n (lW.mp y);by_cases HT:h∈s.hs
     .refine⟨_,rfl,_,rfl,X.an,_,rfl,.inl (aJ.of Et),rfl,q7 _,_,rfl,c3 (by rw[lW.mpr HT];rfl) ?_⟩;by_cases HS:g∈s.hs
      .refine⟨_,rfl,_,rfl,X.an,_,rfl,.inl (aJ.of Et),rfl,q7 _,_,rfl,c3 (by rw[lW.mpr HS];rfl) ?_⟩;exact key kK dr eu _ _ Aw G3 (aa6 _) (acE _) bC ai aj (λ_ _=>⟨rfl,rfl⟩) λn=>bk ⟨HT,HS⟩ n
      .refine⟨_,rfl,_,rfl,X.an,_,rfl,.inl (aJ.of Et),rfl,q7 _,_,rfl,cY (by rw[UG HS];rfl) ⟨(by show 1<=sizeLine;decide),λa1 gh=>⟨(by show 1<=sizeLine;decide),λa2 gv=>⟨(by show 2<=sizeLine;decide),λdl w7=>?_⟩⟩⟩⟩;exact key dl a1 a2 _ _ _ (G3.trans ((aZ gh).trans ((aZ gv).trans (aZ w7)))) (.one (by decide+kernel)) (.one (by decide+kernel)) aE (aZ w7 _ _ (aZ gv _ _ aE)) (aZ w7 _ _ aE) (λ_ z=>bk z HS) λ_=>⟨rfl,rfl⟩
     .refine⟨_,rfl,_,rfl,X.an,_,rfl,.inl (aJ.of Et),rfl,q7 _,_,rfl,cY (by rw[UG HT];rfl) (f6 ⟨(by show 1<=sizeLine;decide),λa1 gh=>⟨(by show 1<=sizeLine;decide),λa2 gv=>⟨(by show 2<=sizeLine;decide),λdl w7=>?_⟩⟩⟩)⟩;exact key dl a1 a2 _ _ _ (G3.trans ((aZ gh).trans ((aZ gv).trans (aZ w7)))) (.one (by decide+kernel)) (.one (by decide+kernel)) aE (aZ w7 _ _ (aZ gv _ _ aE)) (aZ w7 _ _ aE) (λz=>bk z HT) λ_=>⟨rfl,rfl⟩
    .rintro σ tl ⟨lC,v10,v11,sU,rfl,Dm⟩;exact⟨_,_,_,_,_,_,rfl,n7.trans (jZ.trans Dm)⟩
   .rintro σ kn ⟨lC,v10,v11,HF,HG,sU,rfl,jZ⟩;subst bT;have x':=L.same jZ;obtain⟨e8,Vg,qJ⟩:∃e8∈az,ao.hD (bY az) 0=some (.str (S e8)):=by
     cases az with
     |nil=>cases Cr
     |cons g r=>exact⟨g,.head _,mV (j:=0) rfl⟩
    have u5:=fP (sG e8 Vg);have sx:=(sG e8 Vg).2.1;refine⟨_,rfl,?_⟩;rw[aaX];refine Ī SC x'.Fd rfl λl jJ nl ke au=>⟨(by show 2<=sizeLine;decide),λeu cC=>Sh (.two (by decide+kernel)) (aZ cC _ _ au) aE ⟨true,rfl,cY rfl ?_⟩⟩
    have jh:aB kn (upd jJ eu (.lst [.aM true,.str (bK "")])):=ke.trans (aZ cC);show sR _ _ _ _ (upd jJ eu (.lst [.aM true,.str (bK "")])) _;generalize upd jJ eu (.lst [.aM true,.str (bK "")])=hj at jh⊢;have Rw:=x'.same jh;have Vv:=aJ.of (K:=K) Rw.hm;refine⟨_,rfl,_,rfl,X.am,_,_,_,rfl,rfl,Vv,qJ,_,_,rfl,rfl,?_,_,_,rfl,rfl,?_,_,rfl,X.am,_,_,_,rfl,rfl,Vv,qJ,_,_,rfl,rfl,?_,?_⟩
    .refine hM 4 8 (by decide+kernel) (by rw[dR];exact sx) (by decide)
    .refine hM 12 1 (iF (k:=4) (m:=8) (by decide+kernel) (by rw[dR];exact sx) rfl) (by decide+kernel) (by decide)
    .refine hM 13 8 (iF (k:=12) (m:=1) (iF (k:=4) (m:=8) (by decide+kernel) (by rw[dR];exact sx) rfl) (by decide+kernel) rfl) (by rw[dR];exact sx) (by decide)
    rw[QG];exact Qg SC kp u5 u5 none Rw.Fd ae5 (λz=>nomatch z) (λ_ z=>nomatch z) (λz=>nomatch z) λ_ kK Aw aoF kQ uj=>⟨(by show 1<=sizeLine;decide),λq8 kL=>Sh (.one (by decide+kernel)) (aZ kL _ _ uj) aE (q _)⟩
unseal fl bl fM gc
theorem ae6:de ["text"] ["text"] (cy EG):={}
theorem adq{f:Addr}(F:cz K "is_written_number" "is_written_number" EG f fd)(B:eR mg):aK P w K mg base bq 1 f fd ["text"] Tb:=by
 refine F.ok ae6 (λcdv A outer s H vs Q E al h=>?_)
 .obtain⟨m,rfl,hm,q⟩:=h;refine⟨_,(a9 (dH (hl.pt (jb (jx (GL l3 l3 bc (df Ci (by rfl) B.len g7 (ag (aa 0) aw)) bc)) (kz (hl.pt (HO (dG jd (cU Q' (aa 0) bc (λ_ _=>rfl)) cv (dE _)) (Qp (dG rm (aa 0) cv (dE _)))))))) (bg (cm iz)) dJ)
   (bg (cm (df (w5 rfl) (by rfl) B.v3 xi (ag (lq (N':=["sign"]) (cs:=[none]) rfl (Ij (aa 0)) rfl (by decide+kernel) rfl (by decide+kernel) (jy (λp ay=>bk ay (di))) rfl
    (.own .nil)
    (λC aW aU b0 ez=>⟨(eo (i:=0) (by show(["sign"]:ck).Nodup;decide+kernel) rfl (.inl rfl)),lg,(w4 zj zj cv (aa 0) cv)⟩)) aw))))),?_⟩
  have dr:=sI hm;have sv:1<=(cB m).length:=by have:=En.mpr (Ec m);omega
  have hz:(S (cB m)).length<=sizeLine:=qB (en (by rw[dR];omega));have ai:(1:Int)<=((S (cB m)).length:Int):=by rw[dR];omega
  have aj:((S (cB m)).length:Int)<=10:=by rw[dR];omega
  have s0:bK "0"=S [48]:=by decide+kernel
  have kQ:bK "9"=S [57]:=by decide+kernel
  rw[s0,kQ];obtain⟨fp,h8,cV⟩:∃fp h8,cB m=fp::h8:=by
   cases h:cB m with
   |nil=>exact bk h (Ec m)
   |cons a r=>exact⟨a,r,rfl⟩
  refine⟨_,rfl,_,rfl,hz,_,_,rfl,rfl,_,rfl,cY (b4 ai) ⟨_,_,rfl,rfl,_,rfl,D9 aj ?_⟩⟩;have qJ:ao.hD (S (cB m)).cps.toList 0=some fp:=by show ao.hD (cB m) 0=some fp;rw[cV];exact mV (j:=0) rfl
  have key:fp=48->cB m=[48]:=λe=>by subst e;rw[aao m h8 cV,aap]
  have aoe:(signs (S (cB m))).length<1000:=by rw[HA,cj];omega
  refine⟨_,rfl,_,_,_,rfl,rfl,hz,qJ,rfl,_,rfl,?_⟩;by_cases e:fp=48
  case' pos=>refine cY (by rw[e];exact b4 rfl) ⟨_,rfl,rfl,_,rfl,c3 (by rw[key e];simp) ?_⟩
  case' neg=>refine c3 (cM λz=>e (by have:=V.str.inj z;have:=ek (λx:Str=>x.cps.toList) this;simpa using this)) (f5 ?_)
  all_goals
   dsimp only[sO,rz,qa,l4];refine q2 (J:=x1 (S (cB m))) (H1:=H) (xs:=signs (S (cB m))) (rest:=[]) (λR h=>⟨_,rfl,_,rfl,h⟩) rfl (Ii _) (en (by omega)) (λ_=>.aM true) (λi x ah R ex az bQ=>?_) (λD H' ai aj bC=>?_)
   .rw[HA]at ex;obtain⟨k,aD,rfl⟩:=cw.mp (f_ ex);have i':=xk aD;have aF:(!decide ((S [k]).cps.toList<(S [48]).cps.toList))=true:=(z0 k 48).trans (b4 i'.1);have aG:(!decide ((S [57]).cps.toList<(S [k]).cps.toList))=true:=(z0 57 k).trans (b4 i'.2);exact⟨_,rfl,_,_,rfl,rfl,_,rfl,cY aF ⟨_,_,rfl,rfl,sN aG (bQ ah (aB.refl _))⟩⟩
   .exact⟨D,yc (signs (S (cB m))).length true,rfl,aJ.of (by rw[aj,GP]),sN (GQ _) (q H' bC)⟩
end
end c2
namespace b5
open PySem PySem.Spec PyProof.Rows ao
section
variable{X:bx}
theorem Dk{K:aQ}(ar:Ū K D=true)(cO:yq K (.ref D)=some (.type "type"))(hs:kZ K (.ref C) (.ref D)=some b)(aX:(cg C==cg D)=true->b=true):
  jr K (.ref C) (.ref D)=some b:=by
 unfold jr;by_cases h:(cg C==cg D)=true
 .rw[bO h,aX h]
 .rw[bz h];unfold SF;have ai:(tA K D).isSome=true:=ar;have aj:(yq K (.ref D)==some (.type "type"))=true:=by rw[cO];decide
  show(if((tA K D).isSome&&yq K (.ref D)==some (.type "type"))=true then _ else _)=_;rw[ai,aj];exact(bO rfl).trans hs
end
end b5
namespace c2
open PySem ao b5 cQ
section
variable{w:bU}{K:aQ}
noncomputable def xG(C:Addr)(d1:xQ)(cs:c7)(k:Nat):Bool:=!d1.mro.isEmpty&&(gN cs.length).all λj=>match cs[j]? with
 |some R=>if j=k then cg C==cg R else !(cg C==cg R)&&!(d1.mro.contains (.ref R))
 |none=>true
theorem DH{k:Nat}{dd:Option Addr}{d1:xQ}{bZ:k6}{cs:c7}(wX:K.lookup C=some ⟨.type "type",dd,.cls d1,bZ⟩)(hp:oa K C)(sub:pY K C gq=true)(re:jr K (.ref C) (.ref gq)=some true)(OK:jr K (.ref C) (.type "ValueError")=some true)(lt:k<11)(ahK:∀R∈cs,∃fy gY s2,K.lookup R=some ⟨.type "type",fy,.cls gY,s2⟩)(Ul:xG C d1 cs k=true):tp K gq cs C k:=by
 refine⟨hp,sub,re,OK,lt,λj R e=>?_⟩;unfold xG at Ul;obtain⟨a8,ai⟩:=(ie _ _).mp Ul;have aj:=(rL.mp ai) j (rN.mpr (gn.mp e).1);rw[e]at aj;dsimp only at aj;by_cases z:j=k
 .rw[bO z]at aj;unfold jr;rw[bO aj,b4 z]
 .rw[bz z]at aj;obtain⟨a,b⟩:=(ie _ _).mp aj;obtain⟨fy,gY,s2,lo⟩:=ahK R (f_ e);rw[cM z];exact Zb wX lo (by simpa using a8) (by simpa using a) (by simpa using b)
theorem ajk{es:Array pe}{n:Nat}(aT:K.lookup a=some ⟨.type "dict",none,.dict es n,#[]⟩)(aP:š w.params es.toList)(bh:(a==kg)=false):TopD w K a:=⟨es,n,aT,aP,bh⟩
theorem afX{fs:c7}{dd:Option Addr}{n:Nat}{bZ:k6}(aT:iM K dA kw=some (some (.ref aH)))(aP:K.lookup aH=some ⟨.type "tuple",dd,.seq (fs.map cg).toArray n,bZ⟩):jz K dA kw fs:=⟨aH,dd,n,bZ,aT,aP⟩
theorem DI{K:aQ}(hm:Jr T=true)(hs:kZ K (.ref C) (.type T)=some b):jr K (.ref C) (.type T)=some b:=by unfold jr;rw[bz (by intro z;cases z)];unfold SF;show(if Jr T=true then _ else _)=_;rw[bO hm,hs]
structure J7(K:aQ)(dA d4:Addr)(R:ny)(D:xS):Prop where
 f1:jz K dA "house" [R.t]
 f2:jz K dA "road" [R.t,R.t,R.n,R.n]
 cS:jz K dA "letter" [R.t,R.t,R.n]
 f4:jz K dA "way" [R.t,R.t,R.r]
 d7:jz K dA "shortest" []
 KA:jz K dA "far" [R.t,R.t]
 afM:jz K dA "route" [R.t,R.t]
 f8:jz K dA "run" []
 cn:iM K d4 "house"=some (some (.ref D.aI))
 cC:iM K d4 "road"=some (some (.ref D.jY))
 fB:iM K d4 "letter"=some (some (.ref D.le))
 kL:iM K d4 "way"=some (some (.ref D.jk))
 ahU:iM K d4 "shortest"=some (some (.ref D.kf))
 CC:iM K d4 "far"=some (some (.ref D.gF))
 sF:iM K d4 "route"=some (some (.ref D.h9))
 ahV:iM K d4 "run"=some (some (.ref D.dF))
theorem J7.say{R:ny}{D:xS}(F:J7 K dA d4 R D):x4 K R dA d4 D:=by
 have aF:("house":Str)=S uI:=by decide+kernel
 have aG:("road":Str)=S p8:=by decide+kernel
 have cR:("letter":Str)=S qk:=by decide+kernel
 have hV:("way":Str)=S m7:=by decide+kernel
 have mR:("shortest":Str)=S DG:=by decide+kernel
 have tW:("far":Str)=S x3:=by decide+kernel
 have Fj:("route":Str)=S z7:=by decide+kernel
 have Us:("run":Str)=S A8:=by decide+kernel
 exact⟨⟨aF▸F.f1,aF▸F.cn⟩,⟨aG▸F.f2,aG▸F.cC⟩,⟨cR▸F.cS,cR▸F.fB⟩,⟨hV▸F.f4,hV▸F.kL⟩,⟨mR▸F.d7,mR▸F.ahU⟩,⟨tW▸F.KA,tW▸F.CC⟩,⟨Fj▸F.afM,Fj▸F.sF⟩,⟨Us▸F.f8,Us▸F.ahV⟩⟩
end
structure H5(P:cA)(w:bU)(K:aQ)(mg:b9)(base:Heap):Prop where
 one:True
theorem H5.fn{K:aQ}{mg:b9}{base:Heap}{k:Nat}{f:Addr}(Z:H5 P w K mg base)(h:aK P w K mg base CX k f fd ps sp):aK P w K mg base CX k f fd ps sp:=h
section
variable{K:aQ}{h:Heap}{mg:b9}{x qual:Str}{st:Stmt}{C f:Addr}{ps:ck}{jX:Value}{d2 an:Option Addr}{lx:k6}{c0 doc pm cdv ec:Value}
theorem ahR(a:c_ K (.ref C) x=some (some (.ref f)))(i:qF K (.ref f)=true)(l:K.lookup f=some ⟨jX,d2,.func (lH x qual (mW st) (ky st) (cy st) .none c0 doc pm an cdv ec),lx⟩)(c:Bf K cdv qual=true)(k:mF K (.ref f)=true)(u:∀(c0 doc pm:Value)(an:Option Addr)(cdv ec:Value)(us:dk),us.length=ps.length->Fe (lH x qual (mW st) (ky st) (cy st) .none c0 doc pm an cdv ec) ⟨us,[]⟩=pure (ps.zip us)):
  d_ K C x qual st ps f (lH x qual (mW st) (ky st) (cy st) .none c0 doc pm an cdv ec):=
 ⟨wu l c k,⟨a,i,k⟩,(wu l c k).binds u⟩
theorem ahw(m:SG K C=true)(n:mF K (.ref C)=true)(a:c_ K (.ref C) "__init__"=some (some (.ref f)))(i:qF K (.ref f)=true)(l:K.lookup f=some ⟨jX,d2,.func (lH "__init__" qual (mW st) (ky st) (cy st) .none c0 doc pm an cdv ec),lx⟩)(c:Bf K cdv qual=true)(k:mF K (.ref f)=true)(u:∀(c0 doc pm:Value)(an:Option Addr)(cdv ec:Value)(us:dk),us.length=ps.length->Fe (lH "__init__" qual (mW st) (ky st) (cy st) .none c0 doc pm an cdv ec) ⟨us,[]⟩=pure (ps.zip us)):
  nk K C qual st ps f (lH "__init__" qual (mW st) (ky st) (cy st) .none c0 doc pm an cdv ec):=
 ⟨wu l c k,⟨m,a,i,n⟩,(wu l c k).binds u⟩
theorem afu(X:K.In h)(G:h.Ns p2 mg)(a:iM K p2 x=some (some (.ref f)))(l:K.lookup f=some ⟨jX,d2,.func (lH x x (mW st) (ky st) (cy st) .none c0 doc pm an cdv ec),lx⟩)(c:Bf K cdv x=true)(k:mF K (.ref f)=true)(u:∀(c0 doc pm:Value)(an:Option Addr)(cdv ec:Value)(us:dk),us.length=ps.length->Fe (lH x x (mW st) (ky st) (cy st) .none c0 doc pm an cdv ec) ⟨us,[]⟩=pure (ps.zip us)):
  bX K mg x st ps f (lH x x (mW st) (ky st) (cy st) .none c0 doc pm an cdv ec):=
 ⟨wu l c k,Ű X G a,(wu l c k).binds u⟩
end
theorem MB{us:dk}(h:us.length=1):∃a0,us=[a0]:=by rcases us with _|⟨a0,_|⟨b,r⟩⟩<;>first|exact⟨a0,rfl⟩|simp at h
theorem F_{us:dk}(h:us.length=2):∃a0 a1,us=[a0,a1]:=by rcases us with _|⟨a0,_|⟨a1,_|⟨b,r⟩⟩⟩<;>first|exact⟨a0,a1,rfl⟩|simp at h
theorem Ga{us:dk}(h:us.length=3):∃a0 a1 a2,us=[a0,a1,a2]:=by rcases us with _|⟨a0,_|⟨a1,_|⟨a2,_|⟨b,r⟩⟩⟩⟩<;>first|exact⟨a0,a1,a2,rfl⟩|simp at h
theorem MC{us:dk}(h:us.length=4):∃a0 a1 a2 fN,us=[a0,a1,a2,fN]:=by rcases us with _|⟨a0,_|⟨a1,_|⟨a2,_|⟨fN,_|⟨b,r⟩⟩⟩⟩⟩<;>first|exact⟨a0,a1,a2,fN,rfl⟩|simp at h
theorem MD{us:dk}(h:us.length=5):∃a0 a1 a2 fN hn,us=[a0,a1,a2,fN,hn]:=by rcases us with _|⟨a0,_|⟨a1,_|⟨a2,_|⟨fN,_|⟨hn,_|⟨b,r⟩⟩⟩⟩⟩⟩<;>first|exact⟨a0,a1,a2,fN,hn,rfl⟩|simp at h
theorem ME{us:dk}(h:us.length=6):∃a0 a1 a2 fN hn pz,us=[a0,a1,a2,fN,hn,pz]:=by rcases us with _|⟨a0,_|⟨a1,_|⟨a2,_|⟨fN,_|⟨hn,_|⟨pz,_|⟨b,r⟩⟩⟩⟩⟩⟩⟩<;>first|exact⟨a0,a1,a2,fN,hn,pz,rfl⟩|simp at h
theorem MF{us:dk}(h:us.length=7):∃a0 a1 a2 fN hn pz J9,us=[a0,a1,a2,fN,hn,pz,J9]:=by rcases us with _|⟨a0,_|⟨a1,_|⟨a2,_|⟨fN,_|⟨hn,_|⟨pz,_|⟨J9,_|⟨b,r⟩⟩⟩⟩⟩⟩⟩⟩<;>first|exact⟨a0,a1,a2,fN,hn,pz,J9,rfl⟩|simp at h
theorem all_mk{l:Sz}{K:aQ}{mg:b9}(agC:mg "law"=some (.ref gF))(p1:mg "Net"=some (.ref nh))(pV:mg "Ways"=some (.ref mm))(Dj:mg "Walk"=some (.ref qr))(zR:mg "Desk"=some (.ref pd))(lK:mg "RoadError"=some (.ref ig))(zI:mg "NoNet"=some (.ref jm))(zc:mg "NoHouse"=some (.ref jl))(zq:mg "NoRoad"=some (.ref jn))(r6:mg "NoLetter"=some (.ref hx))(CQ:mg "BadBag"=some (.ref vd))(sq:mg "NoWay"=some (.ref hg))(Ce:mg "ManyGoals"=some (.ref vg))(CR:mg "CutOff"=some (.ref ve))(CS:mg "NoText"=some (.ref vj))(C3:mg "NoRow"=some (.ref vi))(C4:mg "NoDay"=some (.ref vh))(fc:fw K nh)(MS:c_ K (.ref nh) "kept_houses"=some none)(MT:c_ K (.ref nh) "kept_roads"=some none)(k':nk K nh "Net.__init__" xD pn am8 alG)(hT:d_ K nh "houses" "Net.houses" uw fD am7 alF)(lN:d_ K nh "roads" "Net.roads" zN fD anc alK)(wU:d_ K nh "road" "Net.road" H0 j2 anb alJ)(pH:d_ K nh "out_of" "Net.out_of" AX j3 ana alI)(jN:d_ K nh "need_house" "Net.need_house" Af j3 am9 alH)(wQ:d_ K nh "far" "Net.far" EZ hO am6 alE)(jw:fw K mm)(MX:c_ K (.ref mm) "net"=some none)(MY:c_ K (.ref mm) "told"=some none)(lO:nk K mm "Ways.__init__" zT kq ank alT)(lL:d_ K mm "set_way" "Ways.set_way" zS qA anp alX)(wc:d_ K mm "drop_way" "Ways.drop_way" G7 hO anj alS)(wy:d_ K mm "route" "Ways.route" Hb hO ano alW)(wx:d_ K mm "pairs" "Ways.pairs" G_ fD anm alV)(pD:d_ K mm "need_pair" "Ways.need_pair" Dh hO anl alU)(pW:fw K qr)(MV:c_ K (.ref qr) "net"=some none)(MU:c_ K (.ref qr) "goals"=some none)(MW:c_ K (.ref qr) "steps"=some none)(wM:nk K qr "Walk.__init__" E3 AR anf alO)(yT:d_ K qr "take_in" "Walk.take_in" S3 ["self","letter"] ani alR)(ze:d_ K qr "send" "Walk.send" S6 ["self","bag"] anh alQ)(yM:d_ K qr "last_turn" "Walk.last_turn" Sm j2 ang alP)(yN:d_ K qr "home_turn" "Walk.home_turn" Sn j2 ane alN)(mX:fw K pd)(MP:c_ K (.ref pd) "net"=some none)(MO:c_ K (.ref pd) "kept_letters"=some none)(MQ:c_ K (.ref pd) "ways"=some none)(MN:c_ K (.ref pd) "day"=some none)(ub:nk K pd "Desk.__init__" G6 fD am4 alC)(wW:d_ K pd "say" "Desk.say" EO AV am5 alD)(pB:d_ K pd "change_net" "Desk.change_net" Df kq am3 alB)(mL:bX K mg "is_whole" z1 iL anO amD)(hR:bX K mg "is_whole_within" xd pk anP amE)(jO:bX K mg "is_tuple_of" xl pj anN amC)(hZ:bX K mg "are_unlike_houses" uB nv anF amc)(mP:bX K mg "is_name" Aa iL anK amz)(mJ:bX K mg "are_houses" Ab rP anD ama)(mQ:bX K mg "is_road" Ac lG anL amA)(mK:bX K mg "are_roads" Ae rO anE amb)(t6:bX K mg "is_letter" E0 lG anJ amy)(tS:bX K mg "turns_apart" HW ["letters"] an0 amX)(tY:bX K mg "letters_of" E1 AU anS amJ)(tQ:bX K mg "is_written_number" EG ["text"] anQ amF)(tP:bX K mg "is_shorter_by" H4 yi anM amB)(nB:bX K mg "least_turns_from" DB vJ anR amH)(tO:bX K mg "begins_shortest" EX AP anH amh)(uq:bX K mg "shortest" Hd ["net"] anW amM)(wN:bX K mg "has_route" WH ["letter","ways"] anI amx)(wR:bX K mg "bags_at" WG ["net","walk","going","ways","turn"] anG amg)(uX:bX K mg "run" E4 AS anV amL)(wV:bX K mg "show_bag" T_ ["bag"] anY amN)(t4:bX K mg "show_plan" EN ["plan"] anZ amO)(CT:bX K mg "as_text" NQ mB nM amf)(qN:bX K mg "as_number" G4 mB BG amd)(BF:bX K mg "as_road_or_none" JN mB KH ame)(ur:bX K mg "words_of" Hg ["row"] an3 am0)(t9:bX K mg "values_of" EH ["words"] an1 amY)(nC:bX K mg "number_or_dash" Di qz anT amK)(tT:bX K mg "with_blanks" Hf ["numbers"] an2 amZ)(Cf:bX K mg "take_house" J2 gO K0 amP)(Ck:bX K mg "take_road" J3 gO K2 amR)(Ch:bX K mg "take_letter" JT gO K1 amQ)(Cw:bX K mg "take_way" J5 gO K4 amT)(BK:bX K mg "take_shortest" J4 gO K3 amS)(Cx:bX K mg "tell_far" JU gO K5 amU)(Cg:bX K mg "tell_route" JV gO K6 amV)(Cy:bX K mg "tell_run" JW gO K7 amW)(pG:bX K mg "_law_cell_at" G5 yg anq alY)(tR:bX K mg "_law_houses" GV AQ ant al1)(t_:bX K mg "_law_kind" G' AW anu al2)(ku:bX K mg "_law_said" Hc AO anA al7)(nE:bX K mg "_law_fars" As vK anr alZ)(t5:bX K mg "_law_route" E_ ["_law_lines","_law_told","_law_house_here","_law_goal"] anx al5)(ua:bX K mg "_law_road" ES ["_law_names","_law_lines","_law_one","_law_other","_law_n"] anw al4)(tU:bX K mg "_law_letter" EU ["_law_names","_law_letters","_law_one","_law_other","_law_turn"] anv al3)(uu:bX K mg "_law_way" EW ["_law_names","_law_lines","_law_told","_law_one","_law_other","_law_n"] anC al9)(tN:bX K mg "_law_shortest" E7 ["_law_names","_law_lines","_law_told"] anB al8)(t7:bX K mg "_law_house" ER yf ans al0)(uv:bX K mg "_law_row" E9 ["_law_some","_law_names","_law_lines","_law_letters","_law_told","_law_base","_law_n"] anz al6)(Ka:mg "law"=some (.ref afW))(D8:cz K "law" "law" x5 afW amG)(Cs:K.lookup ig=some ⟨.type "type",amv,.cls Kk,aiY⟩)(sz:K.lookup jm=some ⟨.type "type",amq,.cls Uh,aiW⟩)(sy:K.lookup jl=some ⟨.type "type",amn,.cls Ug,aiV⟩)(sA:K.lookup jn=some ⟨.type "type",amr,.cls Ui,aiX⟩)(q9:K.lookup hx=some ⟨.type "type",amo,.cls Ff,WN⟩)(wY:K.lookup vd=some ⟨.type "type",amj,.cls alv,aoL⟩)(q':K.lookup hg=some ⟨.type "type",amu,.cls Fg,WO⟩)(w0:K.lookup vg=some ⟨.type "type",aml,.cls alx,aoN⟩)(wZ:K.lookup ve=some ⟨.type "type",amk,.cls alw,aoM⟩)(w3:K.lookup vj=some ⟨.type "type",amt,.cls alA,aoQ⟩)(w2:K.lookup vi=some ⟨.type "type",ams,.cls alz,aoP⟩)(w1:K.lookup vh=some ⟨.type "type",amm,.cls aly,aoO⟩)(J':c_ K (.ref hx) "__init__"=some (some (.ref UB)))(Mi:qF K (.ref UB)=true)(D4:cz K "__init__" "NoLetter.__init__" NT UB alL)(J_:c_ K (.ref hg) "__init__"=some (some (.ref UC)))(Mj:qF K (.ref UC)=true)(D5:cz K "__init__" "NoWay.__init__" NU UC alM)(Pa:yp K ig [.type "ValueError",.type "Exception",.type "BaseException",.type "object"] "ValueError.__new__"=true)(O':yp K jm [.type "ValueError",.type "Exception",.type "BaseException",.type "object"] "ValueError.__new__"=true)(O9:yp K jl [.type "ValueError",.type "Exception",.type "BaseException",.type "object"] "ValueError.__new__"=true)(O_:yp K jn [.type "ValueError",.type "Exception",.type "BaseException",.type "object"] "ValueError.__new__"=true)(DR:xj Kk aiY ig ig=true)(DO:xj Uh aiW jm ig=true)(DM:xj Ug aiV jl ig=true)(DP:xj Ui aiX jn ig=true)(DN:xj Ff WN hx ig=true)(DQ:xj Fg WO hg ig=true)(Oz:mg "MOST_HOUSES"=some (.int 12 aoT))(OB:mg "MOST_ROADS"=some (.int 40 aoV))(OD:mg "MOST_SIGNS"=some (.int 8 aoX))(OF:mg "MOST_TURNS"=some (.int 9 aoZ))(OC:mg "MOST_ROOM"=some (.int 1000000000 aoW))(OA:mg "MOST_LETTERS"=some (.int 40 aoU))(OE:mg "MOST_TURN"=some (.int 1000000000 aoY))(Oy:mg "MOST_APART"=some (.int 30 aoS))(B:eR mg)(Pb:Dx Ff Kk WN hx "ValueError.__new__"=true)(O7:Ff.hasDict=true)(Oa:c_ K (.ref hx) "__setattr__"=some (some (.builtin "object.__setattr__")))(Nn:kZ K (.ref hx) (.type "object")=some true)(Md:Bg K hx=true)(Mw:mF K (.ref hx)=true)(Fw:c_ K (.ref hx) "__getattribute__"=some (some (.builtin "BaseException.__getattribute__")))(Gk:c_ K (.ref hx) "__getattr__"=some none)(FE:c_ K (.ref hx) "__class__"=some (some (.builtin "object.__class__")))(FT:qG K (.builtin "object.__class__") "__get__"=some (some (.builtin "getset_descriptor.__get__")))(F0:vT K (.builtin "object.__class__")=some true)(FP:kY K hx (.type "object")=some true)(FG:kY K hx (.type "BaseException")=some true)(Pc:Dx Fg Kk WO hg "ValueError.__new__"=true)(O8:Fg.hasDict=true)(Ob:c_ K (.ref hg) "__setattr__"=some (some (.builtin "object.__setattr__")))(Np:kZ K (.ref hg) (.type "object")=some true)(Me:Bg K hg=true)(Mx:mF K (.ref hg)=true)(Fx:c_ K (.ref hg) "__getattribute__"=some (some (.builtin "BaseException.__getattribute__")))(Gl:c_ K (.ref hg) "__getattr__"=some none)(FF:c_ K (.ref hg) "__class__"=some (some (.builtin "object.__class__")))(FU:qG K (.builtin "object.__class__") "__get__"=some (some (.builtin "getset_descriptor.__get__")))(F1:vT K (.builtin "object.__class__")=some true)(FQ:kY K hg (.type "object")=some true)(FH:kY K hg (.type "BaseException")=some true)(GX:SM K ig (.type "type")=true)(Fs:SA K (.ref ig) (.type "type") "__init__"=some (.val (.builtin "ValueError.__init__")))(Hi:qG K (.ref ig) "__getattribute__"=some (some (.builtin "type.__getattribute__")))(LQ:c_ K (.ref hx) "number"=some none)(LY:c_ K (.ref hg) "reason"=some none)(L0:c_ K (.ref hg) "seen"=some none)(K9:c_ K (.ref jm) "__getattribute__"=some (some (.builtin "BaseException.__getattribute__")))(M':c_ K (.ref jm) "__getattr__"=some none)(Lk:c_ K (.ref jm) "__class__"=some (some (.builtin "object.__class__")))(LN:qG K (.builtin "object.__class__") "__get__"=some (some (.builtin "getset_descriptor.__get__")))(L3:vT K (.builtin "object.__class__")=some true)(LJ:kY K jm (.type "object")=some true)(Ln:kY K jm (.type "BaseException")=some true)(K8:c_ K (.ref jl) "__getattribute__"=some (some (.builtin "BaseException.__getattribute__")))(M9:c_ K (.ref jl) "__getattr__"=some none)(Lj:c_ K (.ref jl) "__class__"=some (some (.builtin "object.__class__")))(LM:qG K (.builtin "object.__class__") "__get__"=some (some (.builtin "getset_descriptor.__get__")))(L2:vT K (.builtin "object.__class__")=some true)(LI:kY K jl (.type "object")=some true)(Lm:kY K jl (.type "BaseException")=some true)(K':c_ K (.ref jn) "__getattribute__"=some (some (.builtin "BaseException.__getattribute__")))(M_:c_ K (.ref jn) "__getattr__"=some none)(Ll:c_ K (.ref jn) "__class__"=some (some (.builtin "object.__class__")))(LO:qG K (.builtin "object.__class__") "__get__"=some (some (.builtin "getset_descriptor.__get__")))(L4:vT K (.builtin "object.__class__")=some true)(LK:kY K jn (.type "object")=some true)(Lo:kY K jn (.type "BaseException")=some true)(wL:Ū K ig=true)(xw:yq K (.ref ig)=some (.type "type"))(N4:kZ K (.ref jm) (.type "ValueError")=some true)(N3:kZ K (.ref jm) (.ref ig)=some true)(Mt:xG jm Uh [jm,jl,jn,hx,vd,hg,vg,ve,vj,vi,vh] 0=true)(N0:kZ K (.ref jl) (.type "ValueError")=some true)(NZ:kZ K (.ref jl) (.ref ig)=some true)(Mr:xG jl Ug [jm,jl,jn,hx,vd,hg,vg,ve,vj,vi,vh] 1=true)(N6:kZ K (.ref jn) (.type "ValueError")=some true)(N5:kZ K (.ref jn) (.ref ig)=some true)(Mu:xG jn Ui [jm,jl,jn,hx,vd,hg,vg,ve,vj,vi,vh] 2=true)(N2:kZ K (.ref hx) (.type "ValueError")=some true)(N1:kZ K (.ref hx) (.ref ig)=some true)(Ms:xG hx Ff [jm,jl,jn,hx,vd,hg,vg,ve,vj,vi,vh] 3=true)(N8:kZ K (.ref hg) (.type "ValueError")=some true)(N7:kZ K (.ref hg) (.ref ig)=some true)(Mv:xG hg Fg [jm,jl,jn,hx,vd,hg,vg,ve,vj,vi,vh] 5=true)(zz:mg "FORMS"=some (.ref dA))(yO:mg "DESK_ANSWERS"=some (.ref d4))(CP:mg "reversed"=none)(yx:TopD w K dA)(TD:TopD w K d4)(KQ:jz K dA "house" [nM])(Nb:iM K d4 "house"=some (some (.ref K0)))(KS:jz K dA "road" [nM,nM,BG,BG])(Nd:iM K d4 "road"=some (some (.ref K2)))(KR:jz K dA "letter" [nM,nM,BG])(Nc:iM K d4 "letter"=some (some (.ref K1)))(KX:jz K dA "way" [nM,nM,KH])(Ni:iM K d4 "way"=some (some (.ref K4)))(KW:jz K dA "shortest" [])(Nh:iM K d4 "shortest"=some (some (.ref K3)))(KP:jz K dA "far" [nM,nM])(Na:iM K d4 "far"=some (some (.ref K5)))(KU:jz K dA "route" [nM,nM])(Nf:iM K d4 "route"=some (some (.ref K6)))(KV:jz K dA "run" [])(Ng:iM K d4 "run"=some (some (.ref K7))):
  ∃fd:ni,(∀(s:aO)(v:Value),An s fd ⟨[v],[]⟩ [("_law_script",v)])/\∀base:Heap,K.In base->base.Ns p2 mg->aK l.prog w K mg base bq 11 gF fd ["_law_script"] (D6 K):=by
 have e:=agC.symm.trans Ka;cases e;have afg:=D4.binds (ps:=j2) λ_ _ _ _ _ _ us au=>by(obtain⟨_,_,rfl⟩:=F_ au);rfl
 have afh:=D5.binds (ps:=yh) λ_ _ _ _ _ _ us au=>by(obtain⟨_,_,_,rfl⟩:=Ga au);rfl
 have WJ:Exc K mg "RoadError" ig _ _:=⟨lK,Pa⟩
 have GW:Exc K mg "NoNet" jm _ _:=⟨zI,O'⟩
 have zb:Exc K mg "NoHouse" jl _ _:=⟨zc,O9⟩
 have zo:Exc K mg "NoRoad" jn _ _:=⟨zq,O_⟩
 have DR:=zl Cs DR;have DO:=zl sz DO;have DM:=zl sy DM;have DP:=zl sA DP;have DN:=zl q9 DN;have DQ:=zl q' DQ;have hy:sZ mg:=⟨⟨_,Oz⟩,⟨_,OB⟩,⟨_,OD⟩,⟨_,OF⟩,⟨_,OC⟩⟩
 have vf:JX mg:=⟨⟨_,OA⟩,⟨_,OE⟩,⟨_,Oy⟩⟩
 obtain⟨_,_,c0,afs,pm,an,d1,ec,_,rfl,_,_⟩:=id D8.ex;refine⟨lH "law" "law" (mW x5) (ky x5) (cy x5) .none c0 afs pm an d1 ec,λs v=>.of_eq rfl,λbase _ _=>?_⟩;have Z:H5 l.prog w K mg base:=⟨trivial⟩
 have fE:s3 K nh:=⟨fc,MS,MT⟩
 have KT:Rt K:=⟨abM K⟩
 have CA:=Z.fn (Ċ mL.fn B KT);have r1:=Z.fn (Z7 hR.fn mL CA);have wj:=Z.fn (ċ jO.fn B);have r0:=Z.fn (Z8 hZ.fn);have CF:=Z.fn (aac mP.fn B hy);have Cj:=Z.fn (aad mJ.fn B hy mP CF);have CG:=Z.fn (aae mQ.fn hy jO wj hZ r0 hR r1);have Co:=Z.fn (aaf mK.fn B hy mQ CG);have t8:=Z.fn (aag k'.fn B fE mJ Cj mK Co);have Zw:=Z.fn (ε mL.fn B);have QN:=Z.fn (Y6 hR.fn mL Zw);have Gt:=Z.fn (ζ jO.fn B);have IC:=Z.fn (Y7 hZ.fn);have Cp:nA K mg "RoadError" hx ig:=⟨WJ,⟨_,_,_,_,_,_,q9,Cs,Pb,O7⟩,Oa,Nn,GX,Fs,Hi,⟨Fw,Gk,FE,FT,F0,FP,FG⟩,Md⟩
 have C2:nA K mg "RoadError" hg ig:=⟨WJ,⟨_,_,_,_,_,_,q',Cs,Pc,O8⟩,Ob,Np,GX,Fs,Hi,⟨Fx,Gl,FF,FU,F1,FQ,FH⟩,Me⟩
 have vZ:ut K mm:=⟨jw,MX,MY⟩
 have e3:S_ K qr:=⟨pW,MV,MU,MW⟩
 have da:p7 K pd:=⟨mX,MP,MO,MQ,MN⟩
 have kp:AE K ig [jm,jl,jn,hx,vd,hg,vg,ve,vj,vi,vh] jm jl jn hx hg:=⟨DH sz ⟨K9,M',Lk,LN,L3,LJ,Ln⟩ DO (Dk wL xw N3 (λ_=>rfl)) (DI (by decide+kernel) N4) (by decide) (dj.mpr ⟨⟨_,_,_,sz⟩,(dj.mpr ⟨⟨_,_,_,sy⟩,(dj.mpr ⟨⟨_,_,_,sA⟩,(dj.mpr ⟨⟨_,_,_,q9⟩,(dj.mpr ⟨⟨_,_,_,wY⟩,(dj.mpr ⟨⟨_,_,_,q'⟩,(dj.mpr ⟨⟨_,_,_,w0⟩,(dj.mpr ⟨⟨_,_,_,wZ⟩,(dj.mpr ⟨⟨_,_,_,w3⟩,(dj.mpr ⟨⟨_,_,_,w2⟩,(dj.mpr ⟨⟨_,_,_,w1⟩,(λ_ h=>bk h di)⟩)⟩)⟩)⟩)⟩)⟩)⟩)⟩)⟩)⟩)⟩) Mt,DH sy ⟨K8,M9,Lj,LM,L2,LI,Lm⟩ DM (Dk wL xw NZ (λ_=>rfl)) (DI (by decide+kernel) N0) (by decide) (dj.mpr ⟨⟨_,_,_,sz⟩,(dj.mpr ⟨⟨_,_,_,sy⟩,(dj.mpr ⟨⟨_,_,_,sA⟩,(dj.mpr ⟨⟨_,_,_,q9⟩,(dj.mpr ⟨⟨_,_,_,wY⟩,(dj.mpr ⟨⟨_,_,_,q'⟩,(dj.mpr ⟨⟨_,_,_,w0⟩,(dj.mpr ⟨⟨_,_,_,wZ⟩,(dj.mpr ⟨⟨_,_,_,w3⟩,(dj.mpr ⟨⟨_,_,_,w2⟩,(dj.mpr ⟨⟨_,_,_,w1⟩,(λ_ h=>bk h di)⟩)⟩)⟩)⟩)⟩)⟩)⟩)⟩)⟩)⟩)⟩) Mr,DH sA ⟨K',M_,Ll,LO,L4,LK,Lo⟩ DP (Dk wL xw N5 (λ_=>rfl)) (DI (by decide+kernel) N6) (by decide) (dj.mpr ⟨⟨_,_,_,sz⟩,(dj.mpr ⟨⟨_,_,_,sy⟩,(dj.mpr ⟨⟨_,_,_,sA⟩,(dj.mpr ⟨⟨_,_,_,q9⟩,(dj.mpr ⟨⟨_,_,_,wY⟩,(dj.mpr ⟨⟨_,_,_,q'⟩,(dj.mpr ⟨⟨_,_,_,w0⟩,(dj.mpr ⟨⟨_,_,_,wZ⟩,(dj.mpr ⟨⟨_,_,_,w3⟩,(dj.mpr ⟨⟨_,_,_,w2⟩,(dj.mpr ⟨⟨_,_,_,w1⟩,(λ_ h=>bk h di)⟩)⟩)⟩)⟩)⟩)⟩)⟩)⟩)⟩)⟩)⟩) Mu,DH q9 ⟨Fw,Gk,FE,FT,F0,FP,FG⟩ DN (Dk wL xw N1 (λ_=>rfl)) (DI (by decide+kernel) N2) (by decide) (dj.mpr ⟨⟨_,_,_,sz⟩,(dj.mpr ⟨⟨_,_,_,sy⟩,(dj.mpr ⟨⟨_,_,_,sA⟩,(dj.mpr ⟨⟨_,_,_,q9⟩,(dj.mpr ⟨⟨_,_,_,wY⟩,(dj.mpr ⟨⟨_,_,_,q'⟩,(dj.mpr ⟨⟨_,_,_,w0⟩,(dj.mpr ⟨⟨_,_,_,wZ⟩,(dj.mpr ⟨⟨_,_,_,w3⟩,(dj.mpr ⟨⟨_,_,_,w2⟩,(dj.mpr ⟨⟨_,_,_,w1⟩,(λ_ h=>bk h di)⟩)⟩)⟩)⟩)⟩)⟩)⟩)⟩)⟩)⟩)⟩) Ms,DH q' ⟨Fx,Gl,FF,FU,F1,FQ,FH⟩ DQ (Dk wL xw N7 (λ_=>rfl)) (DI (by decide+kernel) N8) (by decide) (dj.mpr ⟨⟨_,_,_,sz⟩,(dj.mpr ⟨⟨_,_,_,sy⟩,(dj.mpr ⟨⟨_,_,_,sA⟩,(dj.mpr ⟨⟨_,_,_,q9⟩,(dj.mpr ⟨⟨_,_,_,wY⟩,(dj.mpr ⟨⟨_,_,_,q'⟩,(dj.mpr ⟨⟨_,_,_,w0⟩,(dj.mpr ⟨⟨_,_,_,wZ⟩,(dj.mpr ⟨⟨_,_,_,w3⟩,(dj.mpr ⟨⟨_,_,_,w2⟩,(dj.mpr ⟨⟨_,_,_,w1⟩,(λ_ h=>bk h di)⟩)⟩)⟩)⟩)⟩)⟩)⟩)⟩)⟩)⟩)⟩) Mv⟩
 have SC:=J7.say (R:=⟨nM,BG,KH⟩) (D:=⟨K0,K2,K1,K4,K3,K5,K6,K7⟩) ⟨KQ,KS,KR,KX,KW,KP,KU,KV,Nb,Nd,Nc,Ni,Nh,Na,Nf,Ng⟩;have F6:=Z.fn (adz D4 Cp lK LQ);have F9:=Z.fn (adv D5 B C2 lK LY L0);have ae7:=Z.fn (Ā mP.fn B hy);have ae8:=Z.fn (ā mJ.fn B hy mP ae7);have ae9:=Z.fn (Ă mQ.fn hy jO Gt hZ IC hR QN);have adr:=Z.fn (Ć mK.fn B hy mQ ae9);have afa:=Z.fn (ý k'.fn B fE yo GW mJ ae8 mK adr);have T7:=Z.fn (adC t8 afa (by decide));have k8:=Z.fn (Y5 hT.fn B fE);have r4:=Z.fn (γ lN.fn B fE);have Nv:=Z.fn (aco t6.fn vf jO Gt hZ IC hR QN);have M6:=Z.fn (Į tS.fn B);have ads:=Z.fn (acp tY.fn B vf fc hT k8 t6 Nv tS M6 Cp r6 Mw J' Mi F6 afg);have pC:=Z.fn (aah jN.fn fE yo zb);have afb:=Z.fn (þ wU.fn B fE yo zo);have y':=Z.fn (abv pH.fn B fE jN pC);have Mp:=Z.fn (ġ tP.fn);have yK:=Z.fn (Ģ nB.fn tP Mp);have adt:=Z.fn (acn wQ.fn fE jN pC nB yK);have r5:=Z.fn (acV lO.fn vZ);have yJ:=Z.fn (acW pD.fn vZ fc yo zb hT k8 hZ IC);have r2:=Z.fn (acX lL.fn vZ fc yo zo pH y' pD yJ);have afc:=Z.fn (adx wc.fn vZ pD yJ);have aeK:=Z.fn (adw wy.fn vZ fc jN pC wU afb C2 sq Mx J_ Mj F9 afh);have aeL:=Z.fn (acQ wx.fn B vZ);have adu:=Z.fn (acm tO.fn);have aeM:=Z.fn (acP uq.fn B vZ fc pV hT k8 lN r4 pH y' nB yK tO adu lO.made lO r5 lL r2);have aeN:=Z.fn (acf wM.fn e3 pW yT);have Jh:=Z.fn (aaG uX.fn B pW Dj wM.made wM aeN wN yM wR ze yN);have ade:=Z.fn (acg t4.fn wV);have aeO:=Z.fn (adq tQ.fn B);have aeP:=Z.fn (ab2 CT.fn);have T1:=Z.fn (abA qN.fn B tQ aeO);have aeQ:=Z.fn (abB BF.fn qN T1);have nQ:∀g sp,Bi ⟨nM,BG,KH⟩ g sp->AY l.prog w K mg base bq 3 g sp:=by intro g sp h;cases h;exact⟨_,_,aeP.mono (by decide),CT.bd,CT.fn.b3⟩;exact⟨_,_,T1.mono (by decide),qN.bd,qN.fn.b3⟩;exact⟨_,_,aeQ,BF.bd,BF.fn.b3⟩
 have aeR:=Z.fn (ac9 ur.fn B);have adf:=Z.fn (abC t9.fn B zz yx nQ);have T2:=Z.fn (adb nC.fn B);have aeS:=Z.fn (acR tT.fn B nC T2);have T3:=Z.fn (adB pB.fn da jw pV lO.made lO r5 wx aeL lL r2);have adg:=Z.fn (acq Cf.fn da mX fc p1 k'.made k' T7 hT k8 lN r4 pB T3);have adh:=Z.fn (acr Ck.fn B da mX fc p1 k'.made k' T7 hT k8 lN r4 pB T3);have adi:=Z.fn (WF (CW:=mm) Ch.fn B da tY ads);have adj:=Z.fn (acu Cw.fn da jw wc afc lL r2);have adk:=Z.fn (acs BK.fn da uq aeM);have adL:=Z.fn (acd (CW:=mm) Cx.fn da fc wQ adt nC T2);have adM:=Z.fn (ace Cg.fn da jw wy aeK tT aeS);have adN:=Z.fn (sp:=(Jg pd mm nh)) (ach Cy.fn da uX Jh t4 ade);have agw:∀g sp,mr pd mm nh jm hx jl jn hg ⟨K0,K2,K1,K4,K3,K5,K6,K7⟩ g sp->AY l.prog w K mg base (mq l.prog w) 8 g sp:=by intro g sp h;cases h;exact⟨_,_,aK.wide adg (λ_ _ _ _ _ _ h=>z_ h) (by decide),Cf.bd,Cf.fn.b3⟩;exact⟨_,_,aK.wide adh (λ_ _ _ _ _ _ h=>z_ h) (by decide),Ck.bd,Ck.fn.b3⟩;exact⟨_,_,aK.wide adi (λ_ _ _ _ _ _ h=>h) (by decide),Ch.bd,Ch.fn.b3⟩;exact⟨_,_,aK.wide adj (λ_ _ _ _ _ _ h=>z_ h) (by decide),Cw.bd,Cw.fn.b3⟩;exact⟨_,_,aK.wide adk (λ_ _ _ _ _ _ h=>h.elim) (by decide),BK.bd,BK.fn.b3⟩;exact⟨_,_,aK.wide adL (λ_ _ _ _ _ _ h=>z_ h) (by decide),Cx.bd,Cx.fn.b3⟩;exact⟨_,_,aK.wide adM (λ_ _ _ _ _ _ h=>h) (by decide),Cg.bd,Cg.fn.b3⟩;exact⟨_,_,aK.wide adN (λ_ _ _ _ _ _ h=>h.elim) (by decide),Cy.bd,Cy.fn.b3⟩
 have adO:=Z.fn (ab3 (ND:=dA) (aY:=dA) wW.fn yO TD ur aeR t9 adf agw);have aeT:=Z.fn (adI ub.fn da mX p1 pV k'.made k' t8 lO.made lO r5);have aeU:=Z.fn (adn t_.fn B lK zI zc zq r6 CQ sq Ce CR CS C3 C4);have aeV:=Z.fn (ado ku.fn B mX lK DR wW (aK.Gm adO) t_ aeU);have aeW:=Z.fn (acT pG.fn B.len);have aeX:=Z.fn (Y4 tR.fn B);have Ua:=Z.fn (aaC nE.fn);have aeY:=Z.fn (acG t5.fn B);have adP:=Z.fn (ab6 ua.fn B);have adQ:=Z.fn (ab7 tU.fn B);have adR:=Z.fn (ab8 uu.fn B);have adS:=Z.fn (acB tN.fn B CP nE Ua);have adT:=Z.fn (ab5 t7.fn B);have aei:=Z.fn (acC uv.fn t7 adT ua adP tU adQ uu adR tN adS);exact acI D8 B SC kp zR ub.made ub aeT pG aeW tR aeX uv aei ku aeV nE Ua t5 aeY
theorem walk{l:Sz}{yC:b9->Heap->Prop}{tJ:bU->Heap->Prop}{d:DefRec}{K:Params->aQ}(aX:l.most=some 63)(B3:d.params.defaults=[])(Li:∀(w:bU)(h:Heap),tJ w h->(K w.params).In h)(F:∀(w:bU)(mg:b9)(gF:Addr)(h:Heap),(K w.params).In h->h.Ns p2 mg->mg d.name=some (.ref gF)->
   ∃fd:ni,(∀(s:aO)(u:Value),An s fd ⟨[u],[]⟩ [("_law_script",u)])/\∀base:Heap,(K w.params).In base->base.Ns p2 mg->aK l.prog w (K w.params) mg base bq 11 gF fd ["_law_script"] (D6 (K w.params))):
  Ţ q loose yC tJ l.row.toRowW d [] (λf vs=>SP f vs):=
 ao.ajJ (n:=63) (k:=11) (x:="_law_script") (CX:=λ_=>bq) (sp:=λw=>D6 (K w.params)) aX (by decide) B3 ⟨rfl,by decide,by decide⟩ Li F (λ_ _ a ns au _ ee=>⟨a,ns,rfl,ee,au,λ_=>rfl⟩) λ_ _ _ _ _ z=>z
end c2
structure PySem.W.Fast:Prop where(tw12482833190871291208 tw2994982871292794705 tw6176749012039007164 tw10151324282240710849 tw13567808580591592295 tw685838349635691417 tw9069905012079108314 tw6821578177320531409 tw2218842945753777676 tw17004173045356108751 tw15480404596828100817 tw10407765433163953987 tw11313172193632309983 tw17214578401101571533 tw12273590249418326080 tw2133266512284155508 tw12631732347021320291 tw6024042777084670395 tw1684788105903019912 tw16917828245276888173 tw3943581756254570073 tw1974303327025625796 tw9941878205240001532 tw8495158349002365048 tw14937706692340071588 tw4226448831869815183 tw5323515331399474760 tw13595992219353815545 tw12561578291932564281 tw771243479213202384 tw9148542233936190624 tw14441327778494571336 tw11168230490314121552 tw5865147664113334526 tw17699397535903561811 tw1651705348661864175 tw785056304362065274 tw16183584602910110842 tw17224617288756587362 tw13378152386543119907 tw7174951186931298266 tw11993881505573421340 tw14992095722663410939 tw3576683991323498777 tw10250184765524308380 tw13029821118330224713 tw9126900110607958589 tw17071171718010089337 tw18236129516712556032 tw10467086728596233700 tw15378645500576987412 tw13635523354751668471 tw12640962249965508186 tw36014179225232476 tw14580298441423068148 tw12060293643605173304 tw2007763694308629500 tw5809467285963365814 tw6331937477471539957 tw6769565737422002624 tw16961310487255828120 tw11416314040732342174 tw1971763479360360487 tw1149261310384201810 tw1031373645661861094 tw16350640677469718342 tw4767764648249678103 tw1384519685311578966 tw5816592042897114641 tw11389579193773506607 tw17890348942619959358 tw4381265093878938714 tw17745983508487069792 tw9129656107613934750 tw10028013964778941109 tw11245352406104675179 tw12407643345035489801 tw18262482178977070515 tw8828385124382640182 tw9414093641655463782 tw7688034378269786173 tw1213268256616525842 tw6035313615094606546 tw1960851927433057092 tw2123236389848098894 tw7882981109465702833 tw2442056825506967531 tw5065241066604345431 tw8522717890010988846 tw14971119004502866061 tw15942140870746407943 tw16212843854627433211 tw16607855508239109113 tw12825019979469599949 tw7372074272659995023 tw4373883615850981718 tw4800895628211104534 tw16660674463099063164 tw15981460538491556592 tw8569379746972785965 tw17849844462520438725 tw17110492633548083884 tw12094172181499027619 tw6645838620215763812 tw6257049397641537580 tw12988993951213263739 tw16224710659487862918 tw3524071321129345940 tw595686774221029682 tw3988684393917581190 tw10660577962702715225 tw15975504813346989470 tw2568821200296127815 tw14644747814897788445 tw17741719455288541838 tw13692716434509921607 tw4386539163243342249 tw10653208533770454850 tw12498730257789787130 tw8175375446535478519 tw9135143204297225020 tw619542354298503690 tw9490402331627586219 tw11807507582922811095 tw3846266198167288187 tw6373877661090920797 tw2061525665764016475 tw5173335268436470167 tw17214692301057800773 tw2510515380183845043 tw5498992045220979388 tw3112232683574323388 tw17256380339160443822 tw15794446074345538324 tw5971098371501397808 tw11666239377069492553 tw15407948792379218215 tw13829762446601593938 tw9421754277132929192 tw8139537547444497060 tw14292607873309845654 tw816524170180029537 tw6963513450776190020 tw16858301216987232430 tw4559540955949527289 tw7480358695247551338 tw13226565949634840044 tw11362234589764967446 tw7467702045555317490 tw11551954499594563872 tw6692196778209429671 tw1845819467357546747 tw18317146803853534885 tw16867116364979978787 tw16033495241776533638 tw3389868156409480201 tw992695040700441531 tw7280722273837079912 tw13002840357754617354 tw151180419665241680 tw16005970272073711883 tw15227027468142300527 tw11362800979401466949 tw11993444458869753857 tw3250387269951855112 tw6235159906915290459 tw4227231233290630871 tw9041412888153338006 tw1853782328301052931 tw898733015727069761 tw13612485291867475184 tw6399460640432027378 tw3879764238994686084 tw18283637839370478160 tw13467410519202589803 tw4033917711002316658 tw12612092796655067659 tw7613892359905525896 tw2885657361462031675 tw10001035505094095527 tw16612617589024869449 tw17259488115193959475 tw10896939386483437595 tw11409883171063324798 tw3045719106446096710 tw4972743061309465156 tw8297459563052606946 tw7928859249879045582 tw17415638537241554547 tw16491750057777822402 tw14970607366424454198 tw149074905024359120 tw4955859349105157897 tw7474985923146199694 tw9317195604573361272 tw15560404246641040577 tw16819373177761732647 tw15430517469843511752 tw516123507205155237 tw14723858878827839879 tw14542153711167535190 tw6023842011660907894 tw8902692510481852417 tw12227014566847436668 tw8972704519118954701 tw17237431435211964760 tw14817194689648715899 tw5647259504342950402 tw15451014300358565482 tw1417183501701415579 tw12180322894713348426 tw12808448953625444834 tw18394282895767103814 tw12353070587051133297 tw15416674381822593274 tw10353272313280435960 tw4244180968801039731 tw18367109028847057643 tw5954534662951492187 tw16957899917313981614 tw17216162557894051249 tw16732368981380957340 tw5607301172094158094 tw17713058401432557296 tw12747065761940450375 tw6868503407431981683 tw6760556583962409862 tw17983782041530555585 tw9873559696614713094 tw9995422086962924498 tw1699264259330681889 tw5510138213196724689 tw1860530588699391726 tw10707606379441696251 tw13215645507360463466 tw15259855223105352359 tw5404415715552646761 tw13350128631228554625 tw534079127376995657 tw12175029361141306336 tw12041926930768451597 tw13864529154528834478 tw13763391207625056717 tw7176148332601704189 tw10783334250950044695 tw4181196512870851354 tw8076287873785365604 tw2646731438306984182 tw9043431988036552716 tw9428415579384825063 tw16447693529355113651 tw6992766407086010292 tw411314646419727284 tw3400836111398937950 tw16152158405335819577 tw3391415829511831612 tw16308545565976261377 tw2826917114671210533 tw1605706861352151375 tw15772888702939440296 tw10921200412989689972 tw3657151414468577289 tw9395858696158099577 tw17865211621896014867 tw17529414797408378520 tw7986433347390480679 tw14673602211604081150 tw7622227473654768078 tw15155911550926417808 tw16843538956355589768 tw7704111243954760387 tw3427871579775001569 tw13184732545086251811 tw6196156418471843418 tw4144924700523122860 tw1629604567160598460 tw4013220910691302537 tw1284528188794798681 tw5089174554680395525 tw17613607772191950003 tw9149411385966925709 tw8664276182364771358 tw8797652120878534301 tw2420410373863428528 tw16478325762549116324 tw9352022756355009381 tw11839975786115203329 tw1231788594606638399 tw4448279900559232214 tw8950183040663005336 tw3315061677206620756 tw1358821863678319317 tw15187963970267397463 tw7114003160468731182 tw604120821137490190 tw13778261361529423730 tw960287330442577385 tw8880778520740349778 tw17920958156560182130 tw1136588832748291909 tw11371390543474772466 tw17414038296080461105 tw11105735480301463681 tw653988527363758001 tw9034733017791236375 tw15918494504934530048 tw15561636222032038853 tw6333047586365747345 tw14895448839393083366 tw1766954824302895927 tw284715762689497175 tw8403810956011446084 tw13131580577442376242 tw11184577935157328137 tw18185314876295058748 tw4197281038731155021 tw14111508414284826901 tw6717541146262323291 tw12327398074220901339 tw7420651703414904378 tw6776203014715611399 tw18360481780748187016 tw15301934501915749158 tw3493391953294909471 tw10617088823997206408 tw2221709959579401135 tw11961754219162831978 tw8272438550372721217 tw18035433879586768087 tw10281943079095539141 tw10420424802692502310 tw14752607988949041546 tw539248708389469976 tw12481685892058149204 tw11210826653659308425 tw5521733387206648328 tw17547989112046574029 tw8406293405329134403 tw2308042364082889978 tw16804594254618989489 tw16734768138915194512 tw17663262080177897816 tw15651956228418369798 tw7837320938326454860 tw12375143532501184262 tw15315648662717203795 tw7633790191794190077 tw8281185707378247564 tw14291923604733972051 tw18108110848165555504 tw1604742196439498653 tw6294014236643738855 tw3594948235391411343 tw3223359489120695952 tw627187059257414504 tw12421269652073313414 tw14366821786262954952 tw10449153644030263646 tw13787030508768319281 tw16724467760405918453 tw7787552034103210996 tw9438395163561867408 tw12690906209089901503 tw524067561477168146 tw15128197076903097287 tw12308606665370410725 tw14755256269614990326 tw3115344791554834125 tw3343438610845854314 tw2389707440831483531 tw285620021697110183 tw14215782759039881243 tw11606625232534282850 tw8663644936740891059 tw8500307797002890703 tw14715012716652370049 tw13769221278363381233 tw12243609774034825195 tw16116367743479012417 tw15756869478247030479 tw8194636545831868359 tw2708463237367879159 tw6183613642371637339 tw14656433920857928151 tw9169634333968563388 tw4685706519531144234 tw12304186593715318576 tw5902831124464975664 tw5181411359725371789 tw13305934178326214392 tw5077129320175091400 tw6161877834521624609 tw16024318750145857922 tw15304730068840458387 tw18102113233659163008 tw7543891841285886671 tw13445987318973447228 tw5813404384539535882 tw12853030553027649259 tw7957543111939884521 tw12476063813053350964 tw10286466848373512477 tw142930551518996863 tw10853741084482516544 tw16067008071755287620 tw18294740212455941099 tw6156279518584149513 tw10196557729953034894 tw14957526613738405646 tw3155216419738658936 tw2129903901307829607 tw11761973340192291849 tw13491553616061373851 tw15293652326974209093 tw2023028455160744032 tw2490517940317791696 tw12138833964933138781 tw4372173689569263558 tw4723231034012096773 tw1045666238198977630 tw995736316144194004 tw1482418476968158130 tw16399774709025362425 tw2868320259605899085 tw4947829945781267003 tw648530696833115299 tw7077848064672154234 tw7288332291764909166 tw17380862304186148013 tw8011039539273861510 tw6675158766247282526 tw11940601649425206367 tw15310254264707821009 tw7498285337103159592 tw9748132490385891824 tw14171916559791430645 tw3494983577754311016 tw1563125965475305703 tw16312285058042288250 tw285458546055458770 tw18088678247586542574 tw16071735961943752353 tw2784184719062193209 tw489815910583523828 tw826478161735539359 tw11886901449862278544 tw9748124474114739146 tw5116416112392169512 tw3739108884455226851 tw7524245230414645257 tw8085600449542446243 tw6081752808883401911 tw10516000186362444971 tw11415614200398043814 tw2201165757074304981 tw2676370409998412435 tw15368709363708308811 tw12325172320582288642 tw15472574761119670634 tw16338961176118315394 tw18132614661343348351 tw4270410670577492712 tw9829851344842053726 tw5649921447810820013 tw7321719061323214448 tw10605982673727059694 tw2866980659927546809 tw5610952837105685661 tw11487341959561461928 tw4572684426978067642 tw13802460481520584978 tw5625222127302548051 tw17603427393969279459 tw3628024769001823302 tw13363740552741312588 tw17407865051463583686 tw5107448711488997828 tw8637115260134703735 tw16681945923355795605 tw15305790249505139367 tw15919010727606258800 tw9350184777970936327 tw284676436232190148 tw866514369947224540 tw11612096314477928461 tw4488002088033656258 tw15093115119368513677 tw9329339060004522844 tw983373304924970076 tw12244355172679007281 tw767318530402635899 tw1989113473366636498 tw17656025597193521583 tw10473578339609494244 tw14726613813140435261 tw11884548507635204236 tw10657670752330120039 tw10845182008519668312 tw10403711067945759963 tw12303723460905995759 tw14683471954333438291 tw2088760356279950940 tw13724471970091154111 tw15305236619063818397 tw17154415473618071834 tw2042381718144464474 tw17137098309460579375 tw17926778873875079649 tw17928294484799216498 tw15771717547214431034 tw3363058100196834999 tw7993840571482099745 tw3074080441695160104 tw6211412167874320403 tw1653394264576374532 tw10223184932484995105 tw9295829871691906629 tw8265774579585981382 tw3504839987644227839 tw9961991630674263474 tw13099481463312283211 tw450612956603687146 tw10316117834554900680 tw5593022998799854079 tw15945210939464648338 tw5499630210635280377 tw14558643631262460390 tw16055210199363078290 tw9508109603045438335 tw2847502798501778597 tw18406375147919805429 tw5377932043653692296 tw2163320425116876439 tw835768403134313116 tw10596731724144787860 tw3886634849293520370 tw5884307176456775539 tw14718936367633289043 tw3242738844189324400 tw13336575300178657729 tw7763385302248216296 tw13496045837582114796 tw267831274511894659 tw18022688322634789103 tw17711897578502480127 tw8736297723166027320 tw5852181384300215275 tw1665609706039064934 tw10170136433177006488 tw11836756245016294704 tw3797184784983007218 tw12629518323153313798 tw1022574141585747786 tw7466309639492707403 tw17418683031324466677 tw16148749813179274924 tw7868340739384331286 tw12520471024332984167 tw1633532809180298578 tw2617678744985860559 tw15962558020474377956 tw6557311081063267616 tw1746606719264126346 tw2051398732398077139 tw9797635507555750246 tw15932692342813483938 tw1534169234467729881 tw5851886368537807657 tw3590869594173292088 tw8775649958263293606 tw10520395499491656074 tw16002685356546905021 tw11582745693983076889 tw17766476884422678956 tw7352405227818032539 tw1935828260152368518 tw6261088670038278664 tw686826125964776924 tw5994643613179356817 tw15019367184377851871 tw10024643477198608536 tw5391045400690972838 tw3806722975021205648 tw33377807342269544 tw7553965267549266231 tw17776418178992627076 tw12478606709961771423 tw9548905240865920389 tw15385915411460136621 tw2787819012747581747 tw774927497795074006 tw17041947067982596806 tw17069573356282497287 tw3259609732935510958 tw15768674458333930735 tw10261388529980413789 tw6647954352199606485 tw6786839000127304859 tw5556166569690122506 tw11278994458351409719 tw13322793182437731699 tw7824513491926223112 tw17708575609272796064 tw16057284308828166898 tw12655578785308358402 tw12817516744578490137 tw7676602384244535128 tw15757386564697104424 tw1858025238786883117 tw16694755015481169888 tw2675762589883610538 tw7617889756059415234 tw14236858948998318111 tw15679491180743431098 tw9494512911030100244 tw15334371653304180538 tw6159562238141270865 tw1492195641859159763 tw6394495299585235763 tw8267129225629609017 tw3478451763626725317 tw11670311707349841898 tw14053874716618629385 tw13355779190287040614 tw11848019018772035207 tw16530502342932562639 tw7747909933193093789 tw10066768208400261286 tw3645425327104861251 tw11283624706005206648 tw14100401466765569588 tw6711245522714544991 tw11064387766096627143 tw3528328108354723068 tw12640800051050758064 tw3224196237916391126 tw6451228665731439598 tw12505897418752647671 tw15175655515199832014 tw5400124094756551695 tw10172312158294938969 tw6716769252371934861 tw8511849583751884475 tw11248461933005893243 tw17619543827667965023 tw12266517435369763027 tw2050763393844426948 tw12139965114817843885 tw12307626496292575518 tw12846678813791141199 tw2663315789372385739 tw4685696622824831578 tw5179113450809712619 tw1406157780587136313 tw13133859123555228153 tw11607813772729974823 tw17966235963501147546 tw9569004122090474907 tw4705329580715046662 tw5407944012510655754 tw14383609286577644078 tw4084256094954867351 tw15964371353245806405 tw1740550957048284757 tw11058269460842287297 tw13948323718412479373 tw5143323732159456442 tw17828863179859869089 tw17283137482558744178 tw16755754607295483266 tw4105853692456588670 tw7620798538206791209 tw17875316120970387594 tw10533457731764429572 tw9404909200912798096 tw15909908977867918057 tw17925954793384245335 tw808964122580720587 tw14428090188733900518 tw2431837147079109735 tw671874428377984982 tw8517779336424556844 tw7673384384964502772 tw6998763027156362164 tw12979563757822955167 tw14174700347861194378 tw17350161818318728333 tw10015809292399401931 tw8613447811016957880 tw4979301644388089986 tw9492589475392299174 tw8903249887102632623 tw11852350725334401556 tw7790691745750059890 tw14790439283894044470 tw15455394093710691749 tw1364210632701831310 tw3647132969824460675 tw11111866100571228007 tw1163191663811778873 tw5941488659203472745 tw4837280685829700165 tw137069644542631473 tw2245664960288223693 tw13848802378690499410 tw15460105741439902191 tw9910768926862383450 tw3043363012225580634 tw17146500494947199885 tw17116710339031169563 tw4947220221796495797 tw18242774548309802942 tw9499336669913425786 tw14470211326850449392 tw9052614074550255969 tw66593299499336615 tw2896859501641111882 tw10410520418775900368 tw889553347917224494 tw13978913034027542247 tw9521052090791776212 tw6464597094648497769 tw1659222200481245413 tw2880713158892680551 tw12135833593830339095 tw16749125246019397174 tw6759584077329218706 tw9551224091922968658 tw11083199588841577576 tw12270682836172468442 tw416716410187943099 tw7845127201598108193 tw6049219803028268756 tw4369459836405372126 tw17522430513340692818 tw14880787171912649804 tw5038561178327010460 tw14120198812058198500 tw16021731743622388008 tw10065533030023554393 tw3610530352521027821 tw15441724736044934347 tw4611142766822115162 tw16721926037285854062 tw14870338254529274275 tw11876854491743640726 tw5741599273255278630 tw4780460831719639010 tw6898726842551580844 tw3184078256637158845:True)
theorem K1.glueM {A B C : Type} {f : A → C} {g : B → C} {l : List A} {r : List B} (n : Nat) (h1 : (l.take n).map f = (r.take n).map g) (h2 : (l.drop n).map f = (r.drop n).map g) : l.map f = r.map g := by
  have e1 : l.map f = (l.take n ++ l.drop n).map f := by rw [List.take_append_drop]
  have e2 : r.map g = (r.take n ++ r.drop n).map g := by rw [List.take_append_drop]
  rw [e1, e2, List.map_append, List.map_append, h1, h2]
local macro_rules | `($f:ident ($_:ident $k:term $a:term $e:term)) => if f.getId.eraseMacroScopes == `Hook.obs then `(fun s : PySem.Shared => (List.map s.heap.get? (List.take 98 $a), List.map s.heap.get? (List.take 98 (List.drop 98 $a)), List.map s.heap.get? (List.take 98 (List.drop 98 (List.drop 98 $a))), List.map s.heap.get? (List.take 98 (List.drop 98 (List.drop 98 (List.drop 98 $a)))), List.map s.heap.get? (List.take 98 (List.drop 98 (List.drop 98 (List.drop 98 (List.drop 98 $a))))), List.map s.heap.get? (List.take 98 (List.drop 98 (List.drop 98 (List.drop 98 (List.drop 98 (List.drop 98 $a)))))), List.map s.heap.get? (List.take 98 (List.drop 98 (List.drop 98 (List.drop 98 (List.drop 98 (List.drop 98 (List.drop 98 $a))))))), List.map s.heap.get? (List.drop 98 (List.drop 98 (List.drop 98 (List.drop 98 (List.drop 98 (List.drop 98 (List.drop 98 $a))))))))) else if f.getId.eraseMacroScopes == `Hook.val then `(fun w : PySem.World => (List.map (fun p : PySem.Addr × PySem.Obj => some p.2) (List.take 98 ($k w.params)), List.map (fun p : PySem.Addr × PySem.Obj => some p.2) (List.take 98 (List.drop 98 ($k w.params))), List.map (fun p : PySem.Addr × PySem.Obj => some p.2) (List.take 98 (List.drop 98 (List.drop 98 ($k w.params)))), List.map (fun p : PySem.Addr × PySem.Obj => some p.2) (List.take 98 (List.drop 98 (List.drop 98 (List.drop 98 ($k w.params))))), List.map (fun p : PySem.Addr × PySem.Obj => some p.2) (List.take 98 (List.drop 98 (List.drop 98 (List.drop 98 (List.drop 98 ($k w.params)))))), List.map (fun p : PySem.Addr × PySem.Obj => some p.2) (List.take 98 (List.drop 98 (List.drop 98 (List.drop 98 (List.drop 98 (List.drop 98 ($k w.params))))))), List.map (fun p : PySem.Addr × PySem.Obj => some p.2) (List.take 98 (List.drop 98 (List.drop 98 (List.drop 98 (List.drop 98 (List.drop 98 (List.drop 98 ($k w.params)))))))), List.map (fun p : PySem.Addr × PySem.Obj => some p.2) (List.drop 98 (List.drop 98 (List.drop 98 (List.drop 98 (List.drop 98 (List.drop 98 (List.drop 98 ($k w.params)))))))))) else if f.getId.eraseMacroScopes == `Hook.of then `(fun w s h => PySem.W.InK.of $e w s (K1.glueM 98 (congrArg (fun x => x.1) h) (K1.glueM 98 (congrArg (fun x => x.2.1) h) (K1.glueM 98 (congrArg (fun x => x.2.2.1) h) (K1.glueM 98 (congrArg (fun x => x.2.2.2.1) h) (K1.glueM 98 (congrArg (fun x => x.2.2.2.2.1) h) (K1.glueM 98 (congrArg (fun x => x.2.2.2.2.2.1) h) (K1.glueM 98 (congrArg (fun x => x.2.2.2.2.2.2.1) h) (congrArg (fun x => x.2.2.2.2.2.2.2) h))))))))) else Lean.Macro.throwUnsupported
open PySem PySem.W PyProof.Rows
set_option maxRecDepth 100000 in
set_option maxHeartbeats 0 in
theorem PySem.Challenge.cw_postroad_k83_what_stands_at_the_desk_holds : PySem.Challenge.rw_postroad_k83_what_stands_at_the_desk.Holds := by
 w_on;o_law;k_head;(case hw=>w_witness2)
 k_fill
 refine c2.walk (l:=akO) rfl rfl (λw h Y=>PySem.W.kIn_of Y) ?F
 case F=>
  intro w mg gF h nr G B5
  refine' c2.all_mk B5 ?p1 ?pV ?Dj ?zR ?lK ?zI ?zc ?zq ?r6 ?CQ ?sq ?Ce ?CR ?CS ?C3 ?C4 ?fc ?MS ?MT ?k' ?hT ?lN ?wU ?pH ?jN ?wQ ?jw ?MX ?MY ?lO ?lL ?wc ?wy ?wx ?pD ?pW ?MV ?MU ?MW ?wM ?yT ?ze ?yM ?yN ?mX ?MP ?MO ?MQ ?MN ?ub ?wW ?pB ?mL ?hR ?jO ?hZ ?mP ?mJ ?mQ ?mK ?t6 ?tS ?tY ?tQ ?tP ?nB ?tO ?uq ?wN ?wR ?uX ?wV ?t4 ?CT ?qN ?BF ?ur ?t9 ?nC ?tT ?Cf ?Ck ?Ch ?Cw ?BK ?Cx ?Cg ?Cy ?pG ?tR ?t_ ?ku ?nE ?t5 ?ua ?tU ?uu ?tN ?t7 ?uv ?Ka ?D8 ?Cs ?sz ?sy ?sA ?q9 ?wY ?q' ?w0 ?wZ ?w3 ?w2 ?w1 ?J' ?Mi ?D4 ?J_ ?Mj ?D5 ?Pa ?O' ?O9 ?O_ ?DR ?DO ?DM ?DP ?DN ?DQ ?Oz ?OB ?OD ?OF ?OC ?OA ?OE ?Oy ?B ?Pb ?O7 ?Oa ?Nn ?Md ?Mw ?Fw ?Gk ?FE ?FT ?F0 ?FP ?FG ?Pc ?O8 ?Ob ?Np ?Me ?Mx ?Fx ?Gl ?FF ?FU ?F1 ?FQ ?FH ?GX ?Fs ?Hi ?LQ ?LY ?L0 ?K9 ?M' ?Lk ?LN ?L3 ?LJ ?Ln ?K8 ?M9 ?Lj ?LM ?L2 ?LI ?Lm ?K' ?M_ ?Ll ?LO ?L4 ?LK ?Lo ?wL ?xw ?N4 ?N3 ?Mt ?N0 ?NZ ?Mr ?N6 ?N5 ?Mu ?N2 ?N1 ?Ms ?N8 ?N7 ?Mv ?zz ?yO ?CP ?yx ?TD ?KQ ?Nb ?KS ?Nd ?KR ?Nc ?KX ?Ni ?KW ?Nh ?KP ?Na ?KU ?Nf ?KV ?Ng
  (case p1|pV|Dj|zR|lK|zI|zc|zq|r6|CQ|sq|Ce|CR|CS|C3|C4|Ka|Oz|OB|OD|OF|OC|OA|OE|Oy|zz|yO=>refine' Ű nr G ?z;(case z=>k_is))
  (case fc|jw|pW|mX=>constructor<;>k_is)
  (case MS|MT|MX|MY|MV|MU|MW|MP|MO|MQ|MN|Cs|sz|sy|sA|q9|wY|q'|w0|wZ|w3|w2|w1|J'|Mi|J_|Mj|Oa|Nn|Md|Mw|Fw|Gk|FE|FT|F0|FP|FG|Ob|Np|Me|Mx|Fx|Gl|FF|FU|F1|FQ|FH|GX|Fs|Hi|LQ|LY|L0|K9|M'|Lk|LN|L3|LJ|Ln|K8|M9|Lj|LM|L2|LI|Lm|K'|M_|Ll|LO|L4|LK|Lo|wL|xw|N4|N3|N0|NZ|N6|N5|N2|N1|N8|N7=>k_is)
  (case k'|lO|wM|ub=>refine' c2.ahw ?a ?b ?c ?d ?z ?y ?x ?u;(case a|b|c|d|z|y|x=>k_is);(case u=>intro _ _ _ _ _ _ us au;first|(obtain⟨_,rfl⟩:=c2.MB au;rfl)|(obtain⟨_,_,rfl⟩:=c2.F_ au;rfl)|(obtain⟨_,_,_,rfl⟩:=c2.Ga au;rfl)|(obtain⟨_,_,_,_,rfl⟩:=c2.MC au;rfl)|(obtain⟨_,_,_,_,_,rfl⟩:=c2.MD au;rfl)|(obtain⟨_,_,_,_,_,_,rfl⟩:=c2.ME au;rfl)|(obtain⟨_,_,_,_,_,_,_,rfl⟩:=c2.MF au;rfl)))
  (case hT|lN|wU|pH|jN|wQ|lL|wc|wy|wx|pD|yT|ze|yM|yN|wW|pB=>refine' c2.ahR ?a ?b ?z ?y ?x ?u;(case a|b|z|y|x=>k_is);(case u=>intro _ _ _ _ _ _ us au;first|(obtain⟨_,rfl⟩:=c2.MB au;rfl)|(obtain⟨_,_,rfl⟩:=c2.F_ au;rfl)|(obtain⟨_,_,_,rfl⟩:=c2.Ga au;rfl)|(obtain⟨_,_,_,_,rfl⟩:=c2.MC au;rfl)|(obtain⟨_,_,_,_,_,rfl⟩:=c2.MD au;rfl)|(obtain⟨_,_,_,_,_,_,rfl⟩:=c2.ME au;rfl)|(obtain⟨_,_,_,_,_,_,_,rfl⟩:=c2.MF au;rfl)))
  (case mL|hR|jO|hZ|mP|mJ|mQ|mK|t6|tS|tY|tQ|tP|nB|tO|uq|wN|wR|uX|wV|t4|CT|qN|BF|ur|t9|nC|tT|Cf|Ck|Ch|Cw|BK|Cx|Cg|Cy|pG|tR|t_|ku|nE|t5|ua|tU|uu|tN|t7|uv=>refine' c2.afu nr G ?a ?z ?y ?x ?u;(case a|z|y|x=>k_is);(case u=>intro _ _ _ _ _ _ us au;first|(obtain⟨_,rfl⟩:=c2.MB au;rfl)|(obtain⟨_,_,rfl⟩:=c2.F_ au;rfl)|(obtain⟨_,_,_,rfl⟩:=c2.Ga au;rfl)|(obtain⟨_,_,_,_,rfl⟩:=c2.MC au;rfl)|(obtain⟨_,_,_,_,_,rfl⟩:=c2.MD au;rfl)|(obtain⟨_,_,_,_,_,_,rfl⟩:=c2.ME au;rfl)|(obtain⟨_,_,_,_,_,_,_,rfl⟩:=c2.MF au;rfl)))
  (case D8|D4|D5=>refine' ao.wu ?z ?y ?x;(case z|y|x=>k_is))
  (case Pa|O'|O9|O_=>k_exc)
  (case DR|DO|DM|DP|DN|DQ|Pb|O7|Pc|O8|Mt|Mr|Mu|Ms|Mv=>decide+kernel)
  (case B=>constructor<;>(refine ů nr G ?_;k_is))
  (case CP=>refine ů nr G ?_;k_is)
  (case yx|TD=>refine' c2.ajk ?l ?k ?s;(case l=>k_is);(case k=>repeat (first|exact lJ|refine And.intro ⟨_,_,rfl,rfl⟩ ?_));(case s=>decide+kernel))
  (case KQ|KS|KR|KX|KW|KP|KU|KV=>refine' c2.afX ?y ?z;(case y|z=>k_is))
  (case Nb|Nd|Nc|Ni|Nh|Na|Nf|Ng=>k_is)
