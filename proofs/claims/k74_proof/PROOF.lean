import PyProof.Rows.All
import Wide.All
import OpenK.AllK
import Wide.FinOn
import Lean
import PyProof.EqAt
import PyProof.EqKinds
import PyProof.TupleCall
import PySem.Challenge.RW_postroad_k74_whole_log_walked
set_option Elab.async false
set_option linter.all false
set_option maxRecDepth 100000
set_option maxHeartbeats 4000000
abbrev bp:=@if_neg
abbrev bx:=@absurd
abbrev bB:=@if_pos
abbrev cT:=@decide_eq_true
abbrev dn:=@decide_eq_false
abbrev ht:=@congrArg
abbrev kL:=@of_decide_eq_true
abbrev o6:=@beq_iff_eq
abbrev zR:=@beq_eq_false_iff_ne
open Array renaming length_toList->nU,getD->q5,getElem?_toList->sr,getElem?_eq_getElem->y1,getElem?_eq_none->y2,append_assoc->SU,Perm.refl->ő,toList->Œ,toList_push->œ
open Bool renaming false_ne_true->fU,and_eq_true->iB,false_eq_true->m9,eq_iff_iff->BI,not_true->BJ,true_and->BK,eq_false_iff->Kx,false_and->Ky,not_false->Kz,not_eq_true'->SW,and_true->ś,or_false->Ŝ,or_true->ŝ
open Classical renaming choose_spec->KR,byContradiction->ŵ,choose->Ŷ
open False renaming elim->iU
open ForInStep renaming yield->KW
open Int renaming toNat_natCast->kQ,emod_nonneg->lQ,zero_add->nc,le_refl->oR,emod_lt_of_pos->p1,toNat_of_nonneg->ug,toNat->Fv,ofNat_lt->Lg,emod_eq_of_lt->Ug,le_of_lt->Uh,le_trans->Ui,natCast_nonneg->Uj,add_assoc->aa5,min_eq_left->aa6,ne_of_lt->aa7,not_lt->aa8,ofNat.inj->aa9,ofNat_le->aba,toNat_eq_max->abb
open List renaming length_map->bk,mem_map->b7,getElem?_map->cx,getElem?_eq_getElem->cF,mem_cons->dv,range->dK,mem_of_getElem?->dV,getElem?_eq_some_iff->eb,not_mem_nil->eo,getD->eF,map_append->fm,size_toArray->fN,mem_filter->gj,map_map->gU,mem_singleton->g5,mem_append->hl,length_append->hD,map_cons->hE,length_range->iD,nodup_cons->iE,mem_range->j5,forall_mem_cons->kv,length_cons->lR,length_take->lS,getElem_of_mem->mr,length_filter_le->nf,mem_cons_of_mem->ng,take_add_one->oT,take_length->oU,filter_append->p2,filter_cons->p3,any_eq_true->q8,append_nil->q9,getElem?_append_right->sE,getElem?_of_mem->sF,getElem_mem->sG,length_eq_zero_iff->sH,map_congr_left->sI,mem_append_right->sJ,lookup->uk,mem_cons_self->um,nodup_nil->uo,getElem?_append_left->wA,getElem?_eq_none->wB,getElem_inj->wC,getElem_map->wD,pairwise_map->wF,all_eq_true->ze,ext_getElem?->zf,filter_map->zg,getElem_range->zh,length_pos_iff->zi,toArray->zj,filterMap_cons->B4,find?_cons->B5,length_nil->B6,range_succ->B7,replicate->B8,Perm.refl->F2,any_cons->F3,append_assoc->F4,drop_eq_getElem_cons->F5,ext_getElem->F6,filter_eq_self->F7,length->F8,nodup_append->F9,pairwise_iff_getElem->F',pairwise_lt_range->F_,take_zero->Ga,cons.injEq->Lk,filter_nil->Ll,getElem?_cons_zero->Lm,getElem?_range->Ln,length_drop->Lo,map_id'->Lp,map_nil->Lq,map_take->Lr,mem_filterMap->Ls,mem_flatMap->Lu,mem_iff_getElem->Lv,nodup_range->Lw,pairwise_cons->Lx,sum_cons->Ly,take_append_drop->Lz,take_sublist->LA,Pairwise->Vb,concat_eq_append->Vc,eq_nil_or_concat->Vd,exists_mem_of_ne_nil->Ve,getElem?_set_ne->Vf,getElem?_set_self->Vg,getLast?_append->Vh,mem_of_mem_take->Vi,of_mem_zip->Vj,Pairwise.imp_of_mem->abM,Pairwise.nil->abN,all_cons->abO,any_eq_false->abP,contains_cons->abQ,countP_cons->abR,countP_le_length->abS,countP_pos_iff->abT,drop_sublist->abU,forIn_cons->abV,forIn_nil->abW,getElem_drop->abX,getElem_take->abY,getLast?_singleton->abZ,getLastD_eq_getLast?->ab0,length_eraseIdx_of_lt->ab1,length_flatMap->ab2,map_id->ab3,map_reverse->ab4,mem_append_left->ab5,mem_iff_getElem?->ab6,mem_of_mem_drop->ab7,range_succ_eq_map->ab8,sum_append->ab9,take_of_length_le->aca,zip_cons_cons->acb,zip_nil_left->acd
open Nat renaming le_refl->bU,ne_of_lt->dR,le_trans->eP,zero_le->eZ,lt_of_lt_of_le->iX,le_succ->oY,lt_of_le_of_lt->oZ,le_of_lt->q',lt_irrefl->q_,lt_succ_of_lt->sN,lt_succ_self->ur,lt_or_ge->wM,ne_of_gt->zC,pos_of_ne_zero->zD,min_le_right->Ck,not_lt_zero->Cm,sub_self->Gb,le_of_eq->LD,lt_of_succ_lt->LF,lt_or_eq_of_le->LG,succ_le_succ->LH,succ_ne_self->LI,zero_add->LJ,lt_trans->Vr,min_eq_left->Vs,le_antisymm->ac0,le_of_lt_succ->ac1,le_zero->ac2,lt_trichotomy->ac3,min_eq_right->ac4,mod_lt->ac5,mul_le_mul->ac6,not_lt->ac7,sub_le->ac8
open Ne renaming symm->c2
open Option renaming map_eq_some_iff->e0,some.inj->gV,isSome_iff_exists->sP,map_some->Gd,some.injEq->LQ,isSome_map->VL,none->ads
open Or renaming inl->cR,inr->o1
open Prod renaming ext->wN
open PyProof.Rows renaming seqObj->iv,envOfC->o_,AllBare->sq,IsTup->wx,SortKind->zM,IntsAre->Fw,oneType'->II,callWith_type1->LY,keyKind'->Ph,kmk_tree->VY,slot_tuple_getitem->VZ,Subscript_->WO,args_list_sort->XO,args_sorted1->XP,entry_list_sort->Yn,entry_sorted->Yo,kind_sorted->Z0,plain_sorted->Ã,slot_list_sort->â,subscriptTail->ë,test_link->ï,callWith_builtin1->adH,callWith_builtin_kwB->akF,get?_update_seq->alL,slicePart_none->apG,subscriptTail_builtinR->apL,setObjOf_fresh->arz
open PyProof.Rows.F renaming plain_set_update_loop->Ct,entry_set_update_loop->LX
open PySem renaming wpAny_bind->au,Shared->aK,wpAny->aL,wpAny_pure->aT,model->aX,Paired->bO,World->bS,Value.ref->cu,Program->cG,Heap.lt_size->c5,Heap.get?_push_of_some->dm,Around->du,starEach->dY,Str->e1,Str.ofString->e8,Heap.get?_push_size->fM,argBest->fX,wpAny_mono->gi,Value.none->gm,compareOp->gA,Paired.length->gW,PyData.eqv->hn,backTo->hp,wpAny_holding->hA,pyNext->ig,Value.int->iF,bootBuiltins->iG,codeAny->iH,Heap.get?_update_other->je,rawInt->jE,wpAny_loadPart_at->j1,PassesOwn.never->j6,Heap.get?_update_self->kr,codeAny_builtin->kz,SetTable->kT,plainId_quiet->lF,backToKw->lY,keywordEach->l6,sysModules->me,wpAny_truthy_bool->ml,Around.under_plainId->mm,Heap.SameBut->mn,Model->mu,Result->my,holding->mU,wpAny_newObj_type->m7,FuncData->m_,Value.type->nk,wpAny_call_entry->nS,Obj.mapSeq->nZ,SetTable.below->n4,wpAny_tryCatch->oK,Str.empty->o4,wpAny_call->pQ,wpAny_letGo->pR,wpAny_rule->pS,Obj.data_mapFields->p7,PyData.canLayAll0->p8,PyData.list->p9,codeAny_mono->qm,mainGlobals->qF,argsOk->rk,wpAny_seqItems->r_,wpAny_updateSeq->sa,CmpOp->sv,DictEntry->sy,Heap.size_push->sA,Obj.mapFields->sO,Walks->sS,intKind->tn,sizeLine_eq->tR,standAt->tU,Heap.FlyingW->ue,PyData.int->uu,atKey->uB,binaryOp->uD,codeAny_call_builtin->uK,isInstance->vi,seqItems?->vX,valueAt->v_,wpAny_setField->wd,IsPart->wu,Keyword->wy,NameKind->wL,PyData.canLay0->wO,PyData.depthAll->wQ,Value.builtin->w3,Value.str->w4,assignEach->w6,behindInMarks->w9,bindC->w',bindL->w_,getItem->xy,updateSeq->yJ,wpAny_Call_Name_kw->yR,wpAny_of_eq->yS,ExcBaseFacts->y7,OwnTail->zF,Within->zJ,SetTable.grown->zK,assign->zP,attributeBase->zQ,callerA->zT,excClassObj->zZ,getMethod->z4,hashInt->z8,pyIter->AR,relayAll->A4,setField->A9,swapsWith->A_,tupleKind->Ba,wpAny_passesOwn->Bt,wpAny_pyIter_list->Bu,BindsTo->BH,Obj.isFreed_of_fields->Cq,Value->Cw,mem_of_lookup->CA,Walks.list->CQ,callWith->CU,call_meetsIn->CV,instanceDict->DD,isTrue->DE,pickOrder->Ea,setAttr->Eo,tupleKind_room_in1->ED,wpAny_attempt->EM,wpAny_execs_nil->EN,wpAny_fieldsOf->EO,wpAny_ite_split->EP,wpAny_standAt->ER,Code.quiet_builtin->Fj,Data.cell->Fp,bindArgs->GS,isSubtype_type->HR,preSum->IS,relabel->I2,richCompare->I3,wpAny_callSpecial?_slot->J4,wpAny_dictEntries->J5,wpAny_eqBool_int->J6,wpAny_isInstance->J7,ClassData->KQ,Heap.ExtBut->K_,Obj.cls_mapFields->LM,Obj.putSet->LN,Value.bool->Ml,Value.isStrOf->Mm,codeAny_of_tree->MX,entryOfKey->Nd,firstArgMember->Nx,fits_of_scanBound->Ny,foldedSetIterable->NB,getAttr->ND,letOwnedTupleGo->Pu,noteFrame->Qc,refuseLoop->QP,setFlight->Q3,setNext->Q4,subscripted->Ry,wpAny_Call_method->Sd,wpAny_isSubtype_exc->Se,wpAny_newList->Sf,wpAny_pyIter_slot->Sg,wpAny_tupleItemsOf->Sh,wpAny_typeNameOfWhole_keyiter->Si,wpAny_typeNameOf_keyiter->Sj,Around.under->SS,Code.isFrame->S5,Data.fields->Tb,Heap.HeldW->T6,Heap.MadeExcOf->T7,Heap.get?_none_of_le->T8,Heap.get?_update_ne->T9,PyData.none->VX,Fin->V2,Within.cons->Wc,call->Wd,frameOf->We,SetTable.has->WK,Value.float->WS,builtinsNs->XU,cellsFrom->XY,checkBuiltinCall->XZ,checkCount->X0,closureFor->X3,drawOrder->X5,entryPlaceOf->Ym,getAttrBy->YH,handedOut->Y2,intKind_is->ZT,lastMarks->Z7,onTheHeap->Υ,raiseStmt->Í,refuseLoop_ref->Ï,seqIndex_neg->Û,seqIndex_of->Ü,sliceBounds->à,wpAny_Name->Č,wpAny_askSetting->č,wpAny_dictEpoch->Ď,wpAny_execs_cons->ď,wpAny_field->Đ,wpAny_isOneOf_keyiter->đ,wpAny_load->Ē,wpAny_runValue->ē,wpAny_setEntries_of->Ĕ,wpAny_typeOf->ĕ,Around.under_plain->Ő,Heap.get?_push_at->aaO,Heap.get?_some_iff->aaP,Obj.data_mapDictKeys->adk,Addr->adI,Within.nil->aeg,SetTable.orStandIn->ae6,Value.isInt_shape->agb,behindIsImport->akB,builtinLookup_eq_fast->akE,check_set_init_1->akH,entryFor_alias->ak3,fastBuiltinMro->alh,isSubtype_stop->anw,isSubtype_tuple_tuple->anx,pastItsLine_dict->ao1,plainObj_wpAny_Assign_Attribute->ao4,raiseErrorWords->apl,size_of_entries->apF,slot_list_getitem->apH,typeLookup_type->ap5,weight_type_call_type->aqo,wpAny_Compare1->aqq,wpAny_Dict_empty->aqr,wpAny_Expr_any->aqs,wpAny_assign_Name->aqt,wpAny_isTrue_Compare1->aqu,wpAny_leaves_onW->aqv,wpAny_loadPart->aqw,wpAny_lookBehind->aqx,wpAny_missedRemoval_other->aqy,wpAny_mroOf_exc->aqz,wpAny_newTuple->aqA,wpAny_notOrdered_dict->aqB,wpAny_pyIter_enum->aqC,wpAny_pyIter_tuple->aqD,wpAny_pyIter_zip->aqE,wpAny_richCompare_same_room->aqF,wpAny_setEpoch_of->aqG,wpAny_setState_of->aqH,wpAny_specialOf->aqI,wpAny_storeSet_of->aqJ
open PySem.Builtin.Builtins renaming bindParams->SX
open PySem.Builtin.Dict renaming showsAll->ş,takeOut->Š,dictSlotNone->aq6,keyAndDefault->aq7
open PySem.Builtin.Dict_items renaming ownsTuple->š
open PySem.Builtin.Frozenset renaming updateFrom->Ţ,addrOf->aq8,newClass->aq9,sizeOf->ara,slot0->arb
open PySem.Builtin.List renaming listExtendWith->SY,listTooLong->S0,listLengthHint->ţ,listSameRef->Ť,listUpdate->arc
open PySem.Builtin.ObjectAttr renaming storeInOwnDict->KG,find->S1,attrName->ť,dataDescriptor?->Ŧ,ownThenClass->ŧ,storeInDict->Ũ,Found.value->ard,bindTo->arf,getOf->arh,inOwnDict->ari,newKeyGuard->arj,ownDict->ark
open PySem.Builtin.Range renaming rangeSize->arl
open PySem.Builtin.Slice renaming slicePlaces->KH,sliceAdjust->S2,sliceApplied->ũ,sliceFields->arn,slicePartIndex->aro
open PySem.Builtin.Tuple renaming tupleExact->KI,tupleItemsOf->arp
open PySem.Calls renaming spliced_cons->wk,evalArgs_plain->BO,callWith_builtin->Fg,spliced_nil->Fh,call_function_entry->S4,Name_function_global->Ų
open PySem.Challenge renaming pw_postroad_k74_whole_log_walked->arA,rw_postroad_k74_whole_log_walked->arB
open PySem.EntryCells renaming newEntry->ars
open PySem.EqMixed renaming eq_bool_str->arC,eq_int_str->arD,eq_str_bool->arE,eq_str_int->arF,ne_bool_str->arG,ne_int_str->arH,ne_str_bool->arI,ne_str_int->arJ
open PySem.EqNone renaming eq_bool_none->arK,eq_int_none->arL,eq_none_bool->arM,eq_none_int->arN,eq_none_none->arO,eq_none_str->arP,eq_str_none->arQ,ne_bool_none->arR,ne_int_none->arS,ne_none_bool->arT,ne_none_int->arU,ne_none_none->arV,ne_none_str->arW,ne_str_none->arX
open PySem.F renaming plain_min_loop->n1,plainAttrs_list->uv,called_set->wR,slot_list_append->wU,type_list_append->wV,plain_max_loop->zG,entry_min_loop->Cu,excBase_ValueError->Cv,plainAttrs_dict->LZ,slot_dict_pop->L0,entry_max_loop->V0,slot_dict_get->V1,args_dict_get_2->adJ,args_dict_pop_3->adK,entry_dict_get->adL,entry_dict_pop->adM,entry_min->adN,kind_min->adO,plain_extend_loop->adP,plain_list_iadd->adQ,plain_min->adR,plain_set_new->adS,slot_dict_delitem->adT,slot_dict_setdefault->adU,slot_set_iter->adV,store_ValueError->adW,type_dict_pop->adX
open PySem.Heap renaming SameBut.update->oQ,ExtBut.push->La,SameBut.extBut->Lb,Ns1.of_empty->aaN
open PySem.SeqAt renaming shaped->n3,EqAt->ae3,EqAt.int_str->ae4,EqAt.str_int->ae5
open PySem.SetTable renaming below.go->Gm,probe.go->WL
open PySem.W renaming Frag->aY,findIn->cJ,subIn->ho,kitOne->jI,fnOf->mv,keepIn->mw,Looks->n2,kia_one->o2,emptyDict->p',mroIn->p_,instObj->rg,looks_findIn->rh,typeIn->ri,isFn->sQ,specialIn->uw,hasDictIn->wW,hideAll->wX,isClsIn->zH,makesIn->zI,kas_place->Au,kas_sort->Av,codeIn->Cx,excIn->Cy,takesIn->Cz,kas_ask->DG,kas_desc->DH,kas_rev->DI,kas_tail3->DJ,callWith_K->Gh,clsIn->Gi,methodCall_KW->Gj,Looks.ld->L1,kitMeta->L2,lookIn->L3,plainGet->L4,kas_bin->Pd,kas_count->Pe,Looks.of_pure->Vk,OpenLaw->V3,check_slot->V4,findCls->V5,handedIn->V6,hideAll_get->V7,makes_of->V8,methodObj->V9,of_hideAll->V',plainGet_of->V_,readsIn->Wa,takerIn->Wb,kas_descPart->ZY,InitBack->adY,WalkO->ad0,any_some->ad1,bind_fn->ad2,callWith_K0->ad3,cellsFrom_some->ad4,funFrames_hide->ad5,hideAll_none->ad6,kitCls->ad7,kitx_dict->ad8,kitx_list->ad9,looks_clsIn->aea,looks_mroIn->aeb,looks_subIn->aec,make_core->aed,mg_of->aee,plainOver->aef
open PySem.W.KF renaming slot_gs->adZ,args_gs->arY,entry_class->arZ,entry_gs->ar0,owner_class->ar1,type_class->ar2
open Sum renaming inl->e9,inr->ff,inl.inj->CL,inr.inj->Mi
open True renaming intro->lW
section
abbrev dg:List e1:=["self","number"]
abbrev gk:List e1:=["self","house","goal"]
abbrev nh:List e1:=["self","house","goal","road"]
abbrev eA:List e1:=["self"]
abbrev p5:List e1:=["houses","one","other"]
abbrev sM:List e1:=["thing","least","greatest"]
abbrev hY:List e1:=["thing"]
abbrev ni:List e1:=["self","house"]
abbrev oW:List e1:=["houses","thing"]
abbrev B9:List e1:=["_law_letter_here","_law_here","_law_now"]
abbrev B':List e1:=["walk","net","letters","ahead","thing"]
abbrev p4:List e1:=["thing","length"]
abbrev zl:List e1:=["self","number","house","turn"]
abbrev wG:List e1:=["_law_cell","_law_names"]
abbrev B_:List e1:=["net","walk","going","ways","turn"]
abbrev oV:List e1:=["self","road"]
abbrev wH:List e1:=["self","net","letters"]
abbrev wI:List e1:=["self","number","turn"]
abbrev Ca:List e1:=["net","letters","plan","turn"]
abbrev zm:List e1:=["self","houses","roads"]
abbrev Cb:List e1:=["walk","going","ways","turn"]
abbrev zo:List e1:=["_law_script","_law_k"]
abbrev uq:List e1:=["self","letter"]
abbrev zp:List e1:=["self","net","first"]
abbrev Cc:List e1:=["road","far_from","goal"]
abbrev zq:List e1:=["self","at","since"]
abbrev Cd:List e1:=["_law_cell","_law_many"]
abbrev Ce:List e1:=["net","letters","plan"]
abbrev sL:List e1:=["_law_spot"]
abbrev zr:List e1:=["houses","things"]
abbrev zt:List e1:=["self","by","due"]
abbrev wJ:List e1:=["self","bag"]
abbrev zu:List e1:=["road","found"]
abbrev zv:List e1:=["self","since"]
abbrev Cf:List e1:=["numbers","bound"]
abbrev Cg:List e1:=["roads","house"]
abbrev zw:List e1:=["self","net"]
abbrev Ci:List e1:=["net","some"]
abbrev bF:= List (List Nat)
abbrev cc:= Cw -> PySem.Shared -> Prop
abbrev dP:= List (adI×PySem.Obj)
abbrev cw:= e1 -> Option Cw
abbrev dN:= List Nat
abbrev cj:= List adI
abbrev c7:= List Cw
abbrev cb:= List e1
abbrev jh:= Array Nat
abbrev hG:= Nat -> Nat -> Bool
abbrev Mj:= List (Option Nat)
abbrev nj:= Array (Option Cw)
abbrev qd:= List (e1×Int×e1)
abbrev w2:= e1×Int×e1
abbrev fp:= List Int
abbrev hF:= List PySem.Expr
abbrev gx:= List PySem.PyData
abbrev mE:= e1 -> Option Int
abbrev kV:= Array Cw
abbrev CP:= Option Cw
end
namespace ar
open PySem PySem.Spec PyProof.Rows
noncomputable abbrev bA:=Sum Int Str
noncomputable def yL:bA->Value->Bool
 |.inl k,v=>Value.isInt k v
 |.inr x,v=>Mm x v
noncomputable def aiZ(w:bS):bA->Int
 |.inl k=>z8 k
 |.inr x=>hashStr w x
theorem rq:∀{k:bA}{v:Value},yL k v=true->(∃i t,k=e9 i/\v=iF i t)\/(∃x t,k=ff x/\v=w4 x t)
 |.inl i,v,h=>by obtain⟨t,e⟩:=agb (k:=i) (v:=v) h;exact .inl ⟨i,t,rfl,e⟩
 |.inr x,v,h=>by obtain⟨t,e⟩:=Value.isStrOf_shape (x:=x) (v:=v) h;exact .inr ⟨x,t,rfl,e⟩
theorem abp(i:Int)(t:Tok):yL (.inl i) (.int i t)=true:=by simp[yL,Value.isInt]
theorem abq(x:Str)(t:Tok):yL (.inr x) (.str x t)=true:=by simp[yL,Mm]
theorem agz(a b:Int):decide ((e9 a:bA)=e9 b)=(a==b):=by
 by_cases e:a=b
 .subst e;simp
 .have h:¬(e9 a:bA)=e9 b:=λq=>e (CL q);rw[dn h];exact(zR.mpr e).symm
theorem agA(a b:Str):decide ((ff a:bA)=ff b)=decide (a=b):=by
 by_cases e:a=b
 .subst e;simp
 .have h:¬(ff a:bA)=ff b:=λq=>e (Mi q);rw[dn h,dn e]
theorem agu(a:Int)(b:Str):decide ((e9 a:bA)=ff b)=false:=dn (λq=>nomatch q)
theorem agv(a:Str)(b:Int):decide ((ff a:bA)=e9 b)=false:=dn (λq=>nomatch q)
noncomputable def hI(prog:cG)(w:bS):PySem.KeyKind prog w bA where
 is:=yL
 hash:=aiZ w
 inj:=λv a b aF aa=>by
  rcases rq aF with⟨i,t,rfl,rfl⟩|⟨x,t,rfl,rfl⟩
  .rcases rq aa with⟨j,u,rfl,e⟩|⟨y,u,rfl,e⟩
   .injection e with az _;rw[az]
   .exact nomatch e
  .rcases rq aa with⟨j,u,rfl,e⟩|⟨y,u,rfl,e⟩
   .exact nomatch e
   .injection e with az _;rw[az]
 byValue:=λk v h=>by rcases rq h with⟨i,t,rfl,rfl⟩|⟨x,t,rfl,rfl⟩<;>rfl
 pyHash:=λbj h=>by
  rcases rq bj with⟨i,t,rfl,rfl⟩|⟨x,t,rfl,rfl⟩
  .exact wpAny_pyHash_int h
  .exact wpAny_pyHash_str h
 eqBool:=λb_ bj h=>by
  rcases rq b_ with⟨i,t,rfl,rfl⟩|⟨x,t,rfl,rfl⟩
  .rcases rq bj with⟨j,u,rfl,rfl⟩|⟨y,u,rfl,rfl⟩
   .rw[agz]at h;exact J6 h
   .rw[agu]at h;exact ae4 i t y u _ _ _ _ h
  .rcases rq bj with⟨j,u,rfl,rfl⟩|⟨y,u,rfl,rfl⟩
   .rw[agv]at h;exact ae5 x t j u _ _ _ _ h
   .rw[agA]at h;exact wpAny_eqBool_str h
 «strs»:=λk x t v h=>by
  rcases rq h with⟨i,u,rfl,e⟩|⟨y,u,rfl,e⟩
  .exact nomatch e
  .injection e with az _;subst az;cases v<;>rfl
theorem Ů(prog:cG)(w:bS)(i:Int)(t:Tok):(hI prog w).is (.inl i) (.int i t)=true:=abp i t
theorem ů(prog:cG)(w:bS)(x:Str)(t:Tok):(hI prog w).is (.inr x) (.str x t)=true:=abq x t
inductive V where
 |bc|aA (b:Bool)|int (i:Int)|str (x:Str)|nr (b:Array UInt8)|xq (b:UInt64)|ref (a:Addr)|ty (n:String)
 deriving DecidableEq
abbrev aW:= List V
abbrev kW:= Option V
noncomputable def RelV:V->Value->Prop
 |.bc,u=>u=gm
 |.aA b,u=>u=Ml b
 |.int i,u=>∃t,u=iF i t
 |.str x,u=>∃t,u=w4 x t
 |.nr b,u=>∃t,u=Value.bytes b t
 |.xq b,u=>∃t,u=WS b t
 |.ref a,u=>u=cu a
 |.ty n,u=>u=nk n
noncomputable abbrev cN:List V->List Value->Prop:=bO RelV
theorem cN.length{xs:aW}{us:c7}(r:cN xs us):xs.length=us.length:=gW r
theorem cN.get:∀{xs:aW}{us:c7}{i:Nat}{x:V},cN xs us->xs[i]?=some x->∃u,us[i]?=some u/\RelV x u
 |_,_,_,_,.nil,e=>by simp at e
 |_,_,0,_,.cons r _,e=>by simp at e;subst e;exact⟨_,rfl,r⟩
 |_,_,i+1,x,.cons _ t,e=>by obtain⟨u,ag,ai⟩:=cN.get (i:=i) (x:=x) t (by simpa using e);exact⟨u,by simpa using ag,ai⟩
theorem cN.set(r:RelV x u):∀{xs:aW}{us:c7}(i:Nat),cN xs us->cN (xs.set i x) (us.set i u)
 |_,_,_,.nil=>.nil
 |_,_,0,.cons _ t=>.cons r t
 |_,_,i+1,.cons q t=>.cons q (cN.set r i t)
theorem cN.append:∀{xs ys:aW}{us ws:c7},cN xs us->cN ys ws->cN (xs++ys) (us++ws)
 |_,_,_,_,.nil,s=>s
 |_,_,_,_,.cons r t,s=>.cons r (cN.append t s)
theorem cN.take:∀{xs:aW}{us:c7}(n:Nat),cN xs us->cN (xs.take n) (us.take n)
 |_,_,0,_=>.nil
 |_,_,_+1,.nil=>.nil
 |_,_,n+1,.cons r t=>.cons r (cN.take n t)
theorem cN.drop:∀{xs:aW}{us:c7}(n:Nat),cN xs us->cN (xs.drop n) (us.drop n)
 |_,_,0,r=>r
 |_,_,_+1,.nil=>.nil
 |_,_,n+1,.cons _ t=>cN.drop n t
noncomputable def iP:Option V->Option Value->Prop
 |some v,some u=>RelV v u
 |none,none=>True
 |_,_=>False
noncomputable def gb{κ:Type}:List (κ×V)->List (κ×Value)->Prop:=bO λ(p:κ×V)(q:κ×Value)=>p.1=q.1/\RelV p.2 q.2
noncomputable def c9:bA->V
 |.inl i=>.int i
 |.inr x=>.str x
inductive f_ where
  |lst (xs:aW)
  |tup (xs:aW)
  |bN (kvs:List (bA×V))|d4 (kvs:List (List bA×V))
  |set (S:Int->Bool) (n:Nat)
  |ins (C af:Addr) (fs:List (Str×V))
  |own (x:Addr)
  |Ka (fs:List (Str×V))
  |met (f x:Addr)
  |I4 (lo ak:Int)
  |fi (o:Obj) (u:f_)
  |r9 (ps:kV)
  |ext (sj:Heap->Prop)
noncomputable abbrev ae:=Addr->Option f_
noncomputable def upd(H:ae)(a:Addr)(o:f_):ae:=λb=>if b=a then some o else H b
theorem aQ:upd H a o a=some o:=by unfold upd;rw[bB rfl]
theorem aD{H:ae}(h:b≠a):upd H a o b=H b:=by unfold upd;rw[bp h]
theorem Et:upd (upd H a o) a u=upd H a u:=by funext b;unfold upd;split<;>rfl
theorem gE{H:ae}(h:H a=some o)(h':H b=some u)(d:o≠u):a≠b:=by intro e;subst e;rw[h]at h';exact d (gV h')
theorem cA{H:ae}(h:H a=some o)(h':H b=none):a≠b:=by intro e;subst e;rw[h]at h';cases h'
section
variable(P:cG)(w:bS)
noncomputable def eI(H:ae)(h:Heap)(a:Addr):f_->Prop
 |.lst xs=>xs.length<=sizeLine/\∃(its:c7)(n:Nat),cN xs its/\h.get? a=some {cls:=.type "list",data:=.seq its.toArray n}
 |.tup xs=>xs.length<=sizeLine/\∃its:List Value,cN xs its/\wx h a its.toArray
 |.bN kvs=>kvs.length<=sizeLine/\(a==me)=false/\∃vs,gb kvs vs/\h.DictOf (hI P w) a vs
 |.d4 kvs=>kvs.length<=sizeLine/\(a==me)=false/\∃xs:List (List bA×Addr×Value),
   bO (λ(p:List bA×V)(q:List bA×Addr×Value)=>p.1=q.1/\H q.2.1=some (.tup (p.1.map c9))/\RelV p.2 q.2.2) kvs xs/\
   ∃o es ep,h.get? a=some o/\o.ExactDict/\o.data=.dict es ep/\es.toList=xs.map (Nd (Ba (hI P w)))/\(xs.map (·.1)).Nodup
 |.set S n=>h.SetOf (tn P w) a S n
 |.ins C af fs=>H af=some (.own a)/\fs.length<=1000/\af≠a/\h.get? a=some (rg C af)/\
   ∃mA,h.Ns1 af mA/\(∀f,iP (fs.lookup f) (mA f))/\zJ mA (fs.map (·.1))
 |.own _=>∃o,h.get? a=some o
 |.Ka fs=>∃mA,h.Ns1 a mA/\∀f,iP (fs.lookup f) (mA f)
 |.I4 lo ak=>∃t u v,h.get? a=some {cls:=.type "range",data:=.fields #[.int lo t,.int ak u,.int 1 v]}
 |.fi o u=>h.get? a=some o/\eI H h a u
 |.r9 ps=>h.get? a=some {cls:=.none,data:=.fields ps}
 |.met f x=>h.get? a=some (V9 (.ref f) (.ref x))
 |.ext sj=>sj h/\(∃o,h.get? a=some o)/\∀ag ai:Heap,sj ag->(∀o,ag.get? a=some o->ai.get? a=some o)->sj ai
noncomputable def fE(H:ae)(h:Heap):Prop:=∀a o,H a=some o->eI P w H h a o
end
section
variable{P:cG}{w:bS}{H H':ae}{h h':Heap}{a:Addr}{o:f_}
theorem eI.lt(x:eI P w H h a o):a<h.objs.size:=by
 cases o with
 |lst xs=>obtain⟨_,_,_,_,e⟩:=x;exact c5 e
 |tup xs=>obtain⟨_,_,_,p⟩:=x;exact p.lt
 |bN kvs=>obtain⟨_,_,_,_,o,_,_,e,_⟩:=x;exact c5 e
 |d4 kvs=>obtain⟨_,_,_,_,o,_,_,e,_⟩:=x;exact c5 e
 |set S n=>obtain⟨o,_,_,_,e,_⟩:=x;exact c5 e
 |ins C af fs=>obtain⟨_,_,_,e,_⟩:=x;exact c5 e
 |own y=>obtain⟨_,e⟩:=x;exact c5 e
 |Ka fs=>obtain⟨_,⟨_,_,_,e,_⟩,_⟩:=x;exact c5 e
 |I4 lo ak=>obtain⟨_,_,_,e⟩:=x;exact c5 e
 |fi ob u=>obtain⟨e,_⟩:=x;exact c5 e
 |r9 ps=>exact c5 (show h.get? a=some _ from x)
 |met f y=>exact c5 (show h.get? a=some _ from x)
 |ext sj=>obtain⟨_,⟨_,e⟩,_⟩:=x;exact c5 e
theorem bO.gL{α β:Type}{F G:α->β->Prop}:∀{ε:List α}{ζ:List β},bO F ε ζ->(∀a b,F a b->G a b)->bO G ε ζ
 |_,_,.nil,_=>.nil
 |_,_,.cons r t,f=>.cons (f _ _ r) (bO.gL t f)
theorem eI.nM(x:eI P w H h a o)(k:∀b u,(b=a\/H b=some (.own a))->h.get? b=some u->h'.get? b=some u)(aU:∀b,H b=some (.own a)->H' b=some (.own a))(dM:∀b xs,H b=some (.tup xs)->H' b=some (.tup xs)):eI P w H' h' a o:=by
 induction o with
 |lst xs=>obtain⟨z,its,n,r,e⟩:=x;exact⟨z,its,n,r,k _ _ (.inl rfl) e⟩
 |tup xs=>obtain⟨z,its,r,ob,e,c⟩:=x;exact⟨z,its,r,ob,k _ _ (.inl rfl) e,c⟩
 |bN kvs=>obtain⟨z,y,vs,r,ob,es,ep,e,c⟩:=x;exact⟨z,y,vs,r,ob,es,ep,k _ _ (.inl rfl) e,c⟩
 |d4 kvs=>
  obtain⟨z,y,xs,r,ob,es,ep,e,c⟩:=x;exact⟨z,y,xs,bO.gL r λp q z=>⟨z.1,dM _ _ z.2.1,z.2.2⟩,ob,es,ep,k _ _ (.inl rfl) e,c⟩
 |set S n=>obtain⟨ob,es,ep,t,e,c⟩:=x;exact⟨ob,es,ep,t,k _ _ (.inl rfl) e,c⟩
 |ins C af fs=>
  obtain⟨d,z,ne,e,mA,⟨cV,es,ep,aB,c⟩,r⟩:=x;exact⟨aU _ d,z,ne,k _ _ (.inl rfl) e,mA,⟨cV,es,ep,k _ _ (.inr d) aB,c⟩,r⟩
 |own y=>obtain⟨ob,e⟩:=x;exact⟨ob,k _ _ (.inl rfl) e⟩
 |Ka fs=>obtain⟨mA,⟨cV,es,ep,e,c⟩,r⟩:=x;exact⟨mA,⟨cV,es,ep,k _ _ (.inl rfl) e,c⟩,r⟩
 |I4 lo ak=>obtain⟨t,u,v,e⟩:=x;exact⟨t,u,v,k _ _ (.inl rfl) e⟩
 |fi ob u a3=>obtain⟨e,q⟩:=x;exact⟨k _ _ (.inl rfl) e,a3 q⟩
 |r9 ps=>
  have e:h.get? a=some {cls:=.none,data:=.fields ps}:=x;show h'.get? a=some {cls:=.none,data:=.fields ps};exact k a _ (.inl rfl) e
 |met f y=>
  have e:h.get? a=some (V9 (.ref f) (.ref y)):=x;show h'.get? a=some (V9 (.ref f) (.ref y));exact k a _ (.inl rfl) e
 |ext sj=>obtain⟨p,⟨o,e⟩,st⟩:=x;exact⟨st _ _ p λo q=>k _ _ (.inl rfl) q,⟨o,k _ _ (.inl rfl) e⟩,st⟩
theorem fE.lt(x:fE P w H h)(e:H a=some o):a<h.objs.size:=(x a o e).lt
theorem fE.fresh(x:fE P w H h)(e:h.objs.size<=a):H a=none:=by
 cases q:H a with
 |none=>rfl
 |some u=>exact bx (iX (x.lt q) e) (q_ _)
theorem fE.kept(x:fE P w H h)(k:∀b u,h.get? b=some u->h'.get? b=some u):fE P w H h':=λa o e=>
 (x a o e).nM (λb u _ q=>k b u q) (λ_ q=>q) λ_ _ q=>q
theorem fE.laid(x:fE P w H h)(k:∀b u,h.get? b=some u->h'.get? b=some u)(aN:h.objs.size<=a)(new:eI P w (upd H a o) h' a o):fE P w (upd H a o) h':=λb u e=>by
 have aM:=x.fresh aN;by_cases aa:b=a
 .subst aa;rw[aQ]at e;cases e;exact new
 .rw[aD aa]at e;exact(x b u e).nM (λc v _ q=>k c v q) (λc q=>by rw[aD (cA q aM)];exact q) λc xs q=>by rw[aD (cA q aM)];exact q
end
noncomputable def gJ(H:ae)(a:Addr)(u:f_):Prop:=H a=some u\/∃o,H a=some (.fi o u)
theorem gJ.ok(r:gJ H a u)(x:fE P w H h):eI P w H h a u:=by
 rcases r with r|⟨o,r⟩
 .exact x a u r
 .obtain⟨_,q⟩:=x a _ r;exact q
noncomputable def Cj:Option f_->Prop
 |some (.lst _)=>True
 |some (.bN _)=>True
 |some (.d4 _)=>True
 |some (.set _ _)=>True
 |some (.ins _ _ _)=>True
 |some (.ext _)=>True
 |_=>False
section
variable{P:cG}{w:bS}{H:ae}{h h':Heap}{x e:Addr}{cB:f_}
theorem fE.write(ok:fE P w H h)(b0:Cj (H x))(he:e=x\/H e=some (.own x))(k:∀b u,b≠e->h.get? b=some u->h'.get? b=some u)(z_:∃u,h'.get? e=some u)(new:eI P w (upd H x cB) h' x cB):fE P w (upd H x cB) h':=λb u q=>by
 have Λ:∀c y,H c=some (.own y)->c≠x:=λc y r z=>by subst z;rw[r]at b0;exact b0
 have aoO:∀c xs,H c=some (.tup xs)->c≠x:=λc xs r z=>by subst z;rw[r]at b0;exact b0
 by_cases aa:b=x
 .subst aa;rw[aQ]at q;cases q;exact new
 .rw[aD aa]at q;by_cases kE:b=e
  .have gs:H b=some (.own x):=by
    rcases he with z|z
    .exact bx (kE.trans z) aa
    .rw[kE];exact z
   rw[q]at gs;cases gs;obtain⟨v,bj⟩:=z_;exact⟨v,by rw[kE];exact bj⟩
  .refine(ok b u q).nM (λc v aq r=>k c v ?_ r) (λc r=>by rw[aD (Λ c b r)];exact r) λc xs r=>by rw[aD (aoO c xs r)];exact r
   rcases aq with rfl|aq
   .exact kE
   .rintro rfl;rcases he with z|z
    .exact Λ c b aq z
    .rw[aq]at z;cases z;exact aa rfl
end
structure h2(fs ex:cj)(H H':ae)(h h':Heap):Prop where
 keep:∀b o,h.get? b=some o->H b=none->b∉fs->b∉ex->h'.get? b=some o
 slot:∀b o,h.get? b=some o->H b=none->b∈fs->b∉ex->∃sl,h'.get? b=some {o with slots:=sl}
 free:∀b o,h.get? b=some o->H b=none->b∉ex->H' b=none
 there:∀b o,h.get? b=some o->b∉ex->∃cB,h'.get? b=some cB
 ij:∀b xs,H b=some (.tup xs)->H' b=some (.tup xs)
 jr:∀b o u,H b=some (.fi o u)->H' b=some (.fi o u)
 j0:∀b ps,H b=some (.r9 ps)->∃more,H' b=some (.r9 (ps++more))
section
variable{fs alC ex atu:cj}{H H1 ah:ae}{h ag ai h':Heap}{a x e:Addr}{o:f_}
theorem h2.any(u:h2 fs ex H H1 h ag){b:Addr}(q:h.get? b=some ob)(n:H b=none)(av:b∉ex):∃sl,ag.get? b=some {ob with slots:=sl}:=by
 by_cases aa:b∈fs
 .exact u.slot b ob q n aa av
 .exact⟨ob.slots,u.keep b ob q n aa av⟩
theorem h2.kept(k:∀b u,h.get? b=some u->h'.get? b=some u):h2 fs ex H H h h':=
 ⟨λb ob q _ _ _=>k b ob q,λb ob q _ _ _=>⟨ob.slots,k b ob q⟩,λ_ _ _ n _=>n,λb ob q _=>⟨ob,k b ob q⟩,λ_ _ q=>q,λ_ _ _ q=>q,λ_ ps q=>⟨#[],by rw[q];simp⟩⟩
theorem h2.refl:h2 fs ex H H h h:=h2.kept λ_ _ q=>q
theorem h2.laid(k:∀b u,h.get? b=some u->h'.get? b=some u)(aN:h.objs.size<=a)(aM:H a=none):h2 fs ex H (upd H a o) h h' where
 keep:=λb u q _ _ _=>k b u q
 slot:=λb u q _ _ _=>⟨u.slots,k b u q⟩
 free:=λb u q n _=>by rw[aD (dR (iX (c5 q) aN))];exact n
 there:=λb u q _=>⟨u,k b u q⟩
 ij:=λb xs q=>by rw[aD (cA q aM)];exact q
 jr:=λb u xs q=>by rw[aD (cA q aM)];exact q
 j0:=λb ps q=>⟨#[],by rw[aD (cA q aM),q];simp⟩
theorem h2.write(b0:Cj (H x))(he:e=x\/H e=some (.own x))(k:∀b u,b≠e->h.get? b=some u->h'.get? b=some u)(z_:∃u,h'.get? e=some u):h2 fs ex H (upd H x o) h h':=by
 have av:∀b,H b=none->b≠x:=λb n z=>by subst z;rw[n]at b0;exact b0
 have aa:∀b,H b=none->b≠e:=λb n z=>by
  subst z;rcases he with r|r
  .exact av b n r
  .rw[n]at r;cases r
 have hm:∀b u,H b=some u->¬Cj (some u)->b≠x:=λb u q nm z=>by subst z;rw[q]at b0;exact nm b0
 refine⟨λb u q n _ _=>k b u (aa b n) q,λb u q n _ _=>⟨u.slots,k b u (aa b n) q⟩,λb u q n _=>by rw[aD (av b n)];exact n,λb u q _=>?_,
  λb xs q=>by rw[aD (hm b _ q λz=>z)];exact q,λb u xs q=>by rw[aD (hm b _ q λz=>z)];exact q,λb ps q=>⟨#[],by rw[aD (hm b _ q λz=>z),q];simp⟩⟩
 by_cases kE:b=e
 .subst kE;exact z_
 .exact⟨u,k b u kE q⟩
end
noncomputable def JJ(h:Heap)(H:ae):List Addr:=(dK h.objs.size).filter λa=>(H a).isSome
noncomputable def sm(h:Heap)(H:ae):Heap:=wX h (JJ h H)
theorem abr(h:Heap)(H:ae):(sm h H).objs.size=h.objs.size:=PySem.W.hideAll_size _ _
theorem adb{h:Heap}{H:ae}(e:h.get? b=some o)(n:H b=none):(sm h H).get? b=some o:=
 V7 _ e λhm=>by have q:(H b).isSome=true:=(gj.mp hm).2;rw[n]at q;simp at q
theorem aeX{h:Heap}{H:ae}(e:(sm h H).get? b=some o):h.get? b=some o/\H b=none:=by
 have bJ:h.get? b=some o:=V' (JJ h H) e;refine⟨bJ,?_⟩;cases q:H b with
 |none=>rfl
 |some x=>
  have hm:b∈JJ h H:=gj.mpr ⟨j5.mpr (c5 bJ),by simp[q]⟩;have z:(sm h H).get? b=none:=ad6 (JJ h H) hm;rw[z]at e;cases e
structure Mod(K:aY)(mg:cw)(base:Heap):Prop where
 vB:K.In base
 glob:base.Ns qF mg
 blt:∃pz,base.Ns XU pz/\∀x:Str,x≠"__name__"->pz x=iG x
 nolimit:base.NoLimit
structure bo where
 prog:cG
 w:bS
 K:aY
 mg:Str->Option Value
 base:Heap
 A:du
 N:List Str
 ix:aK
 pZ:ae
 env:Env
 outer:List Env
 stack:List Env
 ex:List Addr
 fn:Str->Bool
 calm:Bool
 eC:List (Addr×Obj)
 dZ:Value->aK->Prop
noncomputable def fu(l:List Env):List Addr:=l.filterMap (·.frame)
noncomputable abbrev bo.fs(X:bo):List Addr:=fu X.outer
noncomputable def Mn(sc:Scope)(x:Str):Prop:=sc.names.lookup x=some .local\/sc.names.lookup x=some .cell\/sc.names.lookup x=some .free
noncomputable def Loc(sc:Scope)(x:Str):Prop:=sc.names.lookup x=some .local\/sc.names.lookup x=some .cell
noncomputable def Look(env:Env)(h:Heap)(m:cw)(x:Str)(u:Value):Prop:=
 (env.kindOf x=some .local/\m x=some u)\/((env.kindOf x=some .cell\/env.kindOf x=some .free)/\∃c,env.cells.lookup x=some c/\h.IsCell c (some u))
structure bo.Ok(X:bo):Prop where
 mod:Mod X.K X.mg X.base
 kind:X.env.scope.kind=.function
 glob:X.env.globals=qF
 blt:X.env.builtins=XU
 above:X.ix.heap.objs.size<=X.env.locals
 inj:∀x y c,X.env.cells.lookup x=some c->X.env.cells.lookup y=some c->x=y
 has:∀x,(X.env.kindOf x=some .cell\/X.env.kindOf x=some .free)->∃c,X.env.cells.lookup x=some c
 xc:∀x c,X.fn x=true->X.env.cells.lookup x=some c->X.ix.heap.objs.size<=c
 hd:X.calm=true->X.A.handled=none
 frames:X.A.frames=some X.stack
 r4:X.stack=X.outer\/(X.stack=X.env::X.outer/\X.env.frame=some X.env.locals)
 G9:∀b∈X.ex,b≠X.env.locals/\∀x c,X.env.cells.lookup x=some c->c≠b
 bs:∀b o,X.base.get? b=some o->X.ix.heap.get? b=some o/\X.pZ b=none
 rl:X.base.objs.size<=X.ix.heap.objs.size
 x6:∀b o,X.base.get? b=some o->b∉X.ex
 z0:∀b∈X.ex,b∉X.fs
 kD:X.ix.heap.FunFrames X.base X.outer
 ta:∀b∈X.fs,X.pZ b=none
structure Inv(X:bo)(pins:dP)(σ:List (Option V))(H:ae)(s:aK):Prop where
 ok:X.Ok
 os:s.os=X.ix.os
 bare:sq s.gens
 base:h2 X.fs X.ex X.pZ H X.ix.heap s.heap
 loc:∃m,s.heap.Ns X.env.locals m/\∀(i:Nat)(x:Str)(v:V),X.N[i]?=some x->σ[i]?=some (some v)->Mn X.env.scope x->∃u,RelV v u/\Look X.env s.heap m x u
 cell:∀x c,X.env.cells.lookup x=some c->∃v,s.heap.IsCell c v
 free:H X.env.locals=none
 mR:∀x c,X.env.cells.lookup x=some c->H c=none
 pin:∀p∈X.eC++pins,s.heap.get? p.1=some p.2/\H p.1=none/\p.1≠X.env.locals/\p.1∉X.fs/\∀v,p.2.data≠.cell v
 bf:fE X.prog X.w H s.heap
 len:σ.length=X.N.length
section
variable{X:bo}{pins:dP}{σ:List (Option V)}{H H':ae}{s:aK}{h':Heap}
theorem bo.Ok.aov(ok:X.Ok){b:Addr}(e:X.base.get? b=some o):b∉X.fs:=λaa=>by have:=(ok.kD.mem aa).1;rw[e]at this;cases this
theorem Inv.bs(I:Inv X pins σ H s):∀b o,X.base.get? b=some o->s.heap.get? b=some o/\H b=none:=λb o e=>
 ⟨I.base.keep b o (I.ok.bs b o e).1 (I.ok.bs b o e).2 (I.ok.aov e) (I.ok.x6 b o e),I.base.free b o (I.ok.bs b o e).1 (I.ok.bs b o e).2 (I.ok.x6 b o e)⟩
theorem Inv.hq(I:Inv X pins σ H s):∀b o,X.base.get? b=some o->s.heap.get? b=some o:=λb o e=>(I.bs b o e).1
theorem Inv.mod(I:Inv X pins σ H s):Mod X.K X.mg X.base:=I.ok.mod
theorem Inv.eX(I:Inv X pins σ H s):X.K.In s.heap:=I.ok.mod.vB.keeps I.hq
theorem Inv.lt(I:Inv X pins σ H s):X.env.locals<s.heap.objs.size:=let⟨_,aM,_⟩:=I.loc;aM.lt
theorem Inv.kq(I:Inv X pins σ H s):X.ix.heap.objs.size<=s.heap.objs.size:=eP I.ok.above (q' I.lt)
theorem Inv.aox(I:Inv X pins σ H s){a:Addr}(h:s.heap.objs.size<=a):a∉X.fs:=λaa=>by obtain⟨_,o,aU,_⟩:=I.ok.kD.mem aa;exact bx (iX (c5 aU) (eP I.kq h)) (q_ _)
theorem Inv.ql(I:Inv X pins σ H s):∀x c,X.env.cells.lookup x=some c->c≠X.env.locals:=λx c e z=>by obtain⟨v,o,aU,hd⟩:=I.cell x c e;obtain⟨m,⟨cB,es,ep,iL,pd,_⟩,_⟩:=I.loc;rw[z,iL]at aU;cases aU;rw[pd]at hd;cases hd
theorem Inv.kD(I:Inv X pins σ H s):s.heap.FunFrames X.base X.outer:=by
 have all:∀(l:List Env),(∀b∈fu l,b∈X.fs)->X.ix.heap.FunFrames X.base l->s.heap.FunFrames X.base l:=by
  intro l
  induction l with
  |nil=>intro _ _;trivial
  |cons env r a3=>
   intro hs aw;obtain⟨aP,⟨L,o,hf,aM,aU,hd⟩,ao⟩:=aw;have gp:L∈X.fs:=hs L (by unfold fu;rw[B4,hf];exact um);obtain⟨sl,e⟩:=I.base.slot L o aU (I.ok.ta L gp) gp λz=>I.ok.z0 L z gp;exact⟨aP,⟨L,_,hf,aM,e,hd⟩,a3 (λb aa=>hs b (by unfold fu;rw[B4,hf];exact ng _ aa)) ao⟩
 exact all X.outer (λ_ aa=>aa) I.ok.kD
theorem Inv.stack(I:Inv X pins σ H s):s.heap.FunFrames X.base X.stack:=by
 rcases I.ok.r4 with e|⟨e,hf⟩
 .rw[e];exact I.kD
 .rw[e];obtain⟨m,aM,_⟩:=I.loc;refine .cons (by rw[I.ok.kind];decide) hf aM ?_ I.kD;exact T8 (eP I.ok.rl I.ok.above)
theorem Inv.Es(I:Inv X pins σ H s):∀b∈fu X.stack,b∈X.env.locals::X.fs:=λb aa=>by
 rcases I.ok.r4 with e|⟨e,hf⟩
 .rw[e]at aa;exact ng _ aa
 .rw[e]at aa;unfold fu at aa;rw[B4,hf]at aa;exact aa
theorem Inv.Jv(I:Inv X pins σ H s):∀b∈fu X.stack,H b=none:=λb aa=>by
 rcases dv.mp (I.Es b aa)with e|aa
 .rw[e];exact I.free
 .obtain⟨_,o,aU,_⟩:=I.ok.kD.mem aa;exact I.base.free b o aU (I.ok.ta b aa) λz=>I.ok.z0 b z aa
theorem Inv.step{g':Array GenState}{t':Nat}{d':Drawn}{ch:cj}(I:Inv X pins σ H s)(jw:∀b∈ch,(b∈X.ex\/X.ix.heap.objs.size<=b)/\b≠X.env.locals/\(∀x c,X.env.cells.lookup x=some c->c≠b)/\∀p∈X.eC++pins,p.1≠b)(keep:∀b o,b≠X.env.locals->b∉X.fs->b∉ch->s.heap.get? b=some o->H b=none->h'.get? b=some o)(slot:∀b o,b≠X.env.locals->b∈X.fs->b∉ch->s.heap.get? b=some o->H b=none->∃sl,h'.get? b=some {o with slots:=sl})(free:∀b o,b∉ch->s.heap.get? b=some o->H b=none->H' b=none)(there:∀b o,b∉ch->s.heap.get? b=some o->∃cB,h'.get? b=some cB)(ij:∀b xs,H b=some (.tup xs)->H' b=some (.tup xs))(jr:∀b o u,H b=some (.fi o u)->H' b=some (.fi o u))(j0:∀b ps,H b=some (.r9 ps)->∃more,H' b=some (.r9 (ps++more)))(ns:∀m,s.heap.Ns X.env.locals m->h'.Ns X.env.locals m)(bf:fE X.prog X.w H' h')(bE:sq g'):
  Inv X pins σ H' {s with heap:=h',gens:=g',drawn:=d',toks:=t'}:=by
 have Δ:∀b o,X.ix.heap.get? b=some o->b≠X.env.locals:=λb o e=>dR (iX (c5 e) I.ok.above);have Iq:∀b o,X.ix.heap.get? b=some o->b∉X.ex->b∉ch:=λb o e av aa=>by
  rcases(jw b aa).1 with z|z
  .exact av z
  .exact bx (iX (c5 e) z) (q_ _)
 have cellK:∀x c,X.env.cells.lookup x=some c->∀v,s.heap.IsCell c v->h'.IsCell c v:=λx c e v⟨o,aU,hd⟩=>by
  have qI:c∉ch:=λz=>(jw c z).2.2.1 x c e rfl;by_cases aq:c∈X.fs
  .obtain⟨sl,q⟩:=slot c o (I.ql x c e) aq qI aU (I.mR x c e);exact⟨_,q,hd⟩
  .exact⟨o,keep c o (I.ql x c e) aq qI aU (I.mR x c e),hd⟩
 refine⟨I.ok,I.os,bE,⟨λb o e n aa av=>?_,λb o e n aa av=>?_,λb o e n av=>?_,λb o e av=>?_,λb xs e=>ij b xs (I.base.ij b xs e),λb o xs e=>jr b o xs (I.base.jr b o xs e),λb ps e=>?_⟩,?_,λx c e=>?_,?_,λx c e=>?_,λp aN=>?_,bf,I.len⟩
 .exact keep b o (Δ b o e) aa (Iq b o e av) (I.base.keep b o e n aa av) (I.base.free b o e n av)
 .obtain⟨sl,az⟩:=I.base.slot b o e n aa av;obtain⟨kp,aB⟩:=slot b _ (Δ b o e) aa (Iq b o e av) az (I.base.free b o e n av);exact⟨kp,aB⟩
 .obtain⟨cB,az⟩:=I.base.there b o e av;exact free b cB (Iq b o e av) az (I.base.free b o e n av)
 .obtain⟨cB,az⟩:=I.base.there b o e av;exact there b cB (Iq b o e av) az
 .obtain⟨ib,az⟩:=I.base.j0 b ps e;obtain⟨jA,aB⟩:=j0 b _ az;exact⟨ib++jA,by rw[aB,SU]⟩
 .obtain⟨m,aM,aw⟩:=I.loc;refine⟨m,ns m aM,λi x v az aB cX=>?_⟩;obtain⟨u,r,l⟩:=aw i x v az aB cX;refine⟨u,r,?_⟩;rcases l with l|⟨k,c,e,z⟩
  .exact .inl l
  .exact .inr ⟨k,c,e,cellK x c e _ z⟩
 .obtain⟨v,z⟩:=I.cell x c e;exact⟨v,cellK x c e v z⟩
 .obtain⟨m,⟨o,_,_,aU,_⟩,_⟩:=I.loc;exact free _ o (λz=>(jw _ z).2.1 rfl) aU I.free
 .obtain⟨v,o,aU,hd⟩:=I.cell x c e;exact free c o (λz=>(jw c z).2.2.1 x c e rfl) aU (I.mR x c e)
 .obtain⟨e,n,ne,gr,d⟩:=I.pin p aN;have qI:p.1∉ch:=λz=>(jw p.1 z).2.2.2 p aN rfl;exact⟨keep p.1 p.2 ne gr qI e n,free p.1 p.2 qI e n,ne,gr,d⟩
theorem Inv.un{t':Nat}(I:Inv X pins σ H s)(u:h2 X.fs [] H H' s.heap h')(bf:fE X.prog X.w H' h'):Inv X pins σ H' {s with heap:=h',toks:=t'}:=by
 obtain⟨m,⟨o,es,ep,aU,r⟩,_⟩:=id I.loc;obtain⟨sl,gp⟩:=u.any aU I.free (by simp);exact I.step (g':=s.gens) (d':=s.drawn) (ch:=[]) (λ_ z=>nomatch z) (λb o _ aa _ e n=>u.keep b o e n aa (by simp)) (λb o _ aa _ e n=>u.slot b o e n aa (by simp)) (λb o _ e n=>u.free b o e n (by simp)) (λb o _ e=>u.there b o e (by simp)) u.ij u.jr u.j0 (λdc hm=>by
  obtain⟨cB,kB,rp,iL,b9⟩:=hm;rw[aU]at iL;cases iL;exact⟨_,kB,rp,gp,b9⟩) bf I.bare
theorem Inv.call{g':Array GenState}{t':Nat}{d':Drawn}{ch:cj}(I:Inv X pins σ H s)(u:h2 (fu X.stack) ch H H' s.heap h')(bf:fE X.prog X.w H' h')(bE:sq g')(jw:∀b∈ch,(b∈X.ex\/X.ix.heap.objs.size<=b)/\b≠X.env.locals/\(∀x c,X.env.cells.lookup x=some c->c≠b)/\∀p∈X.eC++pins,p.1≠b):
  Inv X pins σ H' {s with heap:=h',gens:=g',drawn:=d',toks:=t'}:=by
 obtain⟨m,⟨o,es,ep,aU,r⟩,_⟩:=id I.loc;obtain⟨sl,gp⟩:=u.any aU I.free λz=>(jw _ z).2.1 rfl;exact I.step (ch:=ch) jw (λb o gp aa aq e n=>u.keep b o e n (λz=>(dv.mp (I.Es b z)).elim gp aa) aq) (λb o _ _ aq e n=>u.any e n aq) (λb o aq e n=>u.free b o e n aq) (λb o aq e=>u.there b o e aq) u.ij u.jr u.j0 (λdc hm=>by
  obtain⟨cB,kB,rp,iL,b9⟩:=hm;rw[aU]at iL;cases iL;exact⟨_,kB,rp,gp,b9⟩) bf bE
theorem Inv.turned{t':Nat}{it:Addr}(I:Inv X pins σ H s)(k:∀b o,b≠it->s.heap.get? b=some o->h'.get? b=some o)(aM:H it=none)(gp:it≠X.env.locals)(ag:it∈X.ex\/X.ix.heap.objs.size<=it)(ai:∀x c,X.env.cells.lookup x=some c->c≠it)(bK:∀p∈X.eC++pins,p.1≠it):Inv X pins σ H {s with heap:=h',toks:=t'}:=by
 have Ε:∀b u,H b=some u->b≠it:=λb u e z=>by rw[z,aM]at e;cases e
 refine I.step (g':=s.gens) (d':=s.drawn) (ch:=[it]) (λb aa=>?_) (λb o _ _ aq e _=>k b o (λz=>aq (by simp[z])) e) (λb o _ _ aq e _=>⟨o.slots,k b o (λz=>aq (by simp[z])) e⟩) (λ_ _ _ _ n=>n)
  (λb o aq e=>⟨o,k b o (λz=>aq (by simp[z])) e⟩) (λ_ _ e=>e) (λ_ _ _ e=>e) (λb ps e=>⟨#[],by rw[e];simp⟩) (λm hm=>?_) (λb u e=>?_) I.bare
 .have e:b=it:=by simpa using aa
  subst e;exact⟨ag,gp,ai,bK⟩
 .obtain⟨o,es,ep,aU,r⟩:=hm;exact⟨o,es,ep,k _ o (c2 gp) aU,r⟩
 .refine(I.bf b u e).nM (λc v aq q=>k c v ?_ q) (λ_ q=>q) λ_ _ q=>q;rcases aq with z|z
  .rw[z];exact Ε b u e
  .exact Ε c _ z
theorem Inv.tok(I:Inv X pins σ H s)(t:Nat):Inv X pins σ H {s with toks:=t}:=I.un (h':=s.heap) (t':=t) h2.refl I.bf
theorem Inv.kept{t':Nat}(I:Inv X pins σ H s)(k:∀b u,s.heap.get? b=some u->h'.get? b=some u):Inv X pins σ H {s with heap:=h',toks:=t'}:=I.un (h2.kept k) (I.bf.kept k)
theorem Inv.laid{a:Addr}{t':Nat}(I:Inv X pins σ H s)(k:∀b u,s.heap.get? b=some u->h'.get? b=some u)(aN:s.heap.objs.size<=a)(new:eI X.prog X.w (upd H a o) h' a o):
  Inv X pins σ (upd H a o) {s with heap:=h',toks:=t'}:=I.un (h2.laid k aN (I.bf.fresh aN)) (I.bf.laid k aN new)
theorem Inv.write{x:Addr}{t':Nat}(I:Inv X pins σ H s)(b0:Cj (H x))(he:e=x\/H e=some (.own x))(k:∀b u,b≠e->s.heap.get? b=some u->h'.get? b=some u)(z_:∃u,h'.get? e=some u)(new:eI X.prog X.w (upd H x o) h' x o):Inv X pins σ (upd H x o) {s with heap:=h',toks:=t'}:=I.un (h2.write b0 he k z_) (I.bf.write b0 he k z_ new)
theorem Inv.Â{Á:dP}(I:Inv X pins σ H s)(h:∀p∈Á,s.heap.get? p.1=some p.2/\H p.1=none/\p.1≠X.env.locals/\p.1∉X.fs/\∀v,p.2.data≠.cell v):Inv X Á σ H s:=
 ⟨I.ok,I.os,I.bare,I.base,I.loc,I.cell,I.free,I.mR,λp aN=>(hl.mp aN).elim (λz=>I.pin p (ab5 _ z)) (h p),I.bf,I.len⟩
theorem R'{N:cb}(eW:N.Nodup){i j:Nat}(a:N[i]?=some x)(b:N[j]?=some x):i=j:=by obtain⟨ag,az⟩:=eb.mp a;obtain⟨ai,aB⟩:=eb.mp b;exact(wC eW).mp (az.trans aB.symm)
theorem Ğ{M:mu}{E:cc}{i:Nat}{Q:Unit->aK->Prop}(I:Inv X pins σ H s)(eW:X.N.Nodup)(ak:X.N[i]?=some x)(av:Loc X.env.scope x)(r:RelV v u)(h:∀s',Inv X pins (σ.set i (some v)) H s'->(∃a,mn a s.heap s'.heap/\(a=X.env.locals\/X.env.cells.lookup x=some a))->Q () s')(hf:X.fn x=true\/X.env.scope.names.lookup x=some .local:=by first|exact .inl rfl|exact .inr rfl|assumption):aL M A (storeName X.env x u) Q E s:=by
 obtain⟨m,aM,aw⟩:=id I.loc;have Oc:(X.env.scope.kind==.class||(X.env.scope.kind==.module&&X.env.locals !=X.env.globals))=false:=by rw[I.ok.kind];rfl
 have Hv:i<σ.length:=by rw[I.len];exact(eb.mp ak).1
 have ql:=I.ql;have tracked:∀{a:Addr}{h':Heap},(∃o,s.heap.get? a=some o/\H a=none)->mn a s.heap h'->fE X.prog X.w H h':=λ{a h'}aF hs b ob e=>by
  obtain⟨_,_,Ht⟩:=aF;refine(I.bf b ob e).nM (λc eJ aq q=>(hs.2 c ?_).trans q) (λ_ q=>q) λ_ _ q=>q;rintro rfl;rcases aq with rfl|aq
  .rw[Ht]at e;cases e
  .rw[Ht]at aq;cases aq
 rcases av with aP|aP
 .refine wpAny_storeName_local aP aM (λh' oh hs=>?_) Oc;obtain⟨aoU,_,_,amS,_⟩:=id aM;refine h _ ⟨I.ok,I.os,I.bare,⟨λb o e n aa av=>?_,λb o e n aa av=>?_,I.base.free,λb o e av=>?_,I.base.ij,I.base.jr,I.base.j0⟩,⟨_,oh,λj y t4 az aB cX=>?_⟩,λy c e=>?_,I.free,I.mR,λp aN=>?_,tracked ⟨aoU,amS,I.free⟩ hs,by simpa using I.len⟩ ⟨_,hs,.inl rfl⟩
  .exact(hs.2 b (dR (iX (c5 e) I.ok.above))).trans (I.base.keep b o e n aa av)
  .obtain⟨sl,az⟩:=I.base.slot b o e n aa av;exact⟨sl,(hs.2 b (dR (iX (c5 e) I.ok.above))).trans az⟩
  .obtain⟨cB,az⟩:=I.base.there b o e av;exact⟨cB,(hs.2 b (dR (iX (c5 e) I.ok.above))).trans az⟩
  .by_cases bg:j=i
   .subst bg;rw[ak]at az;cases az;rw[Vg Hv]at aB;cases aB;exact⟨u,r,.inl ⟨aP,by simp⟩⟩
   .rw[Vf (c2 bg)]at aB;obtain⟨u',b9,q⟩:=aw j y t4 az aB cX;refine⟨u',b9,?_⟩;rcases q with⟨k,e⟩|⟨k,c,e,z⟩
    .refine .inl ⟨k,?_⟩;have:y≠x:=λe=>bg (R' eW az (e▸ak));simp[this,e]
    .exact .inr ⟨k,c,e,z.sameBut hs (ql y c e)⟩
  .obtain⟨eJ,z⟩:=I.cell y c e;exact⟨eJ,z.sameBut hs (ql y c e)⟩
  .obtain⟨e,n,ne,gr,d⟩:=I.pin p aN;exact⟨(hs.2 p.1 ne).trans e,n,ne,gr,d⟩
 .have Om:X.fn x=true:=by
   rcases hf with z|z
   .exact z
   .rw[z]at aP;cases aP
  obtain⟨c,aq⟩:=I.ok.has x (.inl aP);obtain⟨eJ,z⟩:=I.cell x c aq;refine wpAny_storeName_cell I.ok.kind aP aq z (λh' Y8 hs=>?_);obtain⟨km,ZF,amU⟩:=id z;refine h {s with heap:=h'} ⟨I.ok,I.os,I.bare,⟨λb o e n aa av=>?_,λb o e n aa av=>?_,I.base.free,λb o e av=>?_,I.base.ij,I.base.jr,I.base.j0⟩,⟨m,aM.sameBut hs (c2 (ql x c aq)),λj y t4 az aB cX=>?_⟩,λy jM e=>?_,I.free,I.mR,λp aN=>?_,tracked ⟨km,ZF,I.mR x c aq⟩ hs,by simpa using I.len⟩ ⟨c,hs,.inr aq⟩
  .exact(hs.2 b (dR (iX (c5 e) (I.ok.xc x c Om aq)))).trans (I.base.keep b o e n aa av)
  .obtain⟨sl,az⟩:=I.base.slot b o e n aa av;exact⟨sl,(hs.2 b (dR (iX (c5 e) (I.ok.xc x c Om aq)))).trans az⟩
  .obtain⟨cB,az⟩:=I.base.there b o e av;exact⟨cB,(hs.2 b (dR (iX (c5 e) (I.ok.xc x c Om aq)))).trans az⟩
  .by_cases bg:j=i
   .subst bg;rw[ak]at az;cases az;rw[Vg Hv]at aB;cases aB;exact⟨u,r,.inr ⟨.inl aP,c,aq,Y8⟩⟩
   .rw[Vf (c2 bg)]at aB;obtain⟨u',b9,q⟩:=aw j y t4 az aB cX;refine⟨u',b9,?_⟩;rcases q with q|⟨k,jM,e,dk⟩
    .exact .inl q
    .refine .inr ⟨k,jM,e,dk.sameBut hs ?_⟩;rintro rfl;exact bg (R' eW az (I.ok.inj _ _ _ e aq▸ak))
  .by_cases Zb:jM=c
   .subst Zb;exact⟨_,Y8⟩
   .obtain⟨g4,bu⟩:=I.cell y jM e;exact⟨g4,bu.sameBut hs Zb⟩
  .obtain⟨e,n,ne,gr,d⟩:=I.pin p aN;refine⟨(hs.2 p.1 ?_).trans e,n,ne,gr,d⟩;intro q;rw[q,ZF]at e;have gs:km=p.2:=gV e;exact d eJ (by rw[<-gs];exact amU)
theorem R_{M:mu}{E:cc}{i:Nat}{Q:Unit->aK->Prop}(I:Inv X pins σ H s)(eW:X.N.Nodup)(ak:X.N[i]?=some x)(av:Loc X.env.scope x)(r:RelV v u)(h:∀s',Inv X pins (σ.set i (some v)) H s'->Q () s')(hf:X.fn x=true\/X.env.scope.names.lookup x=some .local:=by first|exact .inl rfl|exact .inr rfl|assumption):aL M A (storeName X.env x u) Q E s:=
 Ğ I eW ak av r (λs' p0 _=>h s' p0) hf
theorem Inv.MV{s':aK}{ch:cj}(I:Inv X pins σ H s)(aU:s'.os=s.os)(u:h2 (fu X.stack) ch H H' s.heap s'.heap)(bf:fE X.prog X.w H' s'.heap)(bE:sq s'.gens)(jw:∀b∈ch,(b∈X.ex\/X.ix.heap.objs.size<=b)/\b≠X.env.locals/\(∀x c,X.env.cells.lookup x=some c->c≠b)/\∀p∈X.eC++pins,p.1≠b):Inv X pins σ H' s':=by obtain⟨h',g',d',t',cB⟩:=s';have e:cB=s.os:=aU;subst e;exact I.call (g':=g') (t':=t') (d':=d') u bf bE jw
end
noncomputable abbrev bX:=Value->Option Addr->ae->Prop
noncomputable abbrev St:=List (Option V)
noncomputable abbrev a':=V->ae->Prop
noncomputable abbrev TE:=St->ae->a'->Prop
noncomputable abbrev TT:=St->ae->(Bool->ae->Prop)->Prop
noncomputable abbrev fP:=St->ae->(List V->ae->Prop)->Prop
structure Ends where
 b1:St->ae->Prop
 rW:a'
 hq:St->ae->Prop:=λ_ _=>False
 eL:St->ae->Prop:=λ_ _=>False
noncomputable abbrev e':=Ends->St->ae->Prop
noncomputable def iC(X:bo)(pins:dP)(σ:St)(Q:a')(u:Value)(s':aK):Prop:=∃v H',Inv X pins σ H' s'/\RelV v u/\Q v H'
noncomputable def Gq(X:bo)(pins:dP)(σ:St)(Q:Bool->ae->Prop)(b:Bool)(s':aK):Prop:=∃H',Inv X pins σ H' s'/\Q b H'
noncomputable def SO(X:bo)(pins:dP)(σ:St)(Q:List V->ae->Prop)(us:c7)(s':aK):Prop:=∃vs H',Inv X pins σ H' s'/\cN vs us/\Q vs H'
noncomputable def wY(X:bo)(pins:dP)(D:Ends)(f:Flow)(s':aK):Prop:=
 match f with
 |.next=>∃a9 H',Inv X pins a9 H' s'/\D.b1 a9 H'
 |.brk=>∃a9 H',Inv X pins a9 H' s'/\D.hq a9 H'
 |.cont=>∃a9 H',Inv X pins a9 H' s'/\D.eL a9 H'
 |.ret u=>∃v a9 H',Inv X pins a9 H' s'/\RelV v u/\D.rW v H'
noncomputable def bq(X:bo)(e:Expr)(t:TE):Prop:=
 ∀(pins:dP)(s:aK)(σ:St)(H:ae)(Q:a'),Inv X pins σ H s->t σ H Q->aL (aX X.prog X.w) X.A (eval e X.env) (iC X pins σ Q) X.dZ s
noncomputable def lT(X:bo)(e:Expr)(t:TT):Prop:=
 ∀(pins:dP)(s:aK)(σ:St)(H:ae)(Q:Bool->ae->Prop),Inv X pins σ H s->t σ H Q->aL (aX X.prog X.w) X.A (DE e X.env (eval e X.env)) (Gq X pins σ Q) X.dZ s
noncomputable def h1(X:bo)(e:Expr)(t:TT):Prop:=
 ∀(whole:Sem Value)(pins:dP)(s:aK)(σ:St)(H:ae)(Q:Bool->ae->Prop),Inv X pins σ H s->t σ H Q->aL (aX X.prog X.w) X.A (DE e X.env whole) (Gq X pins σ Q) X.dZ s
theorem h1.pt{X:bo}{t:TT}(h:h1 X e t):lT X e t:=h _
noncomputable def gw(X:bo)(es:hF)(t:fP):Prop:=
 ∀(pos:Pos)(pins:dP)(s:aK)(σ:St)(H:ae)(Q:List V->ae->Prop),Inv X pins σ H s->t σ H Q->aL (aX X.prog X.w) X.A (spliced (hp pos (dY es X.env))) (SO X pins σ Q) X.dZ s
noncomputable def gI(X:bo)(st:Stmt)(t:e'):Prop:=
 ∀(pins:dP)(s:aK)(σ:St)(H:ae)(D:Ends),Inv X pins σ H s->t D σ H->aL (aX X.prog X.w) X.A (exec st X.env) (wY X pins D) X.dZ s
noncomputable def g6(X:bo)(st:List Stmt)(t:e'):Prop:=
 ∀(pins:dP)(s:aK)(σ:St)(H:ae)(D:Ends),Inv X pins σ H s->t D σ H->aL (aX X.prog X.w) X.A (execs st X.env) (wY X pins D) X.dZ s
theorem bD{α:Type}{t:Sem α}{Q mx:α->aK->Prop}{M:mu}{E:cc}(h:aL M A t Q E s)(d8:∀a s,Q a s->mx a s):aL M A t mx E s:=gi h d8 λ_ _ x=>x
section
variable{X:bo}
theorem bin{bQ c_:TE}(aF:bq X a bQ)(aa:bq X b c_){R:V->V->ae->Prop}(I:Inv X pins σ H s)(h:bQ σ H λx H1=>c_ σ H1 λy ah=>R x y ah){α:Type}{Q:α->aK->Prop}{f:Value->Value->Sem α}(hf:∀v u s2 x y ah,Inv X pins σ ah s2->RelV x v->RelV y u->R x y ah->aL (aX X.prog X.w) X.A (f v u) Q X.dZ s2):
  aL (aX X.prog X.w) X.A (eval a X.env) (λv d2=>aL (aX X.prog X.w) X.A (eval b X.env) (λu r6=>aL (aX X.prog X.w) X.A (f v u) Q X.dZ r6) X.dZ d2) X.dZ s:=by refine bD (aF pins s σ H _ I h) λv s1 hz=>?_;obtain⟨x,H1,aR,b3,bz⟩:=hz;refine bD (aa pins s1 σ H1 _ aR bz) λu s2 hz=>?_;obtain⟨y,ah,bH,dh,cv⟩:=hz;exact hf v u s2 x y ah bH b3 dh cv
inductive Mo(i:Nat)(σ:ar.St)(H:ae)(Q:a'):Prop where
 |mk (v:_) (bM:σ[i]?=some (some v)) (bu:Q v H)
noncomputable def tV(v:V):TE:=λ_ H Q=>Q v H
theorem agw{i:Nat}(eW:X.N[i]?=some x)(bj:Mn X.env.scope x)(hd:(x==("__debug__":Str))=false:=by decide)(lg:(x==("__classdict__":Str))=false:=by decide):bq X (.Name x pos) (Mo i):=by
 intro pins s σ H Q I h;obtain⟨v,e,h⟩:=h;obtain⟨m,aM,aw⟩:=I.loc;obtain⟨u,r,l⟩:=aw i x v eW e bj;have fin:iC X pins σ Q u s:=⟨v,H,I,r,h⟩
 rcases l with⟨aP,hm⟩|⟨aP,c,aq,u6⟩
 .exact Č (wpAny_loadName_local I.ok.kind aP aM hm fin) hd
 .rcases aP with aP|aP
  .exact Č (wpAny_loadName_cell I.ok.kind aP aq u6 fin) hd
  .exact Č (wpAny_loadName_free I.ok.kind aP aq u6 fin lg) hd
theorem aV{i j pos}:bq X (.Constant (.int i) j pos) (tV (.int i)):=λ_ _ _ H _ I h=>wpAny_Constant_int ⟨.int i,H,I.tok _,⟨_,rfl⟩,h⟩
theorem iq{b j pos}:bq X (.Constant (.bool b) j pos) (tV (.aA b)):=λ_ _ _ H _ I h=>Constant_bool ⟨.aA b,H,I,rfl,h⟩
theorem hL{j pos}:bq X (.Constant .none j pos) (tV .bc):=λ_ _ _ H _ I h=>Constant_none ⟨.bc,H,I,rfl,h⟩
theorem g8{x j pos}:bq X (.Constant (.str x) j pos) (tV (.str x)):=λ_ _ _ H _ I h=>Calls.Constant_str ⟨.str x,H,I.tok _,⟨_,rfl⟩,h⟩
noncomputable def jd(X:bo)(x:Str):Prop:=X.env.kindOf x=some .globalImplicit
theorem vD{E:cc}{Q:cc}(I:Inv X pins σ H s)(bE:jd X x)(hm:X.mg x=some u)(h:Q u s)(hd:(x==("__debug__":Str))=false:=by decide):aL (aX X.prog X.w) X.A (eval (.Name x pos) X.env) Q E s:=
 Ų I.ok.kind bE (Calls.loadGlobal_global (by rw[I.ok.glob];exact I.mod.glob.keeps I.hq) hm h) hd
theorem vN{E:cc}{Q:cc}(I:Inv X pins σ H s)(bE:jd X x)(hm:X.mg x=none)(bj:iG x=some u)(h:Q u s)(aM:x≠"__name__":=by decide)(hd:(x==("__debug__":Str))=false:=by decide):aL (aX X.prog X.w) X.A (eval (.Name x pos) X.env) Q E s:=by obtain⟨pz,ag,ai⟩:=I.mod.blt;exact Ų I.ok.kind bE (Calls.loadGlobal_builtin (by rw[I.ok.glob];exact I.mod.glob.keeps I.hq) hm (by rw[I.ok.blt];exact ag.keeps I.hq) ((ai x aM).trans bj) h) hd
theorem Uk(bE:jd X x)(hm:X.mg x=some u)(r:RelV v u)(hd:(x==("__debug__":Str))=false:=by decide):bq X (.Name x pos) (tV v):=
 λ_ _ _ H _ I h=>vD I bE hm ⟨v,H,I,r,h⟩ hd
theorem aeY(bE:jd X x)(hm:X.mg x=none)(bj:iG x=some u)(r:RelV v u)(aM:x≠"__name__":=by decide)(hd:(x==("__debug__":Str))=false:=by decide):bq X (.Name x pos) (tV v):=
 λ_ _ _ H _ I h=>vN I bE hm bj ⟨v,H,I,r,h⟩ aM hd
variable{a b:Expr}{bQ c_:TE}{pos:Pos}
noncomputable def Ge(X:bo)(op:sv)(a b:Expr)(t:TE):Prop:=
 ∀(pins:dP)(s:aK)(σ:St)(H:ae)(Q:a'),Inv X pins σ H s->t σ H Q->
  aL (aX X.prog X.w) X.A (eval a X.env) (λv d2=>aL (aX X.prog X.w) X.A (eval b X.env) (λu r6=>aL (aX X.prog X.w) X.A (gA op v u) (iC X pins σ Q) X.dZ r6) X.dZ d2) X.dZ s
theorem S3(b:Expr){op:sv}(h:op≠.In)(ai:op≠.NotIn):w9 op b=false:=by
 have az:(op==CmpOp.In)=false:=by cases op<;>first|rfl|exact bx rfl h
 have aB:(op==CmpOp.NotIn)=false:=by cases op<;>first|rfl|exact bx rfl ai
 cases b<;>simp[w9,az,aB]
inductive Ut(x:V)(H1:ae)(Q:Bool->ae->Prop):Prop where
 |mk (c:_) (bM:x=.aA c) (bu:Q c H1)
noncomputable def RC(t:TE):TT:=λσ H Q=>t σ H λx H1=>Ut x H1 Q
theorem agx{op:sv}{t:TE}(h:Ge X op a b t)(ag:w9 op b=false:=by first|exact S3 _ (by decide) (by decide)|rfl):bq X (.Compare a [op] [b] pos) t:=λpins s σ H Q I hw=>aqq (h pins s σ H Q I hw) ag
theorem K4{op:sv}{t:TE}(h:Ge X op a b t)(ag:w9 op b=false:=by first|exact S3 _ (by decide) (by decide)|rfl):lT X (.Compare a [op] [b] pos) (RC t):=by intro pins s σ H Q I hw;refine aqu (bD (h pins s σ H _ I hw) λv s1 ag=>bD ag λu s2 ai=>bD ai λc s3 hz=>?_) ag;obtain⟨x,H1,aR,b3,bz⟩:=hz;obtain⟨d,rfl,q⟩:=bz;cases b3;exact ml ⟨H1,aR,q⟩
theorem ip{e:Expr}{t:TE}(h:bq X e t)(he:∀whole,DE e X.env whole=(do let v <-whole;tU e.pos;mU [v] (truthy v)):=by intro _;rfl):lT X e (RC t):=by intro pins s σ H Q I hw;refine isTrue_plain (bD (h pins s σ H _ I hw) λv s1 hz=>?_) (he _);obtain⟨x,H1,aR,b3,bz⟩:=hz;obtain⟨d,rfl,q⟩:=bz;cases b3;exact ml ⟨H1,aR,q⟩
variable{r7 Jz:TT}{rest:hF}
noncomputable def aje(t u:TT):TT:=λσ H Q=>t σ H λc H1=>if c=true then u σ H1 Q else Q false H1
noncomputable def apR(t u:TT):TT:=λσ H Q=>t σ H λc H1=>if c=true then Q true H1 else u σ H1 Q
noncomputable def Xe(t:TT):TT:=λσ H Q=>t σ H λc H1=>Q (!c) H1
theorem Ew(aF:lT X a r7):h1 X (.BoolOp .And [a] pos) r7:=by
 intro EL pins s σ H Q I h;refine isTrue_and (bD (aF pins s σ H Q I h) λc s1 e=>?_);cases c with
 |true=>exact isTrue_and_nil e
 |false=>exact e
theorem pw(aF:lT X a r7):h1 X (.BoolOp .Or [a] pos) r7:=by
 intro EL pins s σ H Q I h;refine isTrue_or (bD (aF pins s σ H Q I h) λc s1 e=>?_);cases c with
 |false=>exact isTrue_or_nil e
 |true=>exact e
theorem Bn(aF:lT X a r7)(aa:h1 X (.BoolOp .And (b::rest) pos) Jz):h1 X (.BoolOp .And (a::b::rest) pos) (aje r7 Jz):=by
 intro EL pins s σ H Q I h;refine isTrue_and (bD (aF pins s σ H _ I h) λc s1 hz=>?_);obtain⟨H1,aR,bz⟩:=hz;cases c with
 |true=>exact aa EL pins s1 σ H1 Q aR bz
 |false=>exact⟨H1,aR,bz⟩
theorem lq(aF:lT X a r7)(aa:h1 X (.BoolOp .Or (b::rest) pos) Jz):h1 X (.BoolOp .Or (a::b::rest) pos) (apR r7 Jz):=by
 intro EL pins s σ H Q I h;refine isTrue_or (bD (aF pins s σ H _ I h) λc s1 hz=>?_);obtain⟨H1,aR,bz⟩:=hz;cases c with
 |true=>exact⟨H1,aR,bz⟩
 |false=>exact aa EL pins s1 σ H1 Q aR bz
theorem g9(aF:lT X a r7):lT X (.UnaryOp .Not a pos) (Xe r7):=by intro pins s σ H Q I h;exact isTrue_not (aF pins s σ H (λc H1=>Q (!c) H1) I h)
noncomputable def Fy(bQ c_:TE):TE:=λσ H Q=>bQ σ H λx H1=>∃c,x=.aA c/\if c=true then c_ σ H1 Q else Q (.aA false) H1
noncomputable def ajf(bQ c_:TE):TE:=λσ H Q=>bQ σ H λx H1=>∃c,x=.aA c/\if c=true then Q (.aA true) H1 else c_ σ H1 Q
noncomputable def ah0(bQ:TE):TE:=λσ H Q=>bQ σ H λx H1=>∃c,x=.aA c/\Q (.aA (!c)) H1
theorem l5{op}{t:TE}(h:bq X a t):bq X (.BoolOp op [a] pos) t:=λpins s σ H Q I hw=>BoolOp_one (h pins s σ H Q I hw)
theorem hM(aF:bq X a bQ)(aa:bq X (.BoolOp .And (b::rest) pos) c_):bq X (.BoolOp .And (a::b::rest) pos) (Fy bQ c_):=by
 intro pins s σ H Q I h;refine BoolOp_and (bD (aF pins s σ H _ I h) λv s1 hz=>?_);obtain⟨x,H1,aR,b3,bz⟩:=hz;obtain⟨c,rfl,bz⟩:=bz;cases b3;refine ml ?_;cases c with
 |true=>exact aa pins s1 σ H1 Q aR bz
 |false=>exact⟨.aA false,H1,aR,rfl,bz⟩
theorem W2(aF:bq X a bQ)(aa:bq X (.BoolOp .Or (b::rest) pos) c_):bq X (.BoolOp .Or (a::b::rest) pos) (ajf bQ c_):=by
 intro pins s σ H Q I h;refine BoolOp_or (bD (aF pins s σ H _ I h) λv s1 hz=>?_);obtain⟨x,H1,aR,b3,bz⟩:=hz;obtain⟨c,rfl,bz⟩:=bz;cases b3;refine ml ?_;cases c with
 |false=>exact aa pins s1 σ H1 Q aR bz
 |true=>exact⟨.aA true,H1,aR,rfl,bz⟩
theorem Vv(aF:bq X a bQ):bq X (.UnaryOp .Not a pos) (ah0 bQ):=by intro pins s σ H Q I h;refine UnaryOp_ (bD (aF pins s σ H _ I h) λv s1 hz=>?_);obtain⟨x,H1,aR,b3,bz⟩:=hz;obtain⟨c,rfl,bz⟩:=bz;cases b3;exact not_of (ml ⟨.aA (!c),H1,aR,rfl,bz⟩)
end
noncomputable def aC(K:aY)(H:ae)(a:Addr)(xs:aW):Prop:=
 gJ H a (.lst xs)\/
  ∃(o:Obj)(its:kV)(n:Nat),K.lookup a=some o/\o.cls=.type "list"/\o.dict=none/\o.data=.seq its n/\its.size<=sizeLine/\cN xs its.toList
noncomputable def bI(K:aY)(H:ae)(a:Addr)(xs:aW):Prop:=
 gJ H a (.tup xs)\/
  ∃(o:Obj)(its:kV)(n:Nat),K.lookup a=some o/\o.cls=.type "tuple"/\o.data=.seq its n/\its.size<=sizeLine/\cN xs its.toList
noncomputable def ajg:Value->Option V
 |.none=>some .bc
 |.bool b=>some (.aA b)
 |.int i _=>some (.int i)
 |.str x _=>some (.str x)
 |.bytes b _=>some (.nr b)
 |.float b _=>some (.xq b)
 |.ref a=>some (.ref a)
 |.type n=>some (.ty n)
 |_=>none
theorem RelV.abs(r:RelV x u):ajg u=some x:=by
 cases x with
 |bc=>cases r;rfl
 |aA _=>cases r;rfl
 |int _=>obtain⟨t,rfl⟩:=r;rfl
 |str _=>obtain⟨t,rfl⟩:=r;rfl
 |nr _=>obtain⟨t,rfl⟩:=r;rfl
 |xq _=>obtain⟨t,rfl⟩:=r;rfl
 |ref _=>cases r;rfl
 |ty _=>cases r;rfl
theorem RelV.inj{y:V}(r:RelV x u)(q:RelV y u):x=y:=gV (r.abs.symm.trans q.abs)
theorem cN.inj:∀{xs ys:aW}{us:c7},cN xs us->cN ys us->xs=ys
 |_,_,_,.nil,.nil=>rfl
 |_,_,_,.cons r t,.cons b9 t'=>by rw[r.inj b9,cN.inj t t']
section
variable{X:bo}{pins:dP}{σ:St}{H:ae}{s:aK}{a:Addr}{xs ys:aW}
theorem aC.of{K:aY}(h:H a=some (.lst xs)):aC K H a xs:=.inl (.inl h)
theorem bI.of{K:aY}(h:H a=some (.tup xs)):bI K H a xs:=.inl (.inl h)
theorem Inv.list(I:Inv X pins σ H s)(h:aC X.K H a xs):∃its:List Value,cN xs its/\PlainL s.heap a its.toArray/\xs.length<=sizeLine:=by
 rcases h with h|⟨o,its,n,aP,aq,hd,hs,hz,r⟩
 .obtain⟨z,its,n,r,e⟩:=h.ok I.bf;exact⟨its,r,⟨_,n,e,rfl,rfl,rfl⟩,z⟩
 .refine⟨its.toList,r,⟨o,n,I.eX a o aP,aq,hd,by simpa using hs⟩,?_⟩;have e:=r.length;simp only[nU]at e;omega
theorem Inv.tuple(I:Inv X pins σ H s)(h:bI X.K H a xs):∃its:List Value,cN xs its/\wx s.heap a its.toArray/\xs.length<=sizeLine:=by
 rcases h with h|⟨o,its,n,aP,aq,hs,hz,r⟩
 .obtain⟨z,its,r,p⟩:=h.ok I.bf;exact⟨its,r,p,z⟩
 .refine⟨its.toList,r,⟨o,I.eX a o aP,aq,n,by simpa using hs⟩,?_⟩;have e:=r.length;simp only[nU]at e;omega
theorem Inv.H0(I:Inv X pins σ H s)(h:aC X.K H a xs)(h':aC X.K H a ys):xs=ys:=by
 obtain⟨its,r,⟨o,n,e,_,_,d⟩,_⟩:=I.list h;obtain⟨its',b9,⟨cB,i',bJ,_,_,d'⟩,_⟩:=I.list h';rw[e]at bJ;cases bJ;rw[d]at d';injection d' with hK _;have:its=its':=by simpa using ht Œ hK
 subst this;exact r.inj b9
theorem Inv.ap4(I:Inv X pins σ H s)(h:bI X.K H a xs)(h':bI X.K H a ys):xs=ys:=by
 obtain⟨its,r,⟨o,e,_,n,d⟩,_⟩:=I.tuple h;obtain⟨its',b9,⟨cB,bJ,_,i',d'⟩,_⟩:=I.tuple h';rw[e]at bJ;cases bJ;rw[d]at d';injection d' with hK _;have:its=its':=by simpa using ht Œ hK
 subst this;exact r.inj b9
end
noncomputable abbrev bo.nR(X:bo)(E:cc):bo:={X with dZ:=E}
noncomputable abbrev bo.x7(X:bo):bo:=X.nR λ_ _=>False
theorem bo.Ok.nR{X:bo}(ok:X.Ok)(E:cc):(X.nR E).Ok:=
 ⟨ok.mod,ok.kind,ok.glob,ok.blt,ok.above,ok.inj,ok.has,ok.xc,ok.hd,ok.frames,ok.r4,ok.G9,ok.bs,ok.rl,ok.x6,ok.z0,ok.kD,ok.ta⟩
theorem bo.Ok.qY{X:bo}{E:cc}(ok:(X.nR E).Ok):X.Ok:=
 ⟨ok.mod,ok.kind,ok.glob,ok.blt,ok.above,ok.inj,ok.has,ok.xc,ok.hd,ok.frames,ok.r4,ok.G9,ok.bs,ok.rl,ok.x6,ok.z0,ok.kD,ok.ta⟩
section
variable{X:bo}{pins:dP}{σ:St}{H:ae}{s:aK}{E:cc}
theorem Inv.nR(I:Inv X pins σ H s)(E:cc):Inv (X.nR E) pins σ H s:=⟨I.ok.nR E,I.os,I.bare,I.base,I.loc,I.cell,I.free,I.mR,I.pin,I.bf,I.len⟩
theorem Inv.qY(I:Inv (X.nR E) pins σ H s):Inv X pins σ H s:=⟨I.ok.qY,I.os,I.bare,I.base,I.loc,I.cell,I.free,I.mR,I.pin,I.bf,I.len⟩
theorem wY.qY{D:Ends}{f:Flow}(h:wY (X.nR E) pins D f s'):wY X pins D f s':=by
 cases f with
 |next=>obtain⟨a9,H',I,q⟩:=h;exact⟨a9,H',I.qY,q⟩
 |brk=>obtain⟨a9,H',I,q⟩:=h;exact⟨a9,H',I.qY,q⟩
 |cont=>obtain⟨a9,H',I,q⟩:=h;exact⟨a9,H',I.qY,q⟩
 |ret u=>obtain⟨v,a9,H',I,r,q⟩:=h;exact⟨v,a9,H',I.qY,r,q⟩
theorem g6.x7{st:List Stmt}{t:e'}(h:g6 X.x7 st t):g6 X st t:=λpins s σ H D I hw=>
 gi (h pins s σ H D (I.nR _) hw) (λ_ _ q=>q.qY) λ_ _ z=>iU z
end
section
variable{X:bo}{st:Stmt}{rest:List Stmt}{t u:e'}{e:Expr}{b6:TE}{pos:Pos}
noncomputable def wa:e':=λD σ H=>D.b1 σ H
noncomputable def iQ(t u:e'):e':=λD σ H=>t {D with b1:=u D} σ H
theorem dW:g6 X [] wa:=λ_ _ σ H _ I h=>EN ⟨σ,H,I,h⟩
theorem a_(ag:gI X st t)(ai:g6 X rest u):g6 X (st::rest) (iQ t u):=by
 intro pins s σ H D I h;refine ď (bD (ag pins s σ H {D with b1:=u D} I h) λf s1 q=>?_);cases f with
 |next=>
  obtain⟨a9,H',p0,q⟩:=q;exact ai pins s1 a9 H' D p0 q
 |ret v=>exact q
 |brk=>exact q
 |cont=>exact q
theorem bb(ag:gI X st t):g6 X [st] t:=by
 intro pins s σ H D I h;refine ď (bD (ag pins s σ H D I h) λf s1 q=>?_);cases f with
 |next=>exact EN q
 |ret v=>exact q
 |brk=>exact q
 |cont=>exact q
theorem Inv.quiet(I:Inv X pins σ H s):interactive X.env=false:=by simp[interactive,I.ok.kind]
noncomputable def ah1(b6:TE):e':=λD σ H=>b6 σ H λ_ H1=>D.b1 σ H1
theorem gK(he:bq X e b6)(hs:A_ e none pos.line X.env=pure false:=by rfl):gI X (.Expr e pos) (ah1 b6):=by intro pins s σ H D I h;exact aqs (bD (he pins s σ H _ I h) λv s1⟨x,H1,aR,b3,bz⟩=>⟨σ,H1,aR,bz⟩) I.quiet hs
noncomputable def zc(b6:TE):e':=λD σ H=>b6 σ H D.rW
theorem cp(he:bq X e b6):gI X (.Return (some e) pos) (zc b6):=by intro pins s σ H D I h;exact wpAny_Return_some (bD (he pins s σ H _ I h) λv s1⟨x,H1,aR,b3,bz⟩=>⟨x,σ,H1,aR,b3,bz⟩)
noncomputable def sb(c:TT)(t u:e'):e':=λD σ H=>c σ H λb H1=>if b=true then t D σ H1 else u D σ H1
theorem dQ{a b:List Stmt}(aq:lT X c mh)(aF:g6 X a t)(aa:g6 X b u):gI X (.If c a b pos) (sb mh t u):=by
 intro pins s σ H D I h;refine wpAny_If (bD (aq pins s σ H _ I h) λd s1 hz=>?_);obtain⟨H1,aR,bz⟩:=hz;cases d with
 |true=>exact aF pins s1 σ H1 D aR bz
 |false=>exact aa pins s1 σ H1 D aR bz
noncomputable def agy:e':=λ_ _ _=>False
theorem I_:gI X st agy:=λ_ _ _ _ _ _ h=>h.elim
noncomputable abbrev fg:=V->St->ae->(St->ae->Prop)->Prop
noncomputable abbrev wZ:=List V->St->ae->(St->ae->Prop)->Prop
end
noncomputable def rb(X:bo)(target:Expr)(t:fg):Prop:=
 ∀(pins:dP)(s:aK)(σ:St)(H:ae)(v:V)(u:Value)(Q:St->ae->Prop),Inv X pins σ H s->RelV v u->t v σ H Q->
  aL (aX X.prog X.w) X.A (zP target X.env u) (λ_ s'=>∃a9 H',Inv X pins a9 H' s'/\Q a9 H') X.dZ s
noncomputable def Cs(X:bo)(ts:hF)(t:wZ):Prop:=
 ∀(pins:dP)(s:aK)(σ:St)(H:ae)(vs:aW)(us:c7)(Q:St->ae->Prop),Inv X pins σ H s->cN vs us->t vs σ H Q->
  aL (aX X.prog X.w) X.A (assignInOrder ((w6 ts X.env).map (·.2)) us) (λ_ s'=>∃a9 H',Inv X pins a9 H' s'/\Q a9 H') X.dZ s
noncomputable abbrev Mp:=V->V->V->ae->(ae->Prop)->Prop
noncomputable def Xf(X:bo)(t:Mp):Prop:=
 ∀(pins:dP)(s:aK)(σ:St)(H:ae)(o i v:V)(fC i4 u:Value)(Q:ae->Prop),Inv X pins σ H s->RelV o fC->RelV i i4->RelV v u->t o i v H Q->
  aL (aX X.prog X.w) X.A (setItem fC i4 u) (λ_ s'=>∃H',Inv X pins σ H' s'/\Q H') X.dZ s
section
variable{X:bo}{pos:Pos}
noncomputable def ha(i:Nat):fg:=λv σ H Q=>Q (σ.set i (some v)) H
theorem eu{i:Nat}(eW:X.N.Nodup)(ak:X.N[i]?=some x)(av:Loc X.env.scope x)(hf:X.fn x=true\/X.env.scope.names.lookup x=some .local:=by first|exact .inl rfl|exact .inr rfl|assumption):rb X (.Name x pos) (ha i):=by intro pins s σ H v u Q I r h;exact aqt (R_ I eW ak av r (λs' p0=>⟨_,H,p0,h⟩) hf)
noncomputable def Gl:wZ:=λvs σ H Q=>vs=[]/\Q σ H
inductive yM(t:fg)(u:wZ)(vs:aW)(σ:ar.St)(H:ae)(Q:(ar.St->ae->Prop)):Prop where
 |mk (v:_) (r:_) (bM:vs=v::r) (bu:t v σ H λa9 H'=>u r a9 H' Q)
theorem x':Cs X [] Gl:=by intro pins s σ H vs us Q I r h;obtain⟨e,h⟩:=h;subst e;cases r;exact assignInOrder_nil ⟨σ,H,I,h⟩
theorem mQ{e:Expr}{es:hF}{t:fg}{u:wZ}(ag:rb X e t)(ai:Cs X es u)(hs:(w6 (e::es) X.env).map (·.2)=zP e X.env::(w6 es X.env).map (·.2):=by rfl):Cs X (e::es) (yM t u):=by
 intro pins s σ H vs us Q I r h;obtain⟨v,JY,az,h⟩:=h;subst az;cases r with
 |cons r nL=>
  rw[hs];refine assignInOrder_cons (bD (ag pins s σ H _ _ _ I r h) λ_ s1 hz=>?_);obtain⟨t9,H1,aR,bz⟩:=hz;exact ai pins s1 t9 H1 _ _ Q aR nL bz
inductive Cn(K:aY)(n:Nat)(t:wZ)(v:ar.V)(σ:ar.St)(H:ae)(Q:(ar.St->ae->Prop)):Prop where
 |mk (a:_) (xs:_) (bM:v=.ref a) (bu:bI K H a xs) (bW:xs.length=n) (cW:t xs σ H Q)
theorem EG{k:Nat}{t:wZ}{n:Nat}(aq:X.calm=true)(h:Cs X es t)(aM:(w6 es X.env).length=n:=by rfl)(iM:(w6 es X.env).findIdx? (·.1)=none:=by rfl):rb X (.Tuple es k pos) (Cn X.K n t):=by intro pins s σ H v u Q I r hw;obtain⟨a,xs,az,a8,aw,hw⟩:=hw;subst az;cases r;obtain⟨its,cf,dM,hz⟩:=I.tuple a8;refine assign_Tuple_tuple (I.ok.hd aq) dM (by simp[aM,<-aw,cf.length]) iM λh' av=>?_;have aR:Inv X pins σ H {s with heap:=h'}:=I.kept (t':=s.toks) λb o e=>av b o (dR (c5 e)) e;exact h pins _ σ H xs _ Q aR (by simpa using cf) hw
noncomputable def ajh(to JH:TE)(t:Mp):fg:=λv σ H Q=>to σ H λo H1=>JH σ H1 λi ah=>t o i v ah λaZ=>Q σ aZ
theorem ag0{t:Mp}(aU:bq X o to)(ak:bq X i JH)(hs:Xf X t)(aF:∀v,zP (.Subscript o i pos) X.env v=(do
   let fC <-mU [v] (eval o X.env)
   let i4 <-mU [v,fC] (eval i X.env)
   tU pos
   mU [v,fC,i4] (setItem fC i4 v)
   release [v,fC,i4] []):=by intro _;rfl):rb X (.Subscript o i pos) (ajh to JH t):=by intro pins s σ H v u Q I r h;rw[aF];refine au (hA (bD (aU pins s σ H _ I h) λfC s1 hz=>?_));obtain⟨x,H1,aR,b3,bz⟩:=hz;refine au (hA (bD (ak pins s1 σ H1 _ aR bz) λi4 s2 hz=>?_));obtain⟨y,ah,bH,dh,cv⟩:=hz;refine au (ER (au (hA (bD (hs pins s2 σ ah x y v fC i4 u _ bH b3 dh r cv) λ_ s3 hz=>?_))));obtain⟨aZ,cZ,gg⟩:=hz;exact wpAny_release ⟨σ,aZ,cZ,gg⟩
noncomputable def so(b6:TE)(g:fg):e':=λD σ H=>b6 σ H λx H1=>g x σ H1 D.b1
theorem Vw{g:fg}(he:bq X e b6)(bE:rb X ea g)(hs:swapsWithSole [ea] e pos.line X.env=pure false:=by rfl)(hw:swappedStores [ea] e X.env=pure none:=by rfl)(ag:(w6 [ea] X.env).map (·.2)=[zP ea X.env]:=by rfl):gI X (.Assign [ea] e pos) (so b6 g):=by intro pins s σ H D I h;refine wpAny_Assign_stores (bD (he pins s σ H _ I h) λv s1 hz=>?_) hs hw;obtain⟨x,H1,aR,b3,bz⟩:=hz;rw[ag];exact bD (bE pins s1 σ H1 x v _ aR b3 bz) λ_ s2 q=>q
theorem dI{i:Nat}(eW:X.N.Nodup)(ak:X.N[i]?=some x)(av:Loc X.env.scope x)(he:bq X e b6)(hs:A_ e (some (.Name x pos')) pos.line X.env=pure false:=by rfl)(hf:X.fn x=true\/X.env.scope.names.lookup x=some .local:=by first|exact .inl rfl|exact .inr rfl|assumption):
  gI X (.Assign [.Name x pos'] e pos) (so b6 (ha i)):=by intro pins s σ H D I h;refine wpAny_Assign_Name (bD (he pins s σ H _ I h) λv s1 hz=>?_) hs;obtain⟨y,H1,aR,b3,bz⟩:=hz;exact R_ aR eW ak av b3 (λs2 bH=>⟨_,H1,bH,bz⟩) hf
noncomputable def ag1(c:TT)(c_:e'):e':=λD σ H=>∃W:Nat->St->ae->Prop,(∃m,W m σ H)/\∀m σ H,W m σ H->
 c σ H λb H1=>if b=true then∃N:St->ae->Prop,(∀a9 H',N a9 H'->∃dc,dc<m/\W dc a9 H')/\c_ {D with b1:=N,eL:=N,hq:=D.b1} σ H1 else D.b1 σ H1
theorem ade{body:List Stmt}(aN:PassesOwn (aX X.prog X.w) X.A X.env X.dZ)(aq:lT X c mh)(aa:g6 X body c_):gI X (.While c body [] pos) (ag1 mh c_):=by
 intro pins s σ H D I h;obtain⟨W,⟨m0,EE⟩,turn⟩:=h;refine wpAny_While (codeAny_whileLoop (λn s'=>∃a9 H',Inv X pins a9 H' s'/\W n a9 H') ?_ m0 ⟨σ,H,I,EE⟩);rintro n s1 ⟨t9,H1,aR,gF⟩;refine Bt aN (bD (aq pins s1 t9 H1 _ aR (turn n t9 H1 gF)) λb s2 hz=>?_);obtain⟨ah,bH,cv⟩:=hz;cases b with
 |true=>
  obtain⟨N,eW,cv⟩:=cv;rw[bB rfl];refine Bt aN (bD (aa pins s2 t9 ah _ bH cv) λf s3 gg=>?_);cases f with
  |next=>
   obtain⟨gM,aZ,cZ,rK⟩:=gg;obtain⟨dc,hm,gv⟩:=eW gM aZ rK;exact⟨dc,hm,gM,aZ,cZ,gv⟩
  |cont=>
   obtain⟨gM,aZ,cZ,rK⟩:=gg;obtain⟨dc,hm,gv⟩:=eW gM aZ rK;exact⟨dc,hm,gM,aZ,cZ,gv⟩
  |brk=>exact gg
  |ret v=>exact gg
 |false=>
  rw[bp fU];exact EN ⟨t9,ah,bH,cv⟩
structure fe where
 go:Nat->ae->Prop
 oO:Nat->ae->V->ae->Prop
 stop:Nat->ae->Prop
end
noncomputable def t_(X:bo)(pins:dP)(H:ae)(b:Addr):Prop:=
 H b=none/\b≠X.env.locals/\b∉X.fs/\(b∈X.ex\/X.ix.heap.objs.size<=b)/\(∀x c,X.env.cells.lookup x=some c->c≠b)/\∀p∈X.eC++pins,p.1≠b
theorem Inv.s_{X:bo}{H':ae}{s:aK}{b:Addr}(I:Inv X pins σ H s)(aa:s.heap.objs.size<=b)(aM:H' b=none):t_ X pins H' b:=by
 refine⟨aM,zC (iX I.lt aa),I.aox aa,.inr (eP I.kq aa),λx c e z=>?_,λp aN z=>?_⟩
 .obtain⟨v,q⟩:=I.cell x c e;exact bx (iX q.lt (by rw[z];exact aa)) (q_ _)
 .exact bx (iX (c5 (I.pin p aN).1) (by rw[z];exact aa)) (q_ _)
structure Turn(P:cG)(w:bS)(K:aY)(ea:Expr)(J:fe)(bR:cj)(it:Addr)(iy:Nat->Heap->Prop):Prop where
 mem:it∈bR
 obj:∀i h,iy i h->∀b∈bR,∃o,h.get? b=some o/\∀v,o.data≠.cell v
 keep:∀i h h',iy i h->(∀b∈bR,∀o,h.get? b=some o->h'.get? b=some o)->iy i h'
 item:∀(X:bo),X.prog=P->X.w=w->X.K=K->X.calm=true->∀(i:Nat)(pins:dP)(s:aK)(σ:St)(H:ae)(E:cc),Inv X pins σ H s->(∀b∈bR,t_ X pins H b)->iy i s.heap->J.go i H->
  aL (aX P w) X.A (ig (.ref it)) (λr s1=>∃u,r=some u/\
   aL (aX P w) X.A (Pu ea (.ref it) u) (λ_ s2=>∃x H',Inv X pins σ H' s2/\RelV x u/\J.oO i H x H'/\iy (i+1) s2.heap/\∀b∈bR,H' b=none) E s1) E s
 done:∀(X:bo),X.prog=P->X.w=w->X.K=K->X.calm=true->∀(i:Nat)(pins:dP)(s:aK)(σ:St)(H:ae)(E:cc),Inv X pins σ H s->(∀b∈bR,t_ X pins H b)->iy i s.heap->J.stop i H->
  aL (aX P w) X.A (ig (.ref it)) (λr s1=>r=none/\Inv X pins σ H s1) E s
 self:∀(A:du)(i:Nat)(s:aK)(Q:cc)(E:cc),iy i s.heap->Q (.ref it) s->aL (aX P w) A (AR (.ref it)) Q E s
noncomputable abbrev TI:=St->ae->(fe->ae->Prop)->Prop
noncomputable def LS(X:bo)(pins:dP)(σ:St)(ea:Expr)(R:fe->ae->Prop)(O':Value)(s2:aK):Prop:=
 ∃(it:Addr)(bR:cj)(iy:Nat->Heap->Prop)(J:fe)(H':ae),O'=.ref it/\Inv X pins σ H' s2/\Turn X.prog X.w X.K ea J bR it iy/\iy 0 s2.heap/\(∀b∈bR,t_ X pins H' b)/\R J H'
noncomputable def n0(X:bo)(ea iter:Expr)(wi:TI):Prop:=
 ∀(pins:dP)(s:aK)(σ:St)(H:ae)(R:fe->ae->Prop),Inv X pins σ H s->wi σ H R->
  aL (aX X.prog X.w) X.A (eval iter X.env) (λv s1=>aL (aX X.prog X.w) X.A (AR v) (LS X pins σ ea R) X.dZ s1) X.dZ s
theorem By{M:mu}{E:cc}{s:aK}{o:Obj}{Q:Unit->aK->Prop}(aU:s.heap.get? it=some o)(aq:o.cls=.type n)(hd:o.data=.fields vs)(aM:["enumerate","zip","dict_itemiterator","dict_reverseitemiterator","odict_iterator","itertools.zip_longest","itertools.pairwise"].contains n=false)(d8:Q () s):aL M A (Pu ea (.ref it) u) Q E s:=by
  unfold Pu;cases ea<;>first
    |exact aT d8
    | (cases u<;>first
        |exact aT d8
        | (refine au (Ē aU ?_)
           rw[aq,hd];show aL M A (if(["enumerate","zip","dict_itemiterator","dict_reverseitemiterator","odict_iterator","itertools.zip_longest","itertools.pairwise"].contains n&&vs[0]?==some (jE _))=true then _ else _) Q E s;rw[bp (by intro h;rw[aM,Ky]at h;cases h)];exact aT d8))
noncomputable def iW(K:aY)(a:Addr):fe:=
 ⟨λi H=>∃xs x,aC K H a xs/\xs[i]?=some x,λi H x H'=>H'=H/\∀xs,aC K H a xs->xs[i]?=some x,λi H=>∃xs,aC K H a xs/\xs.length<=i⟩
noncomputable def ui(K:aY)(a:Addr):fe:=
 ⟨λi H=>∃xs x,bI K H a xs/\xs[i]?=some x,λi H x H'=>H'=H/\∀xs,bI K H a xs->xs[i]?=some x,λi H=>∃xs,bI K H a xs/\xs.length<=i⟩
noncomputable def nd(lo:Int)(n:Nat):fe:=⟨λi _=>i<n,λi H x H'=>H'=H/\x=.int (lo+i),λi _=>n<=i⟩
theorem abt{K:aY}(a it:Addr):Turn P w K ea (iW K a) [it] it (λi h=>h.IsListIter it a i)where
 mem:=by simp
 obj:=λi h st b aa=>by
  have e:b=it:=by simpa using aa
  subst e;obtain⟨o,e,c,d⟩:=st;exact⟨o,e,λv z=>by rw[d]at z;cases z⟩
 keep:=λi h h' st k=>st.at λo e=>k it (by simp) o e
 item:=by intro X f6 hw f5 aq i pins s σ H E I hf st bE;subst f6 hw f5;obtain⟨xs,x,a8,av⟩:=bE;obtain⟨its,cf,p,hz⟩:=I.list a8;obtain⟨u,b_,ez⟩:=cf.get av;obtain⟨f0,f1,f2,cU,f4,e_⟩:=hf it (by simp);refine wpAny_pyNext_list_item st p.isList (x:=u) (by simpa using b_) λh' eR b4=>?_;have aR:Inv X pins σ H {s with heap:=h'}:=I.turned (t':=s.toks) (λb o aa e=>(b4.2 b aa).trans e) f0 f1 cU f4 e_;obtain⟨o,e,c,d⟩:=id eR;exact⟨u,rfl,By (s:={s with heap:=h'}) e c d (by decide) ⟨x,H,aR,ez,⟨rfl,λys cM=>by rw[I.H0 cM a8];exact av⟩,eR,λb aa=>(hf b aa).1⟩⟩
 done:=by intro X f6 hw f5 aq i pins s σ H E I hf st bE;subst f6 hw f5;obtain⟨xs,a8,av⟩:=bE;obtain⟨its,cf,p,hz⟩:=I.list a8;obtain⟨f0,f1,f2,cU,f4,e_⟩:=hf it (by simp);have aw:=cf.length;exact wpAny_pyNext_list_end (I.ok.hd aq) st p.isList (by simp;omega) λh' dx=>⟨rfl,I.turned (t':=s.toks) (λb o aa e=>dx b o aa e) f0 f1 cU f4 e_⟩
 self:=λ_ _ _ _ _ st h=>wpAny_pyIter_listiter st h
theorem aas{K:aY}(a it:Addr):Turn P w K ea (ui K a) [it] it (λi h=>h.IsTupleIter it a i)where
 mem:=by simp
 obj:=λi h st b aa=>by
  have e:b=it:=by simpa using aa
  subst e;obtain⟨o,e,c,d⟩:=st;exact⟨o,e,λv z=>by rw[d]at z;cases z⟩
 keep:=λi h h' st k=>st.at λo e=>k it (by simp) o e
 item:=by intro X f6 hw f5 aq i pins s σ H E I hf st bE;subst f6 hw f5;obtain⟨xs,x,a8,av⟩:=bE;obtain⟨its,cf,p,hz⟩:=I.tuple a8;obtain⟨u,b_,ez⟩:=cf.get av;obtain⟨f0,f1,f2,cU,f4,e_⟩:=hf it (by simp);refine wpAny_pyNext_tuple_item st (show s.heap.IsTuple a its.toArray from p) (x:=u) (by simpa using b_) λh' eR b4=>?_;have aR:Inv X pins σ H {s with heap:=h'}:=I.turned (t':=s.toks) (λb o aa e=>(b4.2 b aa).trans e) f0 f1 cU f4 e_;obtain⟨o,e,c,d⟩:=id eR;exact⟨u,rfl,By (s:={s with heap:=h'}) e c d (by decide) ⟨x,H,aR,ez,⟨rfl,λys cM=>by rw[I.ap4 cM a8];exact av⟩,eR,λb aa=>(hf b aa).1⟩⟩
 done:=by intro X f6 hw f5 aq i pins s σ H E I hf st bE;subst f6 hw f5;obtain⟨xs,a8,av⟩:=bE;obtain⟨its,cf,p,hz⟩:=I.tuple a8;obtain⟨f0,f1,f2,cU,f4,e_⟩:=hf it (by simp);have aw:=cf.length;exact wpAny_pyNext_tuple_end (I.ok.hd aq) st (show s.heap.IsTuple a its.toArray from p) (by simp;omega) λh' dx=>⟨rfl,I.turned (t':=s.toks) (λb o aa e=>dx b o aa e) f0 f1 cU f4 e_⟩
 self:=λ_ _ _ _ _ st h=>wpAny_pyIter_tupleiter st h
theorem aat{K:aY}(it:Addr)(lo:Int)(n:Nat):Turn P w K ea (nd lo n) [it] it (λi h=>IsRangeIter h it (lo+(i:Nat)*1) ((n:Int)-(i:Nat)) 1)where
 mem:=by simp
 obj:=λi h st b aa=>by
  have e:b=it:=by simpa using aa
  subst e;exact⟨_,st,λv z=>by
   have dk:Tb _=Fp v:=z;cases dk⟩
 keep:=λi h h' st k=>k it (by simp) _ st
 item:=by intro X f6 hw f5 aq i pins s σ H E I hf st bE;subst f6 hw f5;obtain⟨f0,f1,f2,cU,f4,e_⟩:=hf it (by simp);have W:=Walks.range (prog:=X.prog) (w:=X.w) (I.ok.hd aq) it lo 1 n;refine W.item i s _ _ bE st λv h' a5 bj eR bP=>?_;obtain⟨t,rfl⟩:=bj;have aR:Inv X pins σ H {s with heap:=h',toks:=a5}:=I.turned (λb o aa e=>bP b o (by simpa using aa) e) f0 f1 cU f4 e_;refine⟨_,rfl,By (s:={s with heap:=h',toks:=a5}) (n:="range_iterator") eR rfl rfl (by decide) ⟨.int (lo+i),H,aR,⟨t,?_⟩,⟨rfl,rfl⟩,eR,λb aa=>(hf b aa).1⟩⟩;rw[Int.mul_one]
 done:=by intro X f6 hw f5 aq i pins s σ H E I hf st bE;subst f6 hw f5;obtain⟨f0,f1,f2,cU,f4,e_⟩:=hf it (by simp);exact wpAny_pyNext_range_end (I.ok.hd aq) st (by have:n<=i:=bE;omega) λh' dx=>⟨rfl,I.turned (t':=s.toks) (λb o aa e=>dx b o aa e) f0 f1 cU f4 e_⟩
 self:=λ_ _ _ _ _ st h=>wpAny_pyIter_rangeiter st h
section
variable{X:bo}{ea:Expr}
inductive aji(K:aY)(x:V)(H1:ae)(R:fe->ae->Prop):Prop where
 |mk (a:_) (bM:x=.ref a) (bu:(∃xs,aC K H1 a xs)) (bW:R (iW K a) H1)
noncomputable def ahR(K:aY)(dA:TE):TI:=λσ H R=>dA σ H λx H1=>aji K x H1 R
noncomputable def ajj(K:aY)(dA:TE):TI:=λσ H R=>dA σ H λx H1=>∃a,x=.ref a/\(∃xs,bI K H1 a xs)/\R (ui K a) H1
theorem kb(aw:bq X l dA):n0 X ea l (ahR X.K dA):=by
 intro pins s σ H R I h;refine bD (aw pins s σ H _ I h) λv s1 hz=>?_;obtain⟨x,H1,aR,b3,bz⟩:=hz;obtain⟨a,e,⟨xs,a8⟩,q⟩:=bz;subst e;cases b3;obtain⟨its,cf,p,hz⟩:=aR.list a8;refine Bu p.isList ?_;refine⟨s1.heap.objs.size,[s1.heap.objs.size],_,_,H1,rfl,aR.kept (t':=s1.toks) λb o e=>dm _ e,abt a _,⟨_,fM _ rfl,rfl,rfl⟩,λb aa=>?_,q⟩;have e:b=s1.heap.objs.size:=by simpa using aa
 subst e;exact aR.s_ (bU _) (aR.bf.fresh (bU _))
theorem EH(aw:bq X l dA):n0 X ea l (ajj X.K dA):=by
 intro pins s σ H R I h;refine bD (aw pins s σ H _ I h) λv s1 hz=>?_;obtain⟨x,H1,aR,b3,bz⟩:=hz;obtain⟨a,e,⟨xs,a8⟩,q⟩:=bz;subst e;cases b3;obtain⟨its,cf,p,hz⟩:=aR.tuple a8;refine aqD (show s1.heap.IsTuple a its.toArray from p) ?_;refine⟨s1.heap.objs.size,[s1.heap.objs.size],_,_,H1,rfl,aR.kept (t':=s1.toks) λb o e=>dm _ e,aas a _,⟨_,fM _ rfl,rfl,rfl⟩,λb aa=>?_,q⟩;have e:b=s1.heap.objs.size:=by simpa using aa
 subst e;exact aR.s_ (bU _) (aR.bf.fresh (bU _))
theorem adf{s:aK}{R:fe->ae->Prop}{E:cc}{lo ak:Int}{t:Tok}{a5:Nat}(I:Inv X pins σ H s)(ag:-(2 ^ 62)<=lo)(ai:lo<2 ^ 62)(bK:-(2 ^ 62)<=ak)(c8:ak<2 ^ 62)(q:R (nd lo (ak-lo).toNat) H):aL (aX X.prog X.w) X.A (AR (.ref s.heap.objs.size)) (LS X pins σ ea R) E {s with heap:=s.heap.push {cls:=.type "range",data:=.fields #[.int lo t,.int ak u,.int 1 v]},toks:=a5}:=by
 refine wpAny_pyIter_range (IsRange.new ..) (small_one ag ai bK c8) ?_;have aR:Inv X pins σ H {s with heap:=s.heap.push {cls:=.type "range",data:=.fields #[.int lo t,.int ak u,.int 1 v]},toks:=a5}:=I.kept λb o e=>dm _ e;refine⟨(s.heap.push {cls:=.type "range",data:=.fields #[.int lo t,.int ak u,.int 1 v]}).objs.size,[(s.heap.push {cls:=.type "range",data:=.fields #[.int lo t,.int ak u,.int 1 v]}).objs.size],_,_,H,rfl,
  aR.kept (t':=a5) λb o e=>dm _ e,aat _ lo (ak-lo).toNat,?_,λb aa=>?_,q⟩
 .have az:lo+((0:Nat):Int)*1=lo:=by simp
  have aB:(((ak-lo).toNat:Nat):Int)-((0:Nat):Int)=arl lo ak 1:=by rw[rangeSize_one];split<;>omega
  show IsRangeIter _ _ (lo+((0:Nat):Int)*1) ((((ak-lo).toNat:Nat):Int)-((0:Nat):Int)) 1;rw[az,aB];exact fM _ rfl
 .have e:b=(s.heap.push {cls:=.type "range",data:=.fields #[.int lo t,.int ak u,.int 1 v]}).objs.size:=by simpa using aa
  subst e;exact aR.s_ (bU _) (aR.bf.fresh (bU _))
noncomputable def ahS(bQ:fP):TI:=λσ H R=>bQ σ H λvs H1=>∃j:Int,vs=[.int j]/\-(2 ^ 62)<=j/\j<2 ^ 62/\R (nd 0 j.toNat) H1
theorem tq{bQ:fP}{p:Pos}(bE:jd X "range")(hm:X.mg "range"=none)(aF:gw X [a] bQ)(hs:dY [a] X.env=[(false,eval a X.env)]:=by rfl):n0 X ea (.Call (.Name "range" p) [a] [] pos) (ahS bQ):=by
 intro pins s σ H R I h;refine Call_ (vN I bE hm boot_range (LY (bD (aF pos pins s σ H _ I h) λus s1 hz=>?_) hs rfl));obtain⟨vs,H1,aR,b3,bz⟩:=hz;obtain⟨j,e,bz,cv,q⟩:=bz;subst e;cases b3 with
 |cons r nL=>
  cases nL;obtain⟨t,rfl⟩:=r;exact call_range_1 (adf aR (by omega) (by omega) bz cv (by simpa using q))
noncomputable def ajk(wi:TI)(g:fg)(c_:e'):e':=λD σ H=>wi σ H λJ H1=>∃W:Nat->Nat->St->ae->Prop,(∃m,W 0 m σ H1)/\∀i m σ H,W i m σ H->
 (J.stop i H/\D.b1 σ H)\/(J.go i H/\∃N:St->ae->Prop,(∀a9 H',N a9 H'->∃dc,dc<m/\W (i+1) dc a9 H')/\∀x H',J.oO i H x H'->g x σ H' λgH ah=>c_ {D with b1:=N,eL:=N,hq:=D.b1} gH ah)
noncomputable def EI(bR:cj)(h:Heap):List (Addr×Obj):=bR.filterMap λb=>(h.get? b).map λo=>(b,o)
theorem IE{bR:cj}{h:Heap}{b:Addr}(aa:b∈bR)(e:h.get? b=some o):(b,o)∈EI bR h:=Ls.mpr ⟨b,aa,by rw[e];rfl⟩
theorem abu{bR:cj}{h:Heap}{p:Addr×Obj}(aN:p∈EI bR h):p.1∈bR/\h.get? p.1=some p.2:=by
 obtain⟨b,aa,e⟩:=Ls.mp aN;cases q:h.get? b with
 |none=>rw[q]at e;cases e
 |some o=>
  rw[q]at e;have bJ:(b,o)=p:=gV e;subst bJ;exact⟨aa,q⟩
theorem Inv.pinned{pins:dP}{s:aK}{bR:cj}(I:Inv X pins σ H s)(hf:∀b∈bR,t_ X pins H b)(aU:∀b∈bR,∃o,s.heap.get? b=some o/\∀v,o.data≠.cell v):Inv X (pins++EI bR s.heap) σ H s:=
 I.Â λp aN=>(hl.mp aN).elim (λz=>I.pin p (sJ _ z)) λz=>by obtain⟨aa,e⟩:=abu z;obtain⟨f0,f1,f2,_⟩:=hf p.1 aa;obtain⟨o,bJ,d⟩:=aU p.1 aa;rw[e]at bJ;cases bJ;exact⟨e,f0,f1,f2,d⟩
theorem Inv.JO{pins pl:dP}(I:Inv X (pins++pl) σ H s):Inv X pins σ H s:=I.Â λp aN=>I.pin p (sJ _ (ab5 _ aN))
theorem jR{body:List Stmt}{g:fg}(aN:PassesOwn (aX X.prog X.w) X.A X.env X.dZ)(aq:X.calm=true)(ak:n0 X ea iter wi)(bE:rb X ea g)(aa:g6 X body c_)(hs:∀x,NB iter X.env x=pure x:=by intro _;rfl):gI X (.For ea iter body [] pos) (ajk wi g c_):=by
 intro pins s σ H D I h;refine wpAny_For (bD (ak pins s σ H _ I h) λv s1 ag=>bD ag λO' s2 ai=>?_) hs;obtain⟨it,bR,iy,J,ah,e,bH,T,A',f2,W,⟨m0,EE⟩,turn⟩:=ai;subst e;have yz:∀{H':ae},(∀b∈bR,H' b=none)->∀b∈bR,t_ X pins H' b:=λaM b aa=>⟨aM b aa,(f2 b aa).2⟩
 refine codeAny_forLoop_any (λn s'=>∃i a9 H',Inv X pins a9 H' s'/\iy i s'.heap/\(∀b∈bR,H' b=none)/\W i n a9 H') ?_ m0 ⟨0,σ,ah,bH,A',λb aa=>(f2 b aa).1,EE⟩;rintro n s3 ⟨i,gM,aZ,cZ,é,YE,gv⟩;rcases turn i n gM aZ gv with⟨stop,qP⟩|⟨go,N,eW,step⟩
 .refine Bt aN (bD (T.done X rfl rfl rfl aq i pins s3 gM aZ X.dZ cZ (yz YE) é stop) λr s4 hz=>?_);obtain⟨ao,jf⟩:=hz;subst ao;exact EN ⟨gM,aZ,jf,qP⟩
 .refine Bt aN (bD (T.item X rfl rfl rfl aq i pins s3 gM aZ X.dZ cZ (yz YE) é go) λr s4 hz=>?_);obtain⟨u,ao,c8⟩:=hz;subst ao;refine Bt aN (bD c8 λ_ s5 hz=>?_);obtain⟨x,ba,ks,yi,yY,yy,NC⟩:=hz;have Ld:=ks.pinned (yz NC) (T.obj _ _ yy);refine Bt aN (bD (bE _ s5 gM ba x u _ Ld yi (step x ba yY)) λ_ i_ hz=>?_);obtain⟨E6,f',sC,Ec⟩:=hz;refine Bt aN (bD (aa _ i_ E6 f' _ sC Ec) λf oE m2=>?_);have again:∀{q4:St}{jG:ae},Inv X (pins++EI bR s5.heap) q4 jG oE->N q4 jG->∃m,m<n/\∃i a9 H',Inv X pins a9 H' oE/\iy i oE.heap/\(∀b∈bR,H' b=none)/\W i m a9 H':=λ{q4 jG}ku AH=>by obtain⟨dc,hm,R8⟩:=eW q4 jG AH;refine⟨dc,hm,i+1,q4,jG,ku.JO,T.keep _ _ _ yy λb aa o e=>(ku.pin (b,o) (sJ _ (sJ _ (IE aa e)))).1,λb aa=>?_,R8⟩;obtain⟨o,e,d⟩:=T.obj _ _ yy b aa;exact(ku.pin (b,o) (sJ _ (sJ _ (IE aa e)))).2.1
  cases f with
  |next=>obtain⟨q4,jG,ku,AH⟩:=m2;exact again ku AH
  |cont=>obtain⟨q4,jG,ku,AH⟩:=m2;exact again ku AH
  |brk=>obtain⟨q4,jG,ku,m2⟩:=m2;exact⟨q4,jG,ku.JO,m2⟩
  |ret v=>obtain⟨yT,q4,jG,ku,QD,m2⟩:=m2;exact⟨yT,q4,jG,ku.JO,QD,m2⟩
theorem vy{K:aY}{xs:aW}{g:fg}{c_:e'}{D:Ends}(Pv:Nat->St->ae->Prop)(h0:Pv 0 σ H)(aw:∀i σ H,i<=xs.length->Pv i σ H->aC K H a xs)(hs:∀i x σ H,xs[i]?=some x->Pv i σ H->g x σ H λgH ah=>c_ {D with b1:=Pv (i+1),eL:=Pv (i+1),hq:=D.b1} gH ah)(hd:∀σ H,Pv xs.length σ H->D.b1 σ H):
  ∃W:Nat->Nat->St->ae->Prop,(∃m,W 0 m σ H)/\∀i m σ H,W i m σ H->
   ((iW K a).stop i H/\D.b1 σ H)\/((iW K a).go i H/\∃N:St->ae->Prop,(∀a9 H',N a9 H'->∃dc,dc<m/\W (i+1) dc a9 H')/\∀x H',(iW K a).oO i H x H'->g x σ H' λgH ah=>c_ {D with b1:=N,eL:=N,hq:=D.b1} gH ah):=by
 refine⟨λi m σ H=>m=xs.length-i/\i<=xs.length/\Pv i σ H,⟨xs.length,by simp,eZ _,h0⟩,?_⟩;rintro i m σ H ⟨rfl,ak,p⟩;have q:=aw i σ H ak p;by_cases cz:i<xs.length
 .refine .inr ⟨⟨xs,xs[i],q,by simp[cz]⟩,Pv (i+1),λa9 H' hx=>⟨xs.length-(i+1),by omega,rfl,cz,hx⟩,λx H' y=>?_⟩;obtain⟨e,y⟩:=y;subst e;exact hs i x σ _ (y xs q) p
 .have e:i=xs.length:=by omega
  subst e;exact .inl ⟨⟨xs,q,bU _⟩,hd σ H p⟩
theorem Kc{K:aY}{xs:aW}{g:fg}{c_:e'}{D:Ends}(Pv:Nat->St->ae->Prop)(h0:Pv 0 σ H)(aw:∀i σ H,i<=xs.length->Pv i σ H->bI K H a xs)(hs:∀i x σ H,xs[i]?=some x->Pv i σ H->g x σ H λgH ah=>c_ {D with b1:=Pv (i+1),eL:=Pv (i+1),hq:=D.b1} gH ah)(hd:∀σ H,Pv xs.length σ H->D.b1 σ H):
  ∃W:Nat->Nat->St->ae->Prop,(∃m,W 0 m σ H)/\∀i m σ H,W i m σ H->
   ((ui K a).stop i H/\D.b1 σ H)\/((ui K a).go i H/\∃N:St->ae->Prop,(∀a9 H',N a9 H'->∃dc,dc<m/\W (i+1) dc a9 H')/\∀x H',(ui K a).oO i H x H'->g x σ H' λgH ah=>c_ {D with b1:=N,eL:=N,hq:=D.b1} gH ah):=by
 refine⟨λi m σ H=>m=xs.length-i/\i<=xs.length/\Pv i σ H,⟨xs.length,by simp,eZ _,h0⟩,?_⟩;rintro i m σ H ⟨rfl,ak,p⟩;have q:=aw i σ H ak p;by_cases cz:i<xs.length
 .refine .inr ⟨⟨xs,xs[i],q,by simp[cz]⟩,Pv (i+1),λa9 H' hx=>⟨xs.length-(i+1),by omega,rfl,cz,hx⟩,λx H' y=>?_⟩;obtain⟨e,y⟩:=y;subst e;exact hs i x σ _ (y xs q) p
 .have e:i=xs.length:=by omega
  subst e;exact .inl ⟨⟨xs,q,bU _⟩,hd σ H p⟩
theorem IZ{lo:Int}{n:Nat}{g:fg}{c_:e'}{D:Ends}(Pv:Nat->St->ae->Prop)(h0:Pv 0 σ H)(hs:∀i σ H,i<n->Pv i σ H->g (.int (lo+i)) σ H λgH ah=>c_ {D with b1:=Pv (i+1),eL:=Pv (i+1),hq:=D.b1} gH ah)(hd:∀σ H,Pv n σ H->D.b1 σ H):
  ∃W:Nat->Nat->St->ae->Prop,(∃m,W 0 m σ H)/\∀i m σ H,W i m σ H->
   ((nd lo n).stop i H/\D.b1 σ H)\/((nd lo n).go i H/\∃N:St->ae->Prop,(∀a9 H',N a9 H'->∃dc,dc<m/\W (i+1) dc a9 H')/\∀x H',(nd lo n).oO i H x H'->g x σ H' λgH ah=>c_ {D with b1:=N,eL:=N,hq:=D.b1} gH ah):=by
 refine⟨λi m σ H=>m=n-i/\i<=n/\Pv i σ H,⟨n,by simp,eZ _,h0⟩,?_⟩;rintro i m σ H ⟨rfl,ak,p⟩;by_cases cz:i<n
 .refine .inr ⟨cz,Pv (i+1),λa9 H' hx=>⟨n-(i+1),by omega,rfl,cz,hx⟩,λx H' y=>?_⟩;obtain⟨e,y⟩:=y;subst e y;exact hs i σ _ cz p
 .have e:i=n:=by omega
  subst e;exact .inl ⟨bU _,hd σ H p⟩
noncomputable abbrev lU:=V->V->ae->a'->Prop
end
noncomputable def fO(X:bo)(f:Value->Value->Sem Value)(r:lU):Prop:=
 ∀(pins:dP)(s:aK)(σ:St)(H:ae)(x y:V)(v u:Value)(Q:a'),Inv X pins σ H s->RelV x v->RelV y u->r x y H Q->
  aL (aX X.prog X.w) X.A (f v u) (iC X pins σ Q) X.dZ s
noncomputable def Mk(X:bo)(f:Value->Sem Value)(r:V->ae->a'->Prop):Prop:=
 ∀(pins:dP)(s:aK)(σ:St)(H:ae)(x:V)(v:Value)(Q:a'),Inv X pins σ H s->RelV x v->r x H Q->
  aL (aX X.prog X.w) X.A (f v) (iC X pins σ Q) X.dZ s
noncomputable def jV(X:bo)(f:Value)(r:List V->ae->a'->Prop):Prop:=
 ∀(pins:dP)(s:aK)(σ:St)(H:ae)(xs:aW)(us:c7)(Q:a'),Inv X pins σ H s->cN xs us->r xs H Q->
  aL (aX X.prog X.w) X.A (call f us) (iC X pins σ Q) X.dZ s
noncomputable def ajl(X:bo)(r:V->ae->(Bool->ae->Prop)->Prop):Prop:=
 ∀(pins:dP)(s:aK)(σ:St)(H:ae)(x:V)(v:Value)(Q:Bool->ae->Prop),Inv X pins σ H s->RelV x v->r x H Q->
  aL (aX X.prog X.w) X.A (truthy v) (Gq X pins σ Q) X.dZ s
noncomputable def r8(r:lU)(bQ c_:TE):TE:=λσ H Q=>bQ σ H λx H1=>c_ σ H1 λy ah=>r x y ah Q
noncomputable def apU(r:V->ae->a'->Prop)(bQ:TE):TE:=λσ H Q=>bQ σ H λx H1=>r x H1 Q
inductive Ee(C:Int->Int->Prop)(g:Int->Int->V)(x:ar.V)(y:ar.V)(H:ae)(Q:a'):Prop where
 |mk (i:_) (j:_) (bM:x=.int i) (bu:y=.int j) (bW:C i j) (cW:Q (g i j) H)
inductive yo(g:Int->Int->V)(x:ar.V)(y:ar.V)(H:ae)(Q:a'):Prop where
 |mk (i:_) (j:_) (bM:x=.int i) (bu:y=.int j) (bW:Q (g i j) H)
inductive Ë(g:Int->V)(x:V)(H:ae)(Q:a'):Prop where
 |mk (i:_) (bM:x=.int i) (bu:Q (g i) H)
section
variable{X:bo}{a b c:Expr}{bQ c_ mh:TE}{pos:Pos}
theorem Mt(aF:bq X a bQ)(aa:bq X b c_){R:V->V->ae->Prop}(I:Inv X pins σ H s)(h:bQ σ H λx H1=>c_ σ H1 λy ah=>R x y ah){Q:cc}{f:Value->Value->Sem Value}(hf:∀v u s2 x y ah,Inv X pins σ ah s2->RelV x v->RelV y u->R x y ah->aL (aX X.prog X.w) X.A (f v u) Q X.dZ s2):
  aL (aX X.prog X.w) X.A (eval a X.env) (λv d2=>aL (aX X.prog X.w) X.A (eval b X.env) (λu r6=>aL (aX X.prog X.w) X.A (f v u) Q X.dZ r6) X.dZ d2) X.dZ s:=by refine bD (aF pins s σ H _ I h) λv s1 hz=>?_;obtain⟨x,H1,aR,b3,bz⟩:=hz;refine bD (aa pins s1 σ H1 _ aR bz) λu s2 hz=>?_;obtain⟨y,ah,bH,dh,cv⟩:=hz;exact hf v u s2 x y ah bH b3 dh cv
theorem cq{op:Operator}{r:lU}(aU:fO X (uD op) r)(aF:bq X a bQ)(aa:bq X b c_):bq X (.BinOp a op b pos) (r8 r bQ c_):=by intro pins s σ H Q I h;exact wpAny_BinOp (Mt aF aa I h λv u s2 x y ah bH bt bC q=>aU pins s2 σ ah x y v u Q bH bt bC q)
theorem BN{op:UnaryOp}{r:V->ae->a'->Prop}(aU:Mk X (unaryOp op) r)(aF:bq X a bQ):bq X (.UnaryOp op a pos) (apU r bQ):=by intro pins s σ H Q I h;exact UnaryOp_ (bD (aF pins s σ H _ I h) λv s1⟨x,H1,aR,b3,bz⟩=>aU pins s1 σ H1 x v Q aR b3 bz)
theorem IJ{f:Value->Value->Sem Value}{C:Int->Int->Prop}{g:Int->Int->Int}(rule:∀(i j:Int)(t u:Tok)(s:aK)(Q:cc)(E:cc),C i j->Q (.int (g i j) s.toks) {s with toks:=s.toks+1}->aL (aX X.prog X.w) X.A (f (.int i t) (.int j u)) Q E s):
  fO X f (Ee C λi j=>.int (g i j)):=by intro pins s σ H x y v u Q I bt bC h;obtain⟨i,j,rfl,rfl,aq,q⟩:=h;obtain⟨t,rfl⟩:=bt;obtain⟨t',rfl⟩:=bC;exact rule i j t t' s _ _ aq ⟨.int (g i j),H,I.tok _,⟨_,rfl⟩,q⟩
theorem W_{f:Value->Value->Sem Value}{g:Int->Int->Int}(rule:∀(i j:Int)(t u:Tok)(s:aK)(Q:cc)(E:cc),Q (.int (g i j) s.toks) {s with toks:=s.toks+1}->aL (aX X.prog X.w) X.A (f (.int i t) (.int j u)) Q E s):
  fO X f (yo λi j=>.int (g i j)):=by intro pins s σ H x y v u Q I bt bC h;obtain⟨i,j,rfl,rfl,q⟩:=h;obtain⟨t,rfl⟩:=bt;obtain⟨t',rfl⟩:=bC;exact rule i j t t' s _ _ ⟨.int (g i j),H,I.tok _,⟨_,rfl⟩,q⟩
theorem Mu{f:Value->Value->Sem Value}{g:Int->Int->Bool}(rule:∀(i j:Int)(t u:Tok)(s:aK)(Q:cc)(E:cc),Q (.bool (g i j)) s->aL (aX X.prog X.w) X.A (f (.int i t) (.int j u)) Q E s):
  fO X f (yo λi j=>.aA (g i j)):=by intro pins s σ H x y v u Q I bt bC h;obtain⟨i,j,rfl,rfl,q⟩:=h;obtain⟨t,rfl⟩:=bt;obtain⟨t',rfl⟩:=bC;exact rule i j t t' s _ _ ⟨.aA (g i j),H,I,rfl,q⟩
noncomputable def ajm(i j:Int):Prop:=0<j/\j<1073741824
noncomputable def ajN(i j:Int):Prop:=0<=j/\j<=1000000/\i.natAbs<2 ^ 64
noncomputable def Mv(i j:Int):Prop:=(-(2 ^ 64)<i/\i<2 ^ 64)\/(-(2 ^ 64)<j/\j<2 ^ 64)
theorem Mv.ok{i j:Int}(h:Mv i j):IntMulOk i j:=by
 rcases h with⟨ag,ai⟩|⟨ag,ai⟩
 .exact .of_left (intBits_le_64 ag ai)
 .exact .of_right (intBits_le_64 ag ai)
theorem i1:fO X (uD .Add) (yo λi j=>.int (i+j)):=W_ λ_ _ _ _ _ _ _ q=>add_int q
theorem rL:fO X (uD .Sub) (yo λi j=>.int (i-j)):=W_ λ_ _ _ _ _ _ _ q=>sub_int q
theorem vO:fO X (uD .Mult) (Ee Mv λi j=>.int (i*j)):=IJ λ_ _ _ _ _ _ _ aq q=>mul_int q aq.ok
theorem jO:fO X (uD .FloorDiv) (Ee ajm λi j=>.int (i/j)):=IJ λi j _ _ _ _ _ aq q=>by have ag:(0:Int)<j:=aq.1;have ai:j<1073741824:=aq.2;exact floordiv_int (by omega) (by rw[Int.fdiv_eq_ediv_of_nonneg i (by omega)];exact q) (.inl (PyProof.noPylong_small (by omega)))
theorem g_:fO X (uD .Mod) (Ee (λ_ j=>0<j) λi j=>.int (i%j)):=IJ λi j _ _ _ _ _ aq q=>by have ag:(0:Int)<j:=aq;exact mod_int' (by omega) (by rw[Int.fmod_eq_emod_of_nonneg i (by omega)];exact q)
theorem Vy:fO X (uD .Pow) (Ee ajN λi j=>.int (i ^ j.toNat)):=IJ λ_ _ _ _ _ _ _ aq q=>pow_int_small aq.1 aq.2.1 aq.2.2 q
theorem aqb{f:Value->Sem Value}{g:Int->Int}(rule:∀(i:Int)(t:Tok)(s:aK)(Q:cc)(E:cc),Q (.int (g i) s.toks) {s with toks:=s.toks+1}->aL (aX X.prog X.w) X.A (f (.int i t)) Q E s):
  Mk X f (Ë λi=>.int (g i)):=by intro pins s σ H x v Q I bt h;obtain⟨i,rfl,q⟩:=h;obtain⟨t,rfl⟩:=bt;exact rule i t s _ _ ⟨.int (g i),H,I.tok _,⟨_,rfl⟩,q⟩
theorem EJ:Mk X (unaryOp .USub) (Ë λi=>.int (-i)):=aqb λ_ _ _ _ _ q=>neg_int q
noncomputable def Xa:V->V->Bool
 |.bc,.bc=>true|.bc,.int _=>true|.int _,.bc=>true|.bc,.aA _=>true|.aA _,.bc=>true|.bc,.str _=>true|.str _,.bc=>true
 |.int _,.int _=>true|.aA _,.aA _=>true|.str _,.str _=>true|.nr _,.nr _=>true
 |.int _,.str _=>true|.str _,.int _=>true|.aA _,.str _=>true|.str _,.aA _=>true
 |_,_=>false
noncomputable def api:lU:=λx y H Q=>Xa x y=true/\Q (.aA (decide (x=y))) H
noncomputable def apj:lU:=λx y H Q=>Xa x y=true/\Q (.aA (!decide (x=y))) H
theorem JR{i j:Int}:decide (V.int i=V.int j)=(i==j):=by rw[BI];simp
theorem Vz{j:Bool}:decide (V.aA i=V.aA j)=(i==j):=by rw[BI];simp
theorem Ul{j:Str}:decide (V.str i=V.str j)=(i==j):=by rw[BI];simp
theorem Um{i j:Array UInt8}:decide (V.nr i=V.nr j)=(i.toList==j.toList):=by rw[BI];cases i;cases j;simp
theorem fY{Q:a'}{k ef:Bool}(I:Inv X pins σ H s)(q:Q (.aA k) H)(e:k=ef):iC X pins σ Q (.bool ef) s:=by subst e;exact⟨.aA k,H,I,rfl,q⟩
theorem jW:fO X (gA .Eq) api:=by
 intro pins s σ H x y v u Q I bt bC h;obtain⟨hs,q⟩:=h;cases x with
 |bc=>
  cases bt;cases y with
  |bc=>cases bC;exact arO (fY I q (by simp))
  |aA j=>cases bC;exact arM (fY I q (by simp))
  |int j=>obtain⟨t',rfl⟩:=bC;exact arN (fY I q (by simp))
  |str j=>obtain⟨t',rfl⟩:=bC;exact arP (fY I q (by simp))
  |_=>exact bx (show false=true from hs) fU
 |aA i=>
  cases bt;cases y with
  |bc=>cases bC;exact arK (fY I q (by simp))
  |aA j=>cases bC;exact eq_bool (fY I q Vz)
  |str j=>obtain⟨t',rfl⟩:=bC;exact arC (fY I q (by simp))
  |_=>exact bx (show false=true from hs) fU
 |int i=>
  obtain⟨t,rfl⟩:=bt;cases y with
  |bc=>cases bC;exact arL (fY I q (by simp))
  |int j=>obtain⟨t',rfl⟩:=bC;exact eq_int (fY I q JR)
  |str j=>obtain⟨t',rfl⟩:=bC;exact arD (fY I q (by simp))
  |_=>exact bx (show false=true from hs) fU
 |str i=>
  obtain⟨t,rfl⟩:=bt;cases y with
  |bc=>cases bC;exact arQ (fY I q (by simp))
  |aA j=>cases bC;exact arE (fY I q (by simp))
  |int j=>obtain⟨t',rfl⟩:=bC;exact arF (fY I q (by simp))
  |str j=>obtain⟨t',rfl⟩:=bC;exact eq_str (fY I q Ul)
  |_=>exact bx (show false=true from hs) fU
 |nr i=>
  obtain⟨t,rfl⟩:=bt;cases y with
  |nr j=>obtain⟨t',rfl⟩:=bC;exact PySem.W.eq_bytes (fY I q Um)
  |_=>exact bx (show false=true from hs) fU
 |_=>cases y<;>exact bx (show false=true from hs) fU
theorem BD:fO X (gA .NotEq) apj:=by
 intro pins s σ H x y v u Q I bt bC h;obtain⟨hs,q⟩:=h;cases x with
 |bc=>
  cases bt;cases y with
  |bc=>cases bC;exact arV (fY I q (by simp))
  |aA j=>cases bC;exact arT (fY I q (by simp))
  |int j=>obtain⟨t',rfl⟩:=bC;exact arU (fY I q (by simp))
  |str j=>obtain⟨t',rfl⟩:=bC;exact arW (fY I q (by simp))
  |_=>exact bx (show false=true from hs) fU
 |aA i=>
  cases bt;cases y with
  |bc=>cases bC;exact arR (fY I q (by simp))
  |aA j=>cases bC;exact ne_bool (fY I q (ht not Vz))
  |str j=>obtain⟨t',rfl⟩:=bC;exact arG (fY I q (by simp))
  |_=>exact bx (show false=true from hs) fU
 |int i=>
  obtain⟨t,rfl⟩:=bt;cases y with
  |bc=>cases bC;exact arS (fY I q (by simp))
  |int j=>obtain⟨t',rfl⟩:=bC;exact ne_int (fY I q (ht not JR))
  |str j=>obtain⟨t',rfl⟩:=bC;exact arH (fY I q (by simp))
  |_=>exact bx (show false=true from hs) fU
 |str i=>
  obtain⟨t,rfl⟩:=bt;cases y with
  |bc=>cases bC;exact arX (fY I q (by simp))
  |aA j=>cases bC;exact arI (fY I q (by simp))
  |int j=>obtain⟨t',rfl⟩:=bC;exact arJ (fY I q (by simp))
  |str j=>obtain⟨t',rfl⟩:=bC;exact ne_str (fY I q (ht not Ul))
  |_=>exact bx (show false=true from hs) fU
 |nr i=>
  obtain⟨t,rfl⟩:=bt;cases y with
  |nr j=>obtain⟨t',rfl⟩:=bC;exact PySem.W.ne_bytes (fY I q (ht not Um))
  |_=>exact bx (show false=true from hs) fU
 |_=>cases y<;>exact bx (show false=true from hs) fU
theorem nH:fO X (gA .Lt) (yo λi j=>.aA (decide (i<j))):=Mu λ_ _ _ _ _ _ _ q=>lt_int q
theorem kG:fO X (gA .LtE) (yo λi j=>.aA (decide (i<=j))):=Mu λ_ _ _ _ _ _ _ q=>le_int q
theorem qM:fO X (gA .Gt) (yo λi j=>.aA (decide (j<i))):=Mu λ_ _ _ _ _ _ _ q=>gt_int q
theorem E7:fO X (gA .Is) (λx y H Q=>y=.bc/\Q (.aA (decide (x=.bc))) H):=by
 intro pins s σ H x y v u Q I bt bC h;obtain⟨rfl,q⟩:=h;cases bC;refine is_none_gen (fY I q ?_);cases x<;>first
  | (cases bt;rfl)
  | (obtain⟨t,rfl⟩:=bt;rfl)
theorem JS:fO X (gA .IsNot) (λx y H Q=>y=.bc/\Q (.aA (!decide (x=.bc))) H):=by
 intro pins s σ H x y v u Q I bt bC h;obtain⟨rfl,q⟩:=h;cases bC;refine isnot_none_gen (fY I q ?_);cases x<;>first
  | (cases bt;rfl)
  | (obtain⟨t,rfl⟩:=bt;rfl)
theorem dB(b:Expr){op:sv}(h:op≠.In:=by decide)(ai:op≠.NotIn:=by decide):w9 op b=false:=by
 have az:(op==CmpOp.In)=false:=by cases op<;>first|rfl|exact bx rfl h
 have aB:(op==CmpOp.NotIn)=false:=by cases op<;>first|rfl|exact bx rfl ai
 cases b<;>simp[w9,az,aB]
theorem ke{op:sv}{r:lU}(aU:fO X (gA op) r)(aF:bq X a bQ)(aa:bq X b c_)(hm:w9 op b=false):bq X (.Compare a [op] [b] pos) (r8 r bQ c_):=by intro pins s σ H Q I h;exact aqq (Mt aF aa I h λv u s2 x y ah bH bt bC q=>aU pins s2 σ ah x y v u Q bH bt bC q) hm
noncomputable def wb(t:TE):TT:=λσ H Q=>t σ H λx H'=>Ut x H' Q
theorem ej{op:sv}{r:lU}(aU:fO X (gA op) r)(aF:bq X a bQ)(aa:bq X b c_)(hm:w9 op b=false):lT X (.Compare a [op] [b] pos) (wb (r8 r bQ c_)):=by
 intro pins s σ H Q I h;refine aqu (bD (aF pins s σ H _ I h) λv s1⟨x,H1,aR,b3,bz⟩=>bD (aa pins s1 σ H1 _ aR bz) λu s2⟨y,ah,bH,dh,cv⟩=>
  bD (aU pins s2 σ ah x y v u _ bH b3 dh cv) λc s3⟨z,aZ,cZ,qQ,k,e,gg⟩=>?_) hm
 subst e;cases qQ;exact ml ⟨aZ,cZ,gg⟩
noncomputable def VA(r b9:lU)(bQ c_ mh:TE):TE:=λσ H Q=>bQ σ H λx H1=>c_ σ H1 λy ah=>r x y ah λz aZ=>∃k,z=.aA k/\
 (if k=true then mh σ aZ λeJ dE=>b9 y eJ dE Q else Q (.aA false) aZ)
theorem Sa{op qK:sv}{r b9:lU}(aU:fO X (gA op) r)(iL:fO X (gA qK) b9)(aF:bq X a bQ)(aa:bq X b c_)(aq:bq X c mh)(hm:Z7 [op,qK] [b,c]=false:=by with_unfolding_all rfl):bq X (.Compare a [op,qK] [b,c] pos) (VA r b9 bQ c_ mh):=by
 intro pins s σ H Q I h;refine Compare_chain (bD (aF pins s σ H _ I h) λv s1⟨x,H1,aR,b3,bz⟩=>chain_link (bD (aa pins s1 σ H1 _ aR bz) λu s2⟨y,ah,bH,dh,cv⟩=>
  bD (aU pins s2 σ ah x y v u _ bH b3 dh cv) λd s3⟨z,aZ,cZ,qQ,k,e,gg⟩=>?_)) hm
 subst e;cases qQ;refine ml ?_;cases k with
 |false=>exact ite_ff ⟨.aA false,aZ,cZ,rfl,gg⟩
 |true=>exact ite_tt (chain_last (bD (aq pins s3 σ aZ _ cZ gg) λeJ s4⟨dk,dE,jf,vU,pH⟩=>iL pins s4 σ dE y dk u eJ Q jf dh vU pH))
theorem vz{op qK:sv}{r b9:lU}(aU:fO X (gA op) r)(iL:fO X (gA qK) b9)(aF:bq X a bQ)(aa:bq X b c_)(aq:bq X c mh)(hm:Z7 [op,qK] [b,c]=false:=by with_unfolding_all rfl):lT X (.Compare a [op,qK] [b,c] pos) (wb (VA r b9 bQ c_ mh)):=by
 intro pins s σ H Q I h;refine isTrue_chain (bD (aF pins s σ H _ I h) λv s1⟨x,H1,aR,b3,bz⟩=>ï (bD (aa pins s1 σ H1 _ aR bz) λu s2⟨y,ah,bH,dh,cv⟩=>
  bD (aU pins s2 σ ah x y v u _ bH b3 dh cv) λd s3⟨z,aZ,cZ,qQ,k,e,gg⟩=>?_)) hm
 subst e;cases qQ;refine ml ?_;cases k with
 |false=>
  obtain⟨ef,bJ,gs⟩:=gg;cases bJ;exact ite_ff ⟨aZ,cZ,gs⟩
 |true=>
  refine ite_tt (test_last (bD (aq pins s3 σ aZ _ cZ gg) λeJ s4⟨dk,dE,jf,vU,pH⟩=>bD (iL pins s4 σ dE y dk u eJ _ jf dh vU pH) λd' s5 hz=>?_));obtain⟨bu,ba,ks,yi,k2,aB,tL⟩:=hz;subst aB;cases yi;exact ml ⟨ba,ks,tL⟩
noncomputable def Xb(K:aY)(x:V)(H:ae)(k:Bool):Prop:=
 match x with
 |.bc=>k=false
 |.aA b=>k=b
 |.int i=>k=(i !=0)
 |.str y=>y.length<=sizeLine/\k=((y.length:Int) !=0)
 |.nr y=>y.size<=sizeLine/\k=((y.size:Int) !=0)
 |.ref p=>(∃xs,aC K H p xs/\k=!xs.isEmpty)\/(∃xs,bI K H p xs/\k=!xs.isEmpty)\/∃kvs,H p=some (.bN kvs)/\k=!kvs.isEmpty
 |_=>False
theorem aau{κ:Type}{kvs:List (κ×V)}{vs:List (κ×Value)}(r:gb kvs vs):(!vs.isEmpty)=!kvs.isEmpty:=by cases r<;>rfl
theorem ć{xs:aW}{its:c7}(r:cN xs its):(!its.toArray.isEmpty)=!xs.isEmpty:=by cases r<;>simp
theorem yj:(sizeLine:Nat)<2 ^ 63:=by rw[tR];decide
theorem ag2:ajl X (λx H Q=>∃k,Xb X.K x H k/\Q k H):=by
 intro pins s σ H x v Q I bt h;obtain⟨k,e,q⟩:=h;have aw:=yj;have hs:sizeLine=16777216:=tR;cases x with
 |bc=>
  cases bt;have bJ:k=false:=e;subst bJ;exact truthy_none ⟨H,I,q⟩
 |aA b=>
  cases bt;have bJ:k=b:=e;subst bJ;exact ml ⟨H,I,q⟩
 |int i=>
  obtain⟨t,rfl⟩:=bt;have bJ:k=(i !=0):=e;subst bJ;exact PySem.P.truthy_int ⟨H,I,q⟩
 |str y=>
  obtain⟨t,rfl⟩:=bt;obtain⟨cM,bJ⟩:y.length<=sizeLine/\k=((y.length:Int) !=0):=e;subst bJ;exact PySem.P.truthy_str (by omega) ⟨H,I.tok _,q⟩
 |nr y=>
  obtain⟨t,rfl⟩:=bt;obtain⟨cM,bJ⟩:y.size<=sizeLine/\k=((y.size:Int) !=0):=e;subst bJ;exact PySem.W.truthy_bytes (by omega) ⟨H,I.tok _,q⟩
 |ref p=>
  cases bt;have bJ:(∃xs,aC X.K H p xs/\k=!xs.isEmpty)\/(∃xs,bI X.K H p xs/\k=!xs.isEmpty)\/∃kvs,H p=some (.bN kvs)/\k=!kvs.isEmpty:=e;rcases bJ with⟨xs,av,bJ⟩|⟨xs,av,bJ⟩|⟨kvs,av,bJ⟩
  .subst bJ;obtain⟨its,r,pl,hz⟩:=I.list av;have hlen:=r.length;exact wpAny_truthy_list pl.isList (by simp only[fN];omega) ⟨H,I.tok _,by rw[ć r];exact q⟩
  .subst bJ;obtain⟨its,r,pl,hz⟩:=I.tuple av;have hlen:=r.length;exact truthy_tuple pl (by simp only[fN];omega) ⟨H,I.tok _,by rw[ć r];exact q⟩
  .subst bJ;obtain⟨hz,c4,vs,r,m⟩:kvs.length<=sizeLine/\(p==me)=false/\∃vs,gb kvs vs/\s.heap.DictOf (hI X.prog X.w) p vs:=I.bf p _ av;have hlen:kvs.length=vs.length:=gW r;exact wpAny_truthy_dict c4 m (by omega) ⟨H,I.tok _,by rw[aau r];exact q⟩
 |_=>exact(show False from e).elim
theorem adg(aF:bq X a bQ)(he:∀whole,DE a X.env whole=(do let v <-whole;tU a.pos;mU [v] (truthy v))):
  lT X a (λσ H Q=>bQ σ H λx H'=>∃k,Xb X.K x H' k/\Q k H'):=by intro pins s σ H Q I h;exact isTrue_plain (bD (aF pins s σ H _ I h) λv s1⟨x,H1,aR,b3,bz⟩=>ag2 pins s1 σ H1 x v Q aR b3 bz) (he _)
theorem aaw:fO X (uD .Add) (λx y H Q=>∃i j,x=.str i/\y=.str j/\i.length+j.length<=sizeLine/\Q (.str (i++j)) H):=by intro pins s σ H x y v u Q I bt bC h;obtain⟨i,j,rfl,rfl,hz,q⟩:=h;obtain⟨t,rfl⟩:=bt;obtain⟨t',rfl⟩:=bC;exact add_str (λt' a5=>⟨.str (i++j),H,I.tok _,⟨_,rfl⟩,q⟩) hz
theorem vals1(r:cN [x] us):∃u,us=[u]/\RelV x u:=by
 cases r with
 |cons b3 dh=>cases dh;exact⟨_,rfl,b3⟩
theorem vals2(r:cN [x,y] us):∃u eJ,us=[u,eJ]/\RelV x u/\RelV y eJ:=by
 cases r with
 |cons b3 dh=>
  cases dh with
  |cons qQ vU=>cases vU;exact⟨_,_,rfl,b3,qQ⟩
theorem Ļ:jV X (.type "int") (λxs H Q=>(∃i,xs=[.int i]/\Q (.int i) H)\/∃k,xs=[.aA k]/\Q (.int (if k then 1 else 0)) H):=by
 intro pins s σ H xs us Q I r h;rcases h with⟨i,rfl,q⟩|⟨k,rfl,q⟩
 .obtain⟨u,rfl,t,rfl⟩:=vals1 r;exact call_int_int ⟨.int i,H,I,⟨_,rfl⟩,q⟩
 .obtain⟨u,rfl,b3⟩:=vals1 r;cases b3;exact call_int_bool ⟨.int (if k then 1 else 0),H,I.tok _,⟨_,rfl⟩,q⟩
structure wo(h:Heap)(x af C:Addr)(mA:cw):Prop where
 obj:h.get? x=some (rg C af)
 ns:h.Ns1 af mA
 ne:af≠x
end
theorem abv{h:Heap}{mA:cw}(n:h.Ns1 af mA):∃cV,h.get? af=some cV/\∀name,L3 name cV=some (mA name):=by
 obtain⟨o,es,ep,aU,hd,aP,_,hm⟩:=n;refine⟨o,aU,λname=>?_⟩;have e:=hm name;unfold nsFind findBy at e;rw[<-Array.find?_toList]at e;unfold L3;rw[hd];dsimp only;split
 .rename_i y q;rw[q]at e;exact ht some e
 .rename_i q;rw[q]at e;have a:es.toList.any (·.refKey)=false:=by rw[abP];intro y cM;obtain⟨z,t,va⟩:=aP y (Array.mem_toList_iff.mp cM);simp[DictEntry.refKey,va]
  have bL:¬es.toList.any (·.refKey)=true:=by rw[a];exact fU
  rw[bp bL];exact ht some e
theorem wo.look{mA:cw}(I:wo h x af C mA):∃cV,PySem.W.InstAt h x (rg C af) C (some cV)/\∀name,L3 name cV=some (mA name):=
 let⟨cV,aU,aw⟩:=abv I.ns
 ⟨cV,⟨I.obj,rfl,rfl,aU⟩,aw⟩
section
variable{prog:cG}{w:bS}{A:du}{E:cc}{s:aK}{K:aY}{x af C f:Addr}{mA:cw}{name:Str}{v:Value}
theorem afj{Q:cc}(X:K.In s.heap)(I:wo s.heap x af C mA)(bE:L4 K C name=true)(dr:wW K C=true)(aF:cJ K (.ref C) name=some none)(bj:mA name=some v)(OX:V6 v=true)(h:Q v {s with toks:=s.toks+1}):
  aL (aX prog w) A (ND (.ref x) name expr) Q E s:=by obtain⟨cV,J,aw⟩:=I.look;exact PySem.W.get_value X J (V_ bE).1 (PySem.W.findObj_own dr aF rfl (by rw[aw,bj])) OX h
theorem adh{pl:Sem Bool}{Q:Value×List Value->aK->Prop}(X:K.In s.heap)(I:wo s.heap x af C mA)(bE:L4 K C name=true)(hf:cJ K (.ref C) name=some (some (.ref f)))(dM:sQ K (.ref f)=true)(bj:mA name=none)(h:Q (.ref f,[.ref x]) s):
  aL (aX prog w) A (z4 (.ref x) name pl) Q E s:=by obtain⟨cV,J,aw⟩:=I.look;exact PySem.W.method_fn X J (V_ bE).1 (V_ bE).2 hf (o6.mp dM) (by show(L3 name cV).map (·.isSome)=some false;rw[aw,bj];rfl) h
theorem afk{ns:cb}{Q:Unit->aK->Prop}(X:K.In s.heap)(I:wo s.heap x af C mA)(hs:cJ K (.ref C) "__setattr__"=some (some (.builtin "object.__setattr__")))(aN:aef K C=true)(dM:Wb K C name=some none)(dr:wW K C=true)(hw:zJ mA ns)(hsz:ns.length<=sizeLine)(h:∀h',wo h' x af C (λy=>if y=name then some v else mA y)->mn af s.heap h'->Q () {s with heap:=h',toks:=s.toks+2}):
  aL (aX prog w) A (Eo (.ref x) name v) Q E s:=by obtain⟨cV,J,aw⟩:=I.look;refine PySem.W.set_plain X J hs (PySem.W.osa_open (s:={s with toks:=s.toks+1}) (r:=none) X J aN dM λb=>?_);obtain⟨cd,aq,pd⟩:=ad1 dr;have av:s.heap.get? x=some ⟨.ref C,some af,.plain,#[]⟩:=I.obj;refine au (aT (au (au (aqw av (au (PySem.W.Looks.here (s:={s with toks:=s.toks+1}) (aea X aq) ?_))))));rw[pd];refine aT (a:=some af) (au (aT (au ?_)));refine wpAny_nsSet1 (s:={s with toks:=s.toks+1}) I.ns λh' HB jy=>?_;obtain⟨aoT,ak9,ak5,OI,Oe,N_⟩:=HB.count (Wc name v hw);refine au (aqx OI (by rw[Oe];exact ao1 (eP N_ (by rw[lR];omega))) ?_);exact aT (h _ ⟨(jy.2 _ (c2 I.ne)).trans I.obj,HB,I.ne⟩ jy)
theorem adi{R:my->aK->Prop}{vs:c7}{kw:List (Str×Value)}(X:K.In s.heap)(hm:zI K C=true)(ak:cJ K (.ref C) "__init__"=some (some (.ref f)))(hf:ri K (.ref f)=some (.type "function"))(h:iH (aX prog w) (A.under (.builtin "type.__call__" ⟨.ref C::vs,kw⟩)) (.call (.ref f) ⟨.ref (s.heap.objs.size+1)::vs,kw⟩) (adY (s.heap.objs.size+1) R)
   {s with heap:=(s.heap.push p').push (rg C s.heap.objs.size)}):
  iH (aX prog w) A (.call (.ref C) ⟨vs,kw⟩) R s:=by obtain⟨dr,g,d,t,os⟩:=s;exact aed (V8 X hm) (rh X ak) (λself=>ad2 X self hf) (.inl rfl) h
theorem abw{R:my->aK->Prop}(X:K.In s.heap)(hm:zI K C=true)(ak:cJ K (.ref C) "__init__"=some (some (.builtin "object.__init__")))(aa:∀self,n2 (aX prog w) s.heap (bindSpecial (.builtin "object.__init__") self) (.builtin "object.__init__",[self]))(h:iH (aX prog w) (A.under (.builtin "type.__call__" ⟨[.ref C],[]⟩)) (.call (.builtin "object.__init__") ⟨[.ref (s.heap.objs.size+1)],[]⟩) (adY (s.heap.objs.size+1) R)
   {s with heap:=(s.heap.push p').push (rg C s.heap.objs.size)}):
  iH (aX prog w) A (.call (.ref C) ⟨[],[]⟩) R s:=by obtain⟨dr,g,d,t,os⟩:=s;exact aed (V8 X hm) (rh X ak) aa (.inr ⟨rfl,rfl⟩) h
end
noncomputable def kl(f:Str)(v:V):List (Str×V)->List (Str×V)
 |[]=>[(f,v)]
 | (g,x)::r=>if g=f then(g,v)::r else(g,x)::kl f v r
theorem Qq(f g:Str)(v:V):∀fs:List (Str×V),(kl f v fs).lookup g=if g=f then some v else fs.lookup g
 |[]=>by
  show uk g [(f,v)]=_;by_cases h:g=f
  .have aa:(g==f)=true:=o6.mpr h;simp only[uk,aa,bB h]
  .have aa:(g==f)=false:=zR.mpr h;simp only[uk,aa,bp h]
 | (k,x)::r=>by
  have a3:=Qq f g v r;rw[show kl f v ((k,x)::r)=(if k=f then(k,v)::r else(k,x)::kl f v r)from rfl];by_cases aP:k=f
  .rw[bB aP];by_cases h:g=k
   .have aa:(g==k)=true:=o6.mpr h;simp only[uk,aa,bB (h.trans aP)]
   .have aa:(g==k)=false:=zR.mpr h;simp only[uk,aa,bp (λe:g=f=>h (e.trans aP.symm))]
  .rw[bp aP];by_cases h:g=k
   .have aa:(g==k)=true:=o6.mpr h;simp only[uk,aa,bp (λe:g=f=>aP (h.symm.trans e))]
   .have aa:(g==k)=false:=zR.mpr h;simp only[uk,aa];exact a3
theorem DR(f:Str)(v:V):∀fs:List (Str×V),f∈(kl f v fs).map (·.1)/\∀g,g∈fs.map (·.1)->g∈(kl f v fs).map (·.1)
 |[]=>⟨by simp[kl],λg h=>by simp at h⟩
 | (k,x)::r=>by
  obtain⟨hu,iN⟩:=DR f v r;rw[show kl f v ((k,x)::r)=(if k=f then(k,v)::r else(k,x)::kl f v r)from rfl];by_cases aP:k=f
  .rw[bB aP];subst aP;exact⟨by simp,λg h=>by simpa using h⟩
  .rw[bp aP];refine⟨?_,λg h=>?_⟩
   .rw[hE];exact ng _ hu
   .rw[hE]at h⊢;rcases dv.mp h with e|e
    .exact dv.mpr (.inl e)
    .exact ng _ (iN g e)
theorem Qr(f:Str)(v:V):∀fs:List (Str×V),(kl f v fs).length<=fs.length+1
 |[]=>by simp[kl]
 | (k,x)::r=>by
  have a3:=Qr f v r;rw[show kl f v ((k,x)::r)=(if k=f then(k,v)::r else(k,x)::kl f v r)from rfl];by_cases aP:k=f
  .rw[bB aP,lR,lR];omega
  .rw[bp aP,lR,lR];omega
theorem iP.some_of{o:CP}(r:iP (some v) o):∃u,o=some u/\RelV v u:=by
 cases o with
 |none=>exact(show False from r).elim
 |some u=>exact⟨u,rfl,r⟩
theorem iP.none_of{o:CP}(r:iP none o):o=none:=by
 cases o with
 |none=>rfl
 |some u=>exact(show False from r).elim
theorem ļ(r:RelV v u):V6 u=true:=by
 cases v with
 |bc=>cases(show u=gm from r);rfl
 |aA b=>cases(show u=Ml b from r);rfl
 |int i=>obtain⟨t,e⟩:=(show∃t,u=iF i t from r);cases e;rfl
 |str x=>obtain⟨t,e⟩:=(show∃t,u=w4 x t from r);cases e;rfl
 |nr b=>obtain⟨t,e⟩:=(show∃t,u=Value.bytes b t from r);cases e;rfl
 |xq b=>obtain⟨t,e⟩:=(show∃t,u=WS b t from r);cases e;rfl
 |ref a=>cases(show u=cu a from r);rfl
 |ty n=>cases(show u=nk n from r);rfl
section
variable{P:cG}{w:bS}{H H':ae}{h h':Heap}{a C af:Addr}{fs alC:List (Str×V)}
theorem JT(bf:fE P w H h)(e:H a=some (.ins C af fs)):∃mA,wo h a af C mA/\(∀f,iP (fs.lookup f) (mA f))/\zJ mA (fs.map (·.1))/\fs.length<=1000/\H af=some (.own a):=by
 obtain⟨d,z,ne,ob,mA,n,r,q⟩:=(show eI P w H h a (.ins C af fs)from bf a _ e)
 exact⟨mA,⟨ob,n,ne⟩,r,q,z,d⟩
end
structure eh(K:aY)(C:Addr):Prop where
 ao3:L4 K C o4=true
 hd:wW K C=true
 po:aef K C=true
 bY:cJ K (.ref C) "__setattr__"=some (some (.builtin "object.__setattr__"))
theorem eh.get{K:aY}(c:eh K C)(f:Str):L4 K C f=true:=c.ao3
noncomputable def vP(K:aY)(C:Addr)(f:Str):Prop:=cJ K (.ref C) f=some none
theorem vP.apV{K:aY}(n:vP K C f):Wb K C f=some none:=by unfold Wb;rw[show cJ K (.ref C) f=some none from n];rfl
structure Meth(K:aY)(C:Addr)(m:Str)(f:Addr):Prop where
 at_:cJ K (.ref C) m=some (some (.ref f))
 fn:sQ K (.ref f)=true
 cI:mw K (.ref f)=true
section
variable{X:bo}{pins:dP}{σ:St}{H:ae}{s:aK}{a C af:Addr}{fs:List (Str×V)}{f:Str}{v:V}{A:du}{E:cc}
theorem aax{Q:cc}(I:Inv X pins σ H s)(e:H a=some (.ins C af fs))(c:eh X.K C)(n:vP X.K C f)(l:fs.lookup f=some v)(h:∀u s',Inv X pins σ H s'->RelV v u->Q u s'):aL (aX X.prog X.w) A (ND (.ref a) f b) Q E s:=by obtain⟨mA,O,r,_,_,_⟩:=JT I.bf e;obtain⟨u,b_,ez⟩:=iP.some_of (v:=v) (o:=mA f) (by rw[<-l];exact r f);exact afj I.eX O (c.get f) c.hd n b_ (ļ ez) (h u _ (I.tok _) ez)
theorem IF{pl:Sem Bool}{Q:Value×List Value->aK->Prop}(I:Inv X pins σ H s)(e:H a=some (.ins C af fs))(c:eh X.K C)(k:Meth X.K C m g)(l:fs.lookup m=none)(h:Q (.ref g,[.ref a]) s):aL (aX X.prog X.w) A (z4 (.ref a) m pl) Q E s:=by obtain⟨mA,O,r,_,_,_⟩:=JT I.bf e;have aM:mA m=none:=iP.none_of (by rw[<-l];exact r m);exact adh I.eX O (c.get m) k.at_ k.fn aM h
theorem aay{Q:Unit->aK->Prop}(I:Inv X pins σ H s)(e:H a=some (.ins C af fs))(c:eh X.K C)(n:vP X.K C f)(aw:fs.length<1000)(bC:RelV y u)(h:∀s',Inv X pins σ (upd H a (.ins C af (kl f y fs))) s'->Q () s'):aL (aX X.prog X.w) A (Eo (.ref a) f u) Q E s:=by
 obtain⟨mA,O,r,wi,_,aU⟩:=JT I.bf e;have hz:(fs.map (·.1)).length<=sizeLine:=by rw[bk,tR];omega
 refine afk I.eX O c.bY c.po n.apV c.hd wi hz λh' LL b4=>h _ ?_;have hd:∃o,h'.get? af=some o:=let⟨o,_,_,bJ,_⟩:=LL.ns;⟨o,bJ⟩
 refine I.write (x:=a) (e:=af) (by rw[e];exact lW) (.inr aU) (λb q aa z=>(b4.2 b aa).trans z) hd ?_;refine⟨by rw[aD O.ne];exact aU,?_,O.ne,LL.obj,_,LL.ns,λg=>?_,λg bE=>?_⟩
 .have:=Qr f y fs;omega
 .show iP ((kl f y fs).lookup g) (if g=f then some u else mA g);rw[Qq];by_cases q:g=f
  .rw[bB q,bB q];exact bC
  .rw[bp q,bp q];exact r g
 .by_cases q:g=f
  .rw[q];exact(DR f y fs).1
  .refine(DR f y fs).2 g (wi g λz=>bE ?_);show(if g=f then some u else mA g)=none;rw[bp q];exact z
theorem Inv.made(I:Inv X pins σ H s):Inv X pins σ (upd (upd H s.heap.objs.size (.own (s.heap.objs.size+1))) (s.heap.objs.size+1) (.ins C s.heap.objs.size []))
  {s with heap:=(s.heap.push p').push (rg C s.heap.objs.size)}:=by
 have az:(s.heap.push p').get? s.heap.objs.size=some p':=fM s.heap rfl;have aB:((s.heap.push p').push (rg C s.heap.objs.size)).get? (s.heap.objs.size+1)=some (rg C s.heap.objs.size):=by
  have:=fM (s.heap.push p') (o:=rg C s.heap.objs.size) rfl
  rwa [sA]at this
 have cX:(s.heap.push p').Ns s.heap.objs.size (λ_=>none):=⟨p',#[],_,az,rfl,(λe he=>bx he (by simp)),λ_=>rfl⟩
 have aR:=I.laid (a:=s.heap.objs.size) (o:=.own (s.heap.objs.size+1)) (h':=s.heap.push p') (t':=s.toks) (λb u q=>dm _ q) (bU _) ⟨_,az⟩;refine aR.laid (a:=s.heap.objs.size+1) (o:=.ins C s.heap.objs.size []) (t':=s.toks) (λb u q=>dm _ q) (LD (sA _ _)) ?_;have ne:s.heap.objs.size≠s.heap.objs.size+1:=dR (ur _);refine⟨by rw[aD ne,aQ],eZ _,ne,aB,λ_=>none,(aaN cX).at λo q=>dm _ q,λ_=>lW,λy cM=>bx rfl cM⟩
theorem Ub{env:Env}{Q:cc}(aa:zQ e f env (eval e env)=eval e env)(h:aL (aX prog w) A (eval e env) (λo d2=>aL (aX prog w) A (ND o f true) Q E d2) E s):aL (aX prog w) A (eval (.Attribute e f pos) env) Q E s:=
 Attribute_any_ h (by rw[arm_eval_Attribute,aa])
end
inductive ajO(K:aY)(f:Str)(x:V)(H1:ae)(Q:a'):Prop where
 |mk (a:_) (C:_) (af:_) (fs:_) (v:_) (bM:x=.ref a) (bu:H1 a=some (.ins C af fs)) (bW:eh K C) (cW:vP K C f) (dD:fs.lookup f=some v) (eS:Q v H1)
noncomputable def Xc(K:aY)(bQ:TE)(f:Str):TE:=λσ H Q=>bQ σ H λx H1=>ajO K f x H1 Q
noncomputable def Xd(K:aY)(bQ kP:TE)(f:Str):e':=λD σ H=>kP σ H λy H1=>bQ σ H1 λx ah=>∃a C af fs,x=.ref a/\ah a=some (.ins C af fs)/\eh K C/\vP K C f/\fs.length<1000/\
 D.b1 σ (upd ah a (.ins C af (kl f y fs)))
section
variable{X:bo}{o e value:Expr}{f:Str}{pos pos' EC:Pos}{bQ kP:TE}
theorem ed(he:bq X e bQ)(aa:zQ e f X.env (eval e X.env)=eval e X.env):bq X (.Attribute e f pos) (Xc X.K bQ f):=by intro pins s σ H Q I h;refine Ub aa (bD (he pins s σ H _ I h) λu s1 hz=>?_);obtain⟨x,H1,aR,bt,a,C,af,fs,v,ex,a4,c,n,l,q⟩:=hz;subst ex;obtain rfl:u=cu a:=bt;exact aax aR a4 c n l λu' s2 bH ez=>⟨v,H1,bH,ez,q⟩
theorem jt(aF:bq X o bQ)(bj:bq X value kP)(hs:A_ value (some (.Attribute o f pos')) pos.line X.env=pure false):gI X (.Assign [.Attribute o f pos'] value pos) (Xd X.K bQ kP f):=by intro pins s σ H D I h;refine ao4 (bD (bj pins s σ H _ I h) λu s1⟨y,H1,aR,bC,q⟩=>bD (aF pins s1 σ H1 _ aR q) λfC s2 hz=>?_) hs;obtain⟨x,ah,bH,bt,a,C,af,fs,ex,a4,c,n,l,cv⟩:=hz;subst ex;obtain rfl:fC=cu a:=bt;exact aay bH a4 c n l bC λs3 cZ=>⟨σ,_,cZ,cv⟩
theorem ar3{pl:Sem Bool}{fq:Pos}{args:hF}{Q:cc}{b6:TE}(he:bq X e b6)(I:Inv X pins σ H s)(h:b6 σ H λx H1=>∃a C af fs g,x=.ref a/\H1 a=some (.ins C af fs)/\eh X.K C/\Meth X.K C m g/\fs.lookup m=none/\
   ∀s1,Inv X pins σ H1 s1->aL (aX X.prog X.w) X.A (CU pos (.ref g) [.ref a] (hp pos (dY args X.env)) (lY pos (l6 [] X.env))) Q X.dZ s1)(dM:eval (.Call (.Attribute e m fq) args [] pos) X.env=(do
   let fC <-eval e X.env
   tU fq.atName
   let(f,first) <-mU [fC] (z4 fC m pl)
   CU pos f first (hp pos (dY args X.env)) (lY pos (l6 [] X.env)))):
  aL (aX X.prog X.w) X.A (eval (.Call (.Attribute e m fq) args [] pos) X.env) Q X.dZ s:=by refine Gj (pl:=pl) (bD (he pins s σ H _ I h) λu s1 hz=>?_) dM;obtain⟨x,H1,aR,bt,a,C,af,fs,g,ex,a4,c,k,l,q⟩:=hz;subst ex;obtain rfl:u=cu a:=bt;exact IF aR a4 c k l (q s1 aR)
end
section
variable{X:bo}{pins:dP}{σ:St}{H:ae}{s:aK}{A:du}{E:cc}{Q:cc}{c:Value}{b:Bool}
inductive ma(K:aY)(H:ae):V->Value->Prop where
 |bc:ma K H .bc (.type "NoneType")
 |aA (x:Bool):ma K H (.aA x) (.type "bool")
 |int (i:Int):ma K H (.int i) (.type "int")
 |str (x:Str):ma K H (.str x) (.type "str")
 |xq (x:UInt64):ma K H (.xq x) (.type "float")
 |lst {a:Addr} {xs:aW} (e:H a=some (.lst xs)):ma K H (.ref a) (.type "list")
 |fi {a:Addr} {o:Obj} {xs:aW} (e:H a=some (.fi o (.lst xs))):ma K H (.ref a) (.type "list")
 |tup {a:Addr} {xs:aW} (e:H a=some (.tup xs)):ma K H (.ref a) (.type "tuple")
 |bN {a:Addr} {kvs:List (bA×V)} (e:H a=some (.bN kvs)):ma K H (.ref a) (.type "dict")
 |d4 {a:Addr} {kvs:List (List bA×V)} (e:H a=some (.d4 kvs)):ma K H (.ref a) (.type "dict")
 |ins {a C af:Addr} {fs:List (Str×V)} (e:H a=some (.ins C af fs)) (cl:eh K C) (aF:cJ K (.ref C) "__class__"=some (some (.builtin "object.__class__")))
   (aM:uw K (.builtin "object.__class__") "__get__"=some (some (.builtin "getset_descriptor.__get__"))) (HN:Cz K (.builtin "object.__class__")=some true)
   (hm:p_ K C (.type "object")=some true):ma K H (.ref a) (.ref C)
theorem Ľ{t:Value}(I:Inv X pins σ H s)(bt:RelV x u)(ty:ma X.K H x t)(e:jI X.K t c=some b)(h:∀a5,Q (.bool b) {s with toks:=a5}):
  aL (aX X.prog X.w) A (call (.builtin "isinstance") [u,c]) Q E s:=by
 cases ty with
 |bc=>cases(show u=gm from bt);exact o2 PySem.W.kitx_none I.eX lW e (λz=>nomatch z) h
 |aA y=>cases(show u=Ml y from bt);exact o2 PySem.W.kitx_bool I.eX lW e (λz=>nomatch z) h
 |int i=>obtain⟨t,q⟩:=(show∃t,u=iF i t from bt);cases q;exact o2 PySem.W.kitx_int I.eX lW e (λz=>nomatch z) h
 |str y=>obtain⟨t,q⟩:=(show∃t,u=w4 y t from bt);cases q;exact o2 PySem.W.kitx_str I.eX lW e (λz=>nomatch z) h
 |xq y=>obtain⟨t,q⟩:=(show∃t,u=WS y t from bt);cases q;exact o2 PySem.W.kitx_float I.eX lW e (λz=>nomatch z) h
 |@lst a xs a4=>
  cases(show u=cu a from bt);obtain⟨_,_,n,_,ag⟩:=(show eI X.prog X.w H s.heap a (.lst xs)from I.bf a _ a4)
  exact o2 ad9 I.eX ⟨_,ag,rfl⟩ e (λz=>nomatch z) h
 |@fi a ob xs a4=>
  cases(show u=cu a from bt);obtain⟨_,_,_,n,_,ag⟩:=(show eI X.prog X.w H s.heap a (.fi ob (.lst xs))from I.bf a _ a4)
  exact o2 ad9 I.eX ⟨_,ag,rfl⟩ e (λz=>nomatch z) h
 |@tup a xs a4=>
  cases(show u=cu a from bt);obtain⟨_,_,_,p⟩:=(show eI X.prog X.w H s.heap a (.tup xs)from I.bf a _ a4)
  obtain⟨o,ag,ai,_⟩:=p;exact o2 PySem.W.kitx_tuple I.eX ⟨o,ag,ai⟩ e (λz=>nomatch z) h
 |@bN a kvs a4=>
  cases(show u=cu a from bt);obtain⟨_,_,vs,_,p⟩:=(show eI X.prog X.w H s.heap a (.bN kvs)from I.bf a _ a4)
  obtain⟨o,es,ep,ag,ai,_⟩:=p;exact o2 ad8 I.eX ⟨o,ag,ai.1⟩ e (λz=>nomatch z) h
 |@d4 a kvs a4=>
  cases(show u=cu a from bt);obtain⟨_,_,xs,_,o,es,ep,ag,ai,_⟩:=(show eI X.prog X.w H s.heap a (.d4 kvs)from I.bf a _ a4)
  exact o2 ad8 I.eX ⟨o,ag,ai.1⟩ e (λz=>nomatch z) h
 |@ins a C af fs a4 cl aF aM HN hm=>
  cases(show u=cu a from bt);obtain⟨mA,O,_⟩:=JT I.bf a4;obtain⟨cV,J,_⟩:=O.look;exact o2 (PySem.W.kitx_own (cl.get _) cl.hd aF aM HN hm) I.eX J e (λz=>nomatch z) h
end
structure gC(k:Nat)(A:du):Prop where
 hd:A.handled=none
 G0:A.depth+3*k+5<recursionLimit
 un:A.units+16*k+200<cLine
theorem gC.mono{j k:Nat}(r:gC k A)(h:j<=k:=by decide):gC j A:=⟨r.hd,by have:=r.G0;omega,by have:=r.un;omega⟩
theorem gC.deeper{k:Nat}{A:du}(r:gC (k+1) A)(env:Env):gC k (A.deeper env):=
 ⟨r.hd,by have:=r.G0;show A.depth+1+3*k+5<_;omega,by have:=r.un;show A.units+3+16*k+200<_;omega⟩
theorem aaz{A:du}{C:Addr}{us:c7}{kw:List (Str×Value)}:(A.under (.builtin "type.__call__" ⟨.ref C::us,kw⟩)).depth=A.depth+1:=by
 first|rfl|simp[SS,Code.weight,Code.isCreation,Code.isGuard,Code.isCaller,Code.frames,S5,guardIds]
theorem aaA{A:du}{C:Addr}{us:c7}{kw:List (Str×Value)}:(A.under (.builtin "type.__call__" ⟨.ref C::us,kw⟩)).units=A.units+1:=by
 first|rfl|simp[SS,Code.cUnits,Code.frames,S5]
theorem gC.make{k:Nat}{A:du}(r:gC (k+1) A)(C:Addr)(us:c7)(kw:List (Str×Value)):gC k (A.under (.builtin "type.__call__" ⟨.ref C::us,kw⟩)):=
 ⟨r.hd,by have:=r.G0;rw[aaz];omega,by have:=r.un;rw[aaA];omega⟩
theorem gC.depth{k:Nat}{A:du}(r:gC k A):A.depth<recursionLimit:=by have:=r.G0;omega
theorem gC.units{k:Nat}{A:du}(r:gC k A):A.units+64<cLine:=by have:=r.un;omega
noncomputable def Gs:fP:=λ_ H Q=>Q [] H
noncomputable def pB(bQ:TE)(yA:fP):fP:=λσ H Q=>bQ σ H λx H1=>yA σ H1 λxs ah=>Q (x::xs) ah
section
variable{X:bo}{e:Expr}{es:hF}{b6:TE}{t:fP}{pos:Pos}
theorem aE:gw X [] Gs:=λ_ _ _ _ H Q I h=>Fh ⟨[],H,I,.nil,h⟩
theorem aj(aF:bq X e b6)(ao:gw X es t)(hs:dY (e::es) X.env=(false,eval e X.env)::dY es X.env:=by rfl):gw X (e::es) (pB b6 t):=by intro pos pins s σ H Q I h;rw[hs];show aL _ _ (spliced ((false,eval e X.env)::hp pos (dY es X.env))) _ _ s;refine wk (bD (aF pins s σ H _ I h) λu s1 hz=>?_);obtain⟨x,H1,aR,b3,bz⟩:=hz;exact bD (ao pos pins s1 σ H1 _ aR bz) λus s2⟨xs,ah,bH,dh,cv⟩=>⟨x::xs,ah,bH,.cons b3 dh,cv⟩
noncomputable def ajP(t:fP):TE:=λσ H Q=>t σ H λxs H1=>xs.length<=sizeLine/\∀p,H1 p=none->Q (.ref p) (upd H1 p (.tup xs))
noncomputable def ajQ(t:fP):TE:=λσ H Q=>t σ H λxs H1=>xs.length<=sizeLine/\∀p,H1 p=none->Q (.ref p) (upd H1 p (.lst xs))
theorem kF{e4}(h:gw X es t):bq X (.Tuple es e4 pos) (ajP t):=by intro pins s σ H Q I a8;refine wpAny_Tuple_spliced (bD (h pos pins s σ H _ I a8) λus s1⟨xs,H1,aR,r,z,q⟩=>⟨by rw[<-r.length];exact z,?_⟩);have hf:H1 s1.heap.objs.size=none:=aR.bf.fresh (bU _);refine⟨.ref s1.heap.objs.size,upd H1 s1.heap.objs.size (.tup xs),aR.laid (t':=s1.toks) (λb u e=>dm _ e) (bU _) ?_,rfl,q _ hf⟩;exact⟨z,us,r,⟨_,fM _ rfl,rfl,_,rfl⟩⟩
theorem h7(h:gw X es t):bq X (.List es pos) (ajQ t):=by intro pins s σ H Q I a8;refine wpAny_List_spliced (bD (h pos pins s σ H _ I a8) λus s1⟨xs,H1,aR,r,z,q⟩=>⟨by rw[<-r.length];exact z,?_⟩);have hf:H1 s1.heap.objs.size=none:=aR.bf.fresh (bU _);refine⟨.ref s1.heap.objs.size,upd H1 s1.heap.objs.size (.lst xs),aR.laid (t':=s1.toks) (λb u e=>dm _ e) (bU _) ?_,rfl,q _ hf⟩;exact⟨z,us,0,r,fM _ rfl⟩
noncomputable abbrev kU:=List V->ae->a'->bX->Prop
noncomputable abbrev pW:=List Env->ae->aK->bX->Value->aK->Prop
structure wq(P:cG)(w:bS)(K:aY)(mg:cw)(base:Heap)(A:du)(outer:List Env)(s:aK)(H:ae):Prop where
 frames:A.frames=some outer
 mod:Mod K mg base
 bs:∀b o,base.get? b=some o->s.heap.get? b=some o/\H b=none
 rl:base.objs.size<=s.heap.objs.size
 kD:s.heap.FunFrames base outer
 ta:∀b∈fu outer,H b=none
 bf:fE P w H s.heap
 bare:sq s.gens
noncomputable def KL(outer:List Env)(P:cG)(w:bS)(H:ae)(s:aK)(Q:a')(u:Value)(s':aK):Prop:=
 ∃v H',s'.os=s.os/\sq s'.gens/\h2 (fu outer) [] H H' s.heap s'.heap/\fE P w H' s'.heap/\RelV v u/\Q v H'
end
noncomputable def Ű(CX:pW)(outer:List Env)(P:cG)(w:bS)(H:ae)(s:aK)(Q:a')(E:bX)(r:my)(s':aK):Prop:=
 match r with
 |.ok (.ret u)=>KL outer P w H s Q u s'
 |.ok _=>False
 |.error e=>CX outer H s E e s'
structure aS(P:cG)(w:bS)(K:aY)(mg:cw)(base:Heap)(CX:pW)(k:Nat)(f:Addr)(fd:m_)(ps:cb)(sp:kU):Prop where
 len:∀vs H Q E,sp vs H Q E->vs.length=ps.length
 run:∀(A:du)(outer:List Env)(s:aK)(H:ae)(args:Args)(us:c7)(vs:aW)(Q:a')(E:bX),gC k A->wq P w K mg base A outer s H->BH s fd args (ps.zip us)->cN vs us->sp vs H Q E->
  iH (aX P w) A (.call (.ref f) args) (Ű CX outer P w H s Q E) s
theorem wq.make{K:aY}{mg:cw}{base:Heap}{A:du}(e:wq P w K mg base A outer s H)(C:Addr)(us:c7)(kw:List (Str×Value)):
  wq P w K mg base (A.under (.builtin "type.__call__" ⟨.ref C::us,kw⟩)) outer s H:=⟨by first|exact e.frames|(simpa[SS,Code.envs,S5,pushEnvs]using e.frames),e.mod,e.bs,e.rl,e.kD,e.ta,e.bf,e.bare⟩
section
variable{X:bo}{pins:dP}{σ:St}{H:ae}{s s':aK}
theorem Inv.G7(I:Inv X pins σ H s):wq X.prog X.w X.K X.mg X.base X.A X.stack s H:=
 ⟨I.ok.frames,I.ok.mod,I.bs,eP I.ok.rl I.kq,I.stack,I.Jv,I.bf,I.bare⟩
theorem Inv.after(I:Inv X pins σ H s)(h:KL X.stack X.prog X.w H s Q u s'):iC X pins σ Q u s':=by obtain⟨v,H',os,bare,un,bf,r,q⟩:=h;obtain⟨dr,g,d,t,aoW⟩:=s';obtain rfl:aoW=s.os:=os;exact⟨v,H',I.call (h':=dr) (g':=g) (d':=d) (t':=t) (ch:=[]) un bf bare (λb z=>bx z (by simp)),r,q⟩
end
noncomputable def ahT(sp:kU)(jm:aW)(E:bX)(t:fP):TE:=λσ H Q=>t σ H λvs H1=>sp (vs++jm) H1 Q E
inductive ahU(C:Addr)(m:Str)(x:V)(H1:ae)(R:Prop):Prop where
 |mk (a:_) (af:_) (fs:_) (bM:x=.ref a) (bu:H1 a=some (.ins C af fs)) (bW:fs.lookup m=none) (cW:R)
noncomputable def LK(C:Addr)(m:Str)(sp:kU)(jm:aW)(E:bX)(bQ:TE)(t:fP):TE:=λσ H Q=>bQ σ H λx H1=>ahU C m x H1 (t σ H1 λvs ah=>sp (x::(vs++jm)) ah Q E)
noncomputable def aid(C:Addr)(sp:kU)(jm:aW)(E:bX)(t:fP):TE:=λσ H Q=>t σ H λvs H1=>∀x af,H1 x=none->H1 af=none->af≠x->
 sp (.ref x::(vs++jm)) (upd (upd H1 af (.own x)) x (.ins C af [])) (λv ah=>v=.bc/\Q (.ref x) ah) E
noncomputable def Binds(K:aY)(fd:m_)(ps:cb)(ds:c7):Prop:=
 ∀(s:aK)(us:c7),K.In s.heap->(us++ds).length=ps.length->BH s fd ⟨us,[]⟩ (ps.zip (us++ds))
theorem Binds.all{K:aY}{ps:cb}(h:∀us:List Value,us.length=ps.length->GS fd ⟨us,[]⟩=pure (ps.zip us)):Binds K fd ps []:=λs us _ aw=>by rw[q9]at aw⊢;exact .of_eq (h us aw)
noncomputable def qG(CX:pW)(X:bo)(E:bX):Prop:=∀(pins:dP)(σ:St)(H:ae)(s:aK)(e:Value)(s':aK),Inv X pins σ H s->CX X.stack H s E e s'->X.dZ e s'
section
variable{X:bo}{CX:pW}{k:Nat}{f C:Addr}{fd:m_}{ps:cb}{sp:kU}{jm:aW}{ds:c7}{E:bX}{x m:Str}{p pos fq:Pos}{e o:Expr}{es:hF}{bQ:TE}{t:fP}
theorem K5{vs:aW}(F:aS X.prog X.w X.K X.mg X.base CX k f fd ps sp)(ao:gC k X.A)(aa:Binds X.K fd ps ds)(hd:cN jm ds)(av:qG CX X E)(I:Inv X pins σ H s)(r:cN vs us)(h:sp (vs++jm) H Q E):aL (aX X.prog X.w) X.A (call (.ref f) us) (iC X pins σ Q) X.dZ s:=by
 have dh:cN (vs++jm) (us++ds):=r.append hd;have aw:(us++ds).length=ps.length:=by rw[<-dh.length];exact F.len _ _ _ _ h
 refine pQ (qm (F.run X.A X.stack s H ⟨us,[]⟩ (us++ds) (vs++jm) Q E ao I.G7 (aa s us I.eX aw) dh h) λr s' a8=>?_);cases r with
 |error e=>exact av pins σ H s e s' I a8
 |ok ft=>
  cases ft with
  |ret u=>exact I.after a8
  |next=>exact iU a8
  |brk=>exact iU a8
  |cont=>exact iU a8
theorem ec(F:aS X.prog X.w X.K X.mg X.base CX k f fd ps sp)(ao:gC k X.A)(bE:jd X x)(hm:X.mg x=some (.ref f))(aP:mw X.K (.ref f)=true)(aa:Binds X.K fd ps ds)(hd:cN jm ds)(av:qG CX X E)(aF:gw X (e::es) t)(jx:(x==("__debug__":Str))=false:=by decide)(he:dY (e::es) X.env=(false,eval e X.env)::dY es X.env:=by rfl)(fH:(hp pos (dY es X.env)).any (·.1)=false:=by rfl):
  bq X (.Call (.Name x p) (e::es) [] pos) (ahT sp jm E t):=by intro pins s σ H Q I h;refine yR (vD I bE hm ?_ jx);refine Gh (h₀:=X.base) I.ok.mod.vB aP (bD (aF pos pins s σ H _ I h) λus s1⟨vs,H1,aR,r,q⟩=>⟨aR.eX,?_⟩) he fH;exact K5 F ao aa hd av aR r q
theorem fx{pl:Sem Bool}(he:bq X o bQ)(c:eh X.K C)(hm:Meth X.K C m f)(F:aS X.prog X.w X.K X.mg X.base CX k f fd ps sp)(ao:gC k X.A)(aa:Binds X.K fd ps ds)(hd:cN jm ds)(av:qG CX X E)(aF:gw X (e::es) t)(iM:dY (e::es) X.env=(false,eval e X.env)::dY es X.env:=by rfl)(fH:(hp pos (dY es X.env)).any (·.1)=false:=by rfl)(dM:eval (.Call (.Attribute o m fq) (e::es) [] pos) X.env=(do
   let fC <-eval o X.env
   tU fq.atName
   let(f,first) <-mU [fC] (z4 fC m pl)
   CU pos f first (hp pos (dY (e::es) X.env)) (lY pos (l6 [] X.env))):=by rfl):
  bq X (.Call (.Attribute o m fq) (e::es) [] pos) (LK C m sp jm E bQ t):=by intro pins s σ H Q I h;refine Gj (pl:=pl) (bD (he pins s σ H _ I h) λu s1 hz=>?_) dM;obtain⟨x,H1,aR,bt,a,af,fs,ex,a4,l,q⟩:=hz;subst ex;obtain rfl:u=cu a:=bt;refine IF aR a4 c hm l ?_;refine Gh (first:=[.ref a]) (h₀:=X.base) I.ok.mod.vB hm.cI (bD (aF pos pins s1 σ H1 _ aR q) λus s2⟨vs,ah,bH,r,cv⟩=>⟨bH.eX,?_⟩) iM fH;exact K5 (us:=.ref a::us) (vs:=.ref a::vs) F ao aa hd av bH (.cons rfl r) cv
theorem k8{pl:Sem Bool}(he:bq X o bQ)(c:eh X.K C)(hm:Meth X.K C m f)(F:aS X.prog X.w X.K X.mg X.base CX k f fd ps sp)(ao:gC k X.A)(aa:Binds X.K fd ps ds)(hd:cN jm ds)(av:qG CX X E)(dM:eval (.Call (.Attribute o m fq) [] [] pos) X.env=(do
   let fC <-eval o X.env
   tU fq.atName
   let(f,first) <-mU [fC] (z4 fC m pl)
   CU pos f first (hp pos (dY [] X.env)) (lY pos (l6 [] X.env))):=by rfl):
  bq X (.Call (.Attribute o m fq) [] [] pos) (LK C m sp jm E bQ Gs):=by intro pins s σ H Q I h;refine Gj (pl:=pl) (bD (he pins s σ H _ I h) λu s1 hz=>?_) dM;obtain⟨x,H1,aR,bt,a,af,fs,ex,a4,l,q⟩:=hz;subst ex;obtain rfl:u=cu a:=bt;refine IF aR a4 c hm l ?_;exact ad3 (first:=[.ref a]) aR.eX hm.cI (K5 (us:=[.ref a]) (vs:=[.ref a]) F ao aa hd av aR (.cons rfl .nil) q)
structure p6(K:aY)(C f:Addr):Prop where
 makes:zI K C=true
 init:cJ K (.ref C) "__init__"=some (some (.ref f))
 fn:sQ K (.ref f)=true
 cI:mw K (.ref C)=true
theorem acY{H:ae}{Q:a'}{vs:aW}(M:p6 X.K C f)(F:aS X.prog X.w X.K X.mg X.base CX k f fd ps sp)(ao:gC (k+1) X.A)(aa:Binds X.K fd ps ds)(hd:cN jm ds)(av:qG CX X E)(I:Inv X pins σ H s)(r:cN vs us)(h:∀x af,H x=none->H af=none->af≠x->sp (.ref x::(vs++jm)) (upd (upd H af (.own x)) x (.ins C af [])) (λv ah=>v=.bc/\Q (.ref x) ah) E):
  aL (aX X.prog X.w) X.A (call (.ref C) us) (iC X pins σ Q) X.dZ s:=by
 have a8:=h (s.heap.objs.size+1) s.heap.objs.size (I.bf.fresh (oY _)) (I.bf.fresh (bU _)) (dR (ur _));have bH:=Inv.made (C:=C) I;have dh:cN (V.ref (s.heap.objs.size+1)::(vs++jm)) (cu (s.heap.objs.size+1)::(us++ds)):=.cons rfl (r.append hd);have aw:(cu (s.heap.objs.size+1)::us++ds).length=ps.length:=by have e:=dh.length;rw[F.len _ _ _ _ a8]at e;exact e.symm
 refine pQ (adi (f:=f) I.eX M.makes M.init (o6.mp M.fn) (qm (F.run _ X.stack _ _ ⟨cu (s.heap.objs.size+1)::us,[]⟩ (cu (s.heap.objs.size+1)::(us++ds)) _ _ E (ao.make C us [])
  (bH.G7.make C us []) (aa _ (cu (s.heap.objs.size+1)::us) bH.eX aw) dh a8) λr s' qA=>?_))
 cases r with
 |error e=>exact av pins σ _ _ e s' bH qA
 |ok ft=>
  cases ft with
  |ret u=>
   obtain⟨v,H',cZ,cf,ev,gg⟩:=bH.after qA;subst ev;exact⟨cf,⟨V.ref (s.heap.objs.size+1),H',cZ,rfl,gg⟩⟩
  |next=>exact iU qA
  |brk=>exact iU qA
  |cont=>exact iU qA
theorem vE(M:p6 X.K C f)(F:aS X.prog X.w X.K X.mg X.base CX k f fd ps sp)(ao:gC (k+1) X.A)(bE:jd X x)(hm:X.mg x=some (.ref C))(aa:Binds X.K fd ps ds)(hd:cN jm ds)(av:qG CX X E)(aF:gw X (e::es) t)(jx:(x==("__debug__":Str))=false:=by decide)(he:dY (e::es) X.env=(false,eval e X.env)::dY es X.env:=by rfl)(fH:(hp pos (dY es X.env)).any (·.1)=false:=by rfl):
  bq X (.Call (.Name x p) (e::es) [] pos) (aid C sp jm E t):=by intro pins s σ H Q I h;refine yR (vD I bE hm ?_ jx);refine Gh (h₀:=X.base) I.ok.mod.vB M.cI (bD (aF pos pins s σ H _ I h) λus s1⟨vs,H1,aR,r,q⟩=>⟨aR.eX,?_⟩) he fH;exact acY M F ao aa hd av aR r q
end
noncomputable def LU(X:bo)(DK:List wy)(t:fP):Prop:=
 ∀(pos:Pos)(pins:dP)(s:aK)(σ:St)(H:ae)(Q:List V->ae->Prop),Inv X pins σ H s->t σ H Q->aL (aX X.prog X.w) X.A (evalAll ((lY pos (l6 DK X.env)).map (·.2))) (SO X pins σ Q) X.dZ s
section
variable{X:bo}{CX:pW}{k:Nat}{f C:Addr}{fd:m_}{ps gS:cb}{sp:kU}{E:bX}{x m:Str}{p pos fq anF:Pos}{e o:Expr}{es:hF}{DK:List wy}{b6 bQ:TE}{t a5:fP}{nm:Option Str}
theorem Vp:LU X [] Gs:=λ_ _ _ _ H Q I h=>wpAny_evalAll_nil ⟨[],H,I,.nil,h⟩
theorem Uc(aF:bq X e b6)(ao:LU X DK t):LU X (⟨nm,e,anF⟩::DK) (pB b6 t):=by intro pos pins s σ H Q I h;show aL _ _ (evalAll ((do let v <-eval e X.env;tU pos;pure v)::(lY pos (l6 DK X.env)).map (·.2))) _ _ s;refine wpAny_evalAll_cons (au (bD (aF pins s σ H _ I h) λu s1⟨x,H1,aR,b3,bz⟩=>au (ER (aT ?_))));exact bD (ao pos pins s1 σ H1 _ aR bz) λus s2⟨xs,ah,bH,dh,cv⟩=>⟨x::xs,ah,bH,.cons b3 dh,cv⟩
end
structure c3(N P:cb)(sc:Scope):Prop where
 kind:sc.kind=.function:=by rfl
 co:sc.isCoroutine=false:=by rfl
 gen:sc.isGenerator=false:=by rfl
 aI:N.Nodup:=by decide +kernel
 pre:N.take P.length=P:=by rfl
 par:∀x∈P,sc.names.lookup x=some .local\/sc.names.lookup x=some .cell:=by decide +kernel
 aow:∀y∈sc.names,y.2≠.free:=by decide +kernel
theorem ľ{kindOf:Str->Option wL}:∀{binds:List (Str×Value)}{m:cw},(∀v,(x,v)∉binds)->w_ kindOf binds m x=m x
 |[],_,_=>rfl
 | (n,v)::r,m,h=>by
  unfold w_;rw[ľ λw hw=>h w (ng _ hw)];split
  .have:x≠n:=by rintro rfl;exact h v um
   simp[this]
  .rfl
theorem Ł{kindOf:Str->Option wL}:∀{binds:List (Str×Value)}{m:cw},(∀v,(x,v)∉binds)->w' kindOf binds m x=m x
 |[],_,_=>rfl
 | (n,v)::r,m,h=>by
  unfold w';rw[Ł λw hw=>h w (ng _ hw)];split
  .rfl
  .have:x≠n:=by rintro rfl;exact h v um
   simp[this]
theorem Ń{kindOf:Str->Option wL}:∀{P:cb}{vs:c7}{i:Nat}{m:cw},P.Nodup->P[i]?=some x->vs[i]?=some v->kindOf x=some .local->
  w_ kindOf (P.zip vs) m x=some v
 |[],_,_,_,_,h,_,_=>by simp at h
 |_::_,[],_,_,_,_,h,_=>by simp at h
 |p::P,w::vs,0,m,aI,ag,ai,aP=>by simp at ag ai;subst ag;subst ai;show w_ kindOf ((p,w)::P.zip vs) m p=_;unfold w_;rw[ľ λv bj=>(iE.mp aI).1 (Vj bj).1,bB aP];simp
 |p::P,w::vs,i+1,m,aI,ag,ai,aP=>by show w_ kindOf ((p,w)::P.zip vs) m x=_;unfold w_;exact Ń (i:=i) (iE.mp aI).2 (by simpa using ag) (by simpa using ai) aP
theorem ń{kindOf:Str->Option wL}:∀{P:cb}{vs:c7}{i:Nat}{m:cw},P.Nodup->P[i]?=some x->vs[i]?=some v->kindOf x≠some .local->
  w' kindOf (P.zip vs) m x=some v
 |[],_,_,_,_,h,_,_=>by simp at h
 |_::_,[],_,_,_,_,h,_=>by simp at h
 |p::P,w::vs,0,m,aI,ag,ai,aP=>by simp at ag ai;subst ag;subst ai;show w' kindOf ((p,w)::P.zip vs) m p=_;unfold w';rw[Ł λv bj=>(iE.mp aI).1 (Vj bj).1,bp aP];simp
 |p::P,w::vs,i+1,m,aI,ag,ai,aP=>by show w' kindOf ((p,w)::P.zip vs) m x=_;unfold w';exact ń (i:=i) (iE.mp aI).2 (by simpa using ag) (by simpa using ai) aP
noncomputable def start(N:cb)(vs:aW):St:=vs.map some++B8 (N.length-vs.length) none
noncomputable def jB(CX:pW)(P:cG)(w:bS)(K:aY)(mg:cw)(base:Heap)(N:cb)(qual:Str)(scope:Scope)(f:Addr)(cd:Value)(A:du)(outer:List Env)(s:aK)(H:ae)(E:bX):bo where
 prog:=P
 w:=w
 K:=K
 mg:=mg
 base:=base
 A:=A.deeper (o_ qual scope s.heap.objs.size f cd)
 N:=N
 ix:=s
 pZ:=H
 env:=o_ qual scope s.heap.objs.size f cd
 outer:=outer
 stack:=o_ qual scope s.heap.objs.size f cd::outer
 ex:=[]
 calm:=true
 fn:=λ_=>true
 eC:=[]
 dZ:=λe s'=>aL (aX P w) (A.deeper (o_ qual scope s.heap.objs.size f cd)) (leaving (o_ qual scope s.heap.objs.size f cd) e) (λ_ QT=>CX outer H s E e QT) (λbJ QT=>CX outer H s E bJ QT) s'
theorem Tf{sc:Scope}{n:Nat}(h:sc.names.lookup x=some .cell):∃c,(XY n sc.names []).lookup x=some c:=by have q:=ad4 sc.names n [] (.inl h);exact sP.mp q
theorem abx{K:aY}{mg:cw}{base:Heap}{ps:cb}{scope:Scope}{A:du}{s:aK}{vs:aW}(S:c3 N ps scope)(hd:A.handled=none)(cD:wq P w K mg base A outer s H)(aw:vs.length=ps.length)(r:cN vs us)(x:InCallC s s.heap.objs.size (w_ (o_ qual scope s.heap.objs.size f cd).kindOf (ps.zip us) λ_=>none) (XY (s.heap.objs.size+1) scope.names []) (w' (o_ qual scope s.heap.objs.size f cd).kindOf (ps.zip us) λ_=>none) s1):
  Inv (jB CX P w K mg base N qual scope f cd A outer s H E) [] (start N vs) H s1:=by
 have fH:ps.length<=N.length:=by have:=ht F8 S.pre;rw[lS]at this;omega
 obtain⟨ag,a5,rfl,aP⟩:=x.done;have DX:∀b:Addr,b∉(jB CX P w K mg base N qual scope f cd A outer s H E).ex:=λb z=>bx (show b∈([]:cj)from z) (by simp);refine⟨⟨cD.mod,S.kind,rfl,rfl,bU _,λy z c ag ai=>?_,λy cM=>?_,λy c _ h=>?_,λ_=>hd,Around.frames_deeper cD.frames,.inr ⟨rfl,rfl⟩,λb z=>bx z (DX b),cD.bs,cD.rl,λb _ _=>DX b,λb z=>bx z (DX b),cD.kD,cD.ta⟩,
  rfl,cD.bare,h2.kept aP,⟨_,x.toInCall.ns,λi y v ag ai bK=>?_⟩,λy c h=>⟨_,x.cell y c h⟩,cD.bf.fresh (bU _),λy c h=>?_,λp aN=>bx (show p∈([]:dP)from aN) (by simp),cD.bf.kept aP,?_⟩
 .exact name_of_addr x.apart (CA ag) (CA ai)
 .have cM:scope.names.lookup y=some .cell\/scope.names.lookup y=some .free:=cM;rcases cM with cM|cM
  .exact Tf cM
  .exact bx rfl (S.aow _ (CA cM))
 .exact q' (x.above y c (CA h))
 .have ak:i<vs.length:=by
   unfold start at ai;by_cases ak:i<vs.length
   .exact ak
   .rw[sE (by simpa using ak)]at ai;rw[List.getElem?_replicate]at ai;split at ai<;>cases ai
  have aF:vs[i]?=some v:=by
   unfold start at ai;rw[wA (by simpa using ak),cx]at ai;cases e:vs[i]? with
   |none=>rw[e]at ai;cases ai
   |some a=>rw[e]at ai;cases ai;rfl
  obtain⟨u,b_,cf⟩:=r.get aF;have aN:ps[i]?=some y:=by rw[<-S.pre,List.getElem?_take_of_lt (by omega)];exact ag
  have ψ:ps.Nodup:=by rw[<-S.pre];exact S.aI.sublist (LA _ _)
  refine⟨u,cf,?_⟩;rcases S.par y (dV aN)with k|k
  .exact .inl ⟨k,Ń ψ aN b_ k⟩
  .obtain⟨c,e⟩:=Tf (n:=s.heap.objs.size+1) k;refine .inr ⟨.inl k,c,e,?_⟩;have q:=x.cell y c e;rw[ń ψ aN b_ (by show scope.names.lookup y≠_;rw[k];decide)]at q;exact q
 .exact cD.bf.fresh (q' (x.above y c (CA h)))
 .unfold start;show _=N.length;rw[hD,bk,List.length_replicate];omega
theorem LC{K:aY}{mg:cw}{base:Heap}{k:Nat}{name:Str}{params:Arguments}{body:List Stmt}{c9 km:Value}{cV:Option Addr}{l_:nj}{ps:cb}{sp:kU}(lk:K.lookup f=some ⟨km,cV,.func (mv name qual params body scope M3 c9 doc pm an cdv eL),l_⟩)(lg:Cx K cdv qual=true)(S:c3 N ps scope)(len:∀vs H Q E,sp vs H Q E->vs.length=ps.length)(xF:∀(A:du)(outer:List Env)(s:aK)(H:ae)(vs:aW)(Q:a')(E:bX),gC k (A.deeper (o_ qual scope s.heap.objs.size f cdv))->sp vs H Q E->
   ∃t,g6 (jB CX P w K mg base N qual scope f cdv A outer s H E) body t/\t {b1:=λ_ H'=>Q .bc H',rW:=Q} (start N vs) H):
  aS P w K mg base CX (k+1) f (mv name qual params body scope M3 c9 doc pm an cdv eL) ps sp:=by
 refine⟨len,λA outer s H args us vs Q E ao cD aa r pg=>?_⟩;have aw:=len _ _ _ _ pg;have oS:K.In s.heap:=cD.mod.vB.keeps λb o e=>(cD.bs b o e).1;have lim:s.heap.NoLimit:=cD.mod.nolimit.keeps λb o e=>(cD.bs b o e).1;have tg:∀y∈ps.zip us,scope.names.lookup y.1=some .local\/(scope.names.lookup y.1=some .cell/\((XY (s.heap.objs.size+1) scope.names []).lookup y.1).isSome=true):=λ⟨n,v⟩cM=>by
  rcases S.par n (Vj cM).1 with q|q
  .exact .inl q
  .exact .inr ⟨q,ad4 _ _ _ (.inl q)⟩
 refine codeAny_call_function ao.depth (oS _ _ lk) rfl S.co S.gen rfl (PySem.W.codeRec_of oS lg) (aa _ _ _ _ ?_);refine wpAny_newFunctionEnv_cells S.kind tg λenv he s1 x=>?_;subst he;refine⟨lim.keeps x.toInCall.keep,codeAny_func ?_⟩;obtain⟨t,dM,a8⟩:=xF A outer s H vs Q E (ao.deeper _) pg;have I:Inv (jB CX P w K mg base N qual scope f cdv A outer s H E) [] (start N vs) H s1:=abx S ao.hd cD aw r x;refine gi (dM [] s1 (start N vs) H _ I a8) (λft s' hs=>?_) λe s' hs=>hs;have fin:∀{a9:St}{H':ae}{v:V}{u:Value},Inv (jB CX P w K mg base N qual scope f cdv A outer s H E) [] a9 H' s'->RelV v u->Q v H'->KL outer P w H s Q u s':=
  λ{a9 H' v u}J cf q=>⟨v,H',J.os,J.bare,J.base,J.bf,cf,q⟩
 cases ft with
 |ret u=>
  obtain⟨v,a9,H',J,cf,q⟩:=hs;exact fin J cf q
 |next=>
  obtain⟨a9,H',J,q⟩:=hs;exact fin (v:=V.bc) (u:=gm) J rfl q
 |brk=>
  obtain⟨_,_,_,q⟩:=hs;exact iU q
 |cont=>
  obtain⟨_,_,_,q⟩:=hs;exact iU q
section
variable{X:bo}{x:Str}{p pos:Pos}{e:Expr}{es:hF}{t:fP}{id T:String}{r:List V->ae->a'->Prop}
noncomputable def qV(r:List V->ae->a'->Prop)(t:fP):TE:=λσ H Q=>t σ H λvs H1=>r vs H1 Q
theorem dj(aq:jV X (.builtin id) r)(bE:jd X x)(hm:X.mg x=none)(bj:iG x=some (.builtin id))(aF:gw X (e::es) t)(aM:x≠"__name__":=by decide)(jx:(x==("__debug__":Str))=false:=by decide)(he:dY (e::es) X.env=(false,eval e X.env)::dY es X.env:=by rfl)(fH:(hp pos (dY es X.env)).any (·.1)=false:=by rfl):bq X (.Call (.Name x p) (e::es) [] pos) (qV r t):=by intro pins s σ H Q I h;refine yR (vN I bE hm bj ?_ aM jx);exact adH (bD (aF pos pins s σ H _ I h) λus s1⟨vs,H1,aR,b3,bz⟩=>aq pins s1 σ H1 vs us Q aR b3 bz) he fH
theorem n9(aq:jV X (.type T) r)(bE:jd X x)(hm:X.mg x=none)(bj:iG x=some (.type T))(aF:gw X (e::es) t)(aM:x≠"__name__":=by decide)(jx:(x==("__debug__":Str))=false:=by decide)(he:dY (e::es) X.env=(false,eval e X.env)::dY es X.env:=by rfl)(fH:(hp pos (dY es X.env)).any (·.1)=false:=by rfl):bq X (.Call (.Name x p) (e::es) [] pos) (qV r t):=by intro pins s σ H Q I h;refine yR (vN I bE hm bj ?_ aM jx);exact LY (bD (aF pos pins s σ H _ I h) λus s1⟨vs,H1,aR,b3,bz⟩=>aq pins s1 σ H1 vs us Q aR b3 bz) he fH
end
end ar
namespace hk
open PySem PyProof.Rows
noncomputable def lexLt:List Int->List Int->Bool
 |[],[]=>false
 |[],_::_=>true
 |_::_,[]=>false
 |x::xs,y::ys=>if x=y then lexLt xs ys else decide (x<y)
section
variable{prog:cG}{w:bS}{A:du}{E:cc}{s:aK}
noncomputable def eg(n d:Nat):Option Int->Nat
 |none=>d
 |some v=>if v<0 then(v+(n:Int)).toNat else min v.toNat n
theorem Q1(n d k:Nat):eg n d (some (k:Int))=min k n:=by show(if(k:Int)<0 then((k:Int)+(n:Int)).toNat else min (k:Int).toNat n)=min k n;rw[bp (by omega),kQ]
theorem ag3(n d:Nat)(hd:d<=n)(o:Option Int):eg n d o<=n:=by
 cases o with
 |none=>exact hd
 |some v=>
  show(if v<0 then(v+(n:Int)).toNat else min v.toNat n)<=n;by_cases bj:v<0
  .rw[bB bj];omega
  .rw[bp bj];exact Ck _ _
theorem XX(a n:Nat):((min a n:Nat):Int)=min (a:Int) (n:Int):=by
 rcases Nat.le_total a n with h|h
 .rw[Vs h,aa6 (aba.mpr h)]
 .rw[ac4 h,Int.min_eq_right (aba.mpr h)]
theorem Ud(v:Int)(n d:Nat):(if v<0 then max (v+(n:Int)) 0 else min v (n:Int))=((eg n d (some v):Nat):Int):=by
 show _=(((if v<0 then(v+(n:Int)).toNat else min v.toNat n):Nat):Int);by_cases h:v<0
 .rw[bB h,bB h,abb]
 .rw[bp h,bp h,XX,ug (aa8.mp h)]
theorem aaB(lo ak:Option Int)(n:Nat):S2 lo ak 1 (n:Int)=(((eg n 0 lo:Nat):Int),((eg n n ak:Nat):Int)):=by
 have ag:¬((1:Int)<0):=by omega
 unfold S2;simp only[ag,if_false];refine wN ?_ ?_
 .cases lo with
  |none=>rfl
  |some v=>exact Ud v n 0
 .cases ak with
  |none=>rfl
  |some v=>exact Ud v n n
theorem aaD(i j:Nat):KH (i:Int) (j:Int) 1=j-i:=by
 unfold KH;rw[bB (by decide)];by_cases h:i<j
 .rw[bB (Lg.mpr h),Int.ediv_one,Int.sub_add_cancel,<-Int.ofNat_sub (q' h)];rfl
 .rw[bp (λz=>h (Lg.mp z)),Nat.sub_eq_zero_of_le (ac7.mp h)];rfl
theorem Ĉ{o:Option Int}{Q:Option Int->aK->Prop}(p:wu v o)(h:Q o s):aL (aX prog w) A (aro v) Q E s:=by
 cases p with
 |none=>exact apG h
 |int i t=>exact slicePart_int h
theorem aqd{lo ak:Option Int}{n:Nat}{Q:Int×Int×Nat->aK->Prop}(hs:s.heap.IsSliceOf sl lL nQ .none)(pl:wu lL lo)(pu:wu nQ ak)(h:Q (((eg n 0 lo:Nat):Int),1,eg n n ak-eg n 0 lo) s):aL (aX prog w) A (ũ (.ref sl) (pure (n:Int))) Q E s:=by obtain⟨os,xJ,gd,u_⟩:=id hs;unfold ũ arn;refine au (au (Đ xJ u_ (x:=lL) rfl (au (Đ xJ u_ (x:=nQ) rfl (au (Đ xJ u_ (x:=.none) rfl (aT ?_)))))));refine au (apG ?_);show aL _ _ (if((1:Int)==0)=true then _ else _) _ _ s;rw[bp (by decide)];refine au (Ĉ pl (au (Ĉ pu (au (aT ?_)))));show aL _ _ (match S2 lo ak 1 (n:Int)with|(lo,ak)=>pure (lo,(1:Int),KH lo ak 1)) _ _ s;rw[aaB lo ak n];show aL _ _ (pure (((eg n 0 lo:Nat):Int),(1:Int),KH ((eg n 0 lo:Nat):Int) ((eg n n ak:Nat):Int) 1)) _ _ s;rw[aaD];exact aT h
theorem acZ(xs:kV)(i k:Nat):((dK k).filterMap λ(m:Nat)=>xs[((i:Int)+(m:Int)*1).toNat]?).toArray=((xs.toList.drop i).take k).toArray:=by
 have e:(λ(m:Nat)=>xs[((i:Int)+(m:Int)*1).toNat]?)=λm=>xs[i+m]?:=by
  funext m;have:((i:Int)+(m:Int)*1).toNat=i+m:=by omega
  rw[this]
 rw[e];have:=pick_run xs i k;rw[List.filterMap_map]at this;have aB:((λx=>xs[x]?)∘λx=>i+x)=λm=>xs[i+m]?:=rfl;rw[aB]at this;rw[this]
theorem alM{t:Addr}{items:kV}{lo ak:Option Int}{Q:cc}(dM:wx s.heap t items)(hs:s.heap.IsSliceOf sl lL nQ .none)(pl:wu lL lo)(pu:wu nQ ak)(hw:¬(eg items.size 0 lo=0/\eg items.size items.size ak=items.size))(h:Q (.ref s.heap.objs.size) {s with heap:=s.heap.push {cls:=.type "tuple",data:=.seq ((items.toList.drop (eg items.size 0 lo)).take (eg items.size items.size ak-eg items.size 0 lo)).toArray}})(hsz:items.size<=sizeLine):aL (aX prog w) A (xy (.ref t) (.ref sl)) Q E s:=by
 have HL:sizeOk (.seq ((items.toList.drop (eg items.size 0 lo)).take (eg items.size items.size ak-eg items.size 0 lo)).toArray):=by show((items.toList.drop (eg items.size 0 lo)).take (eg items.size items.size ak-eg items.size 0 lo)).toArray.size<=sizeLine;rw[fN,lS,Lo,nU];exact eP (Ck _ _) (eP (ac8 _ _) hsz)
 have bg:eg items.size items.size ak<=items.size:=ag3 _ _ (bU _) ak;obtain⟨os,xJ,gd,u_⟩:=id hs;have al7:s.TypeIs (.ref sl) "slice":=⟨os,xJ,gd⟩
 unfold xy
 try with_reducible refine hA ?_
 first|refine au (aT ?_)|skip
 refine au (wpAny_sequenceKey dM.typeIs (by decide) ?_);refine au (J4 (name:=e8 "__getitem__") dM.typeIs VZ
  (nS VZ dM.typeIs entry_tuple_getitem ?_ (args_tuple_getitem _ _)))
 show aL _ _ (arp (.ref t) >>=_) _ _ s;refine au (tupleItemsOf_ dM ?_);refine au (ĕ al7 ?_);rw[bB (by decide)];refine au (aqd hs pl pu ?_);have xI:¬((((eg items.size 0 lo:Nat):Int)==0&&(1:Int)==1&&(eg items.size items.size ak-eg items.size 0 lo)==items.size)=true):=by intro q;rw[iB,iB]at q;have bz:((eg items.size 0 lo:Nat):Int)=0:=eq_of_beq q.1.1;have cv:eg items.size items.size ak-eg items.size 0 lo=items.size:=eq_of_beq q.2;exact hw ⟨by omega,by omega⟩
 show aL _ _ (if(((eg items.size 0 lo:Nat):Int)==0&&(1:Int)==1&&(eg items.size items.size ak-eg items.size 0 lo)==items.size)=true then _ else _) _ _ s;rw[bp xI,acZ]
 first
  |exact au (m:=KI _) (m7 (aT ⟨_,rfl,aT h⟩) HL)
  |exact au (m:=KI _) (m7 (au (aT (aT ⟨_,rfl,aT h⟩))) HL)
  |exact au (au (m:=KI _) (m7 (aT (aT ⟨_,rfl,aT h⟩)) HL))
  |exact au (au (m:=KI _) (m7 (aT ⟨_,rfl,aT h⟩) HL))
end
end hk
namespace ar
open PySem PySem.Spec PyProof.Rows
noncomputable abbrev w0:=St->ae->(Option Int->ae->Prop)->Prop
noncomputable def Gf(X:bo)(e:Option Expr)(t:w0):Prop:=
 ∀(pins:dP)(s:aK)(σ:St)(H:ae)(Q:Option Int->ae->Prop),Inv X pins σ H s->t σ H Q->
  aL (aX X.prog X.w) X.A (evalPart e X.env) (λu s'=>∃o H',Inv X pins σ H' s'/\wu u o/\Q o H') X.dZ s
noncomputable def afl:w0:=λ_ H Q=>Q none H
noncomputable def aie(t:TE):w0:=λσ H Q=>t σ H λx H1=>∃i,x=.int i/\Q (some i) H1
section
variable{X:bo}{e:Expr}{b6:TE}{lo ak:Option Expr}{dA pJ:w0}{pos d_:Pos}
theorem Kd:Gf X none afl:=by intro pins s σ H Q I h;rw[evalPart_none];exact aT ⟨none,H,I,.none,h⟩
theorem Eg(h:bq X e b6):Gf X (some e) (aie b6):=by intro pins s σ H Q I hw;rw[evalPart_some];refine bD (h pins s σ H _ I hw) λu s1 hz=>?_;obtain⟨x,H1,aR,b3,bz⟩:=hz;obtain⟨i,rfl,q⟩:=bz;obtain⟨t,rfl⟩:=b3;exact⟨some i,H1,aR,.int i t,q⟩
noncomputable def Mh(X:bo)(r:V->Option Int->Option Int->ae->a'->Prop):Prop:=
 ∀(pins:dP)(s:aK)(σ:St)(H:ae)(x:V)(v lL nQ:Value)(lo ak:Option Int)(sl:Addr)(Q:a'),Inv X pins σ H s->RelV x v->s.heap.IsSliceOf sl lL nQ .none->wu lL lo->wu nQ ak->r x lo ak H Q->
  ∃T id,typeLookup (.type T) "__getitem__"=pure (some (.builtin id))/\s.TypeIs v T/\aL (aX X.prog X.w) X.A (xy v (.ref sl)) (iC X pins σ Q) X.dZ s
noncomputable def apT(r:V->Option Int->Option Int->ae->a'->Prop)(b6:TE)(dA pJ:w0):TE:=λσ H Q=>b6 σ H λx H1=>dA σ H1 λl ah=>pJ σ ah λu aZ=>r x l u aZ Q
theorem Ja{r:V->Option Int->Option Int->ae->a'->Prop}(ao:Mh X r)(he:bq X e b6)(aw:Gf X lo dA)(b_:Gf X ak pJ):bq X (.Subscript e (.Slice lo ak none d_) pos) (apT r b6 dA pJ):=by intro pins s σ H Q I h;refine WO (bD (he pins s σ H _ I h) λv s1 hz=>?_);obtain⟨x,H1,aR,b3,bz⟩:=hz;refine wpAny_Slice (bD (aw pins s1 σ H1 _ aR bz) λlL s2⟨l,ah,bH,pl,cv⟩=>bD (b_ pins s2 σ ah _ bH cv) λnQ s3 hz=>?_);obtain⟨u,aZ,cZ,pu,gg⟩:=hz;rw[evalPart_none];refine aT ?_;have jf:Inv X pins σ aZ {s3 with heap:=s3.heap.push {cls:=.type "slice",data:=.fields #[lL,nQ,.none]}}:=cZ.kept (t':=s3.toks) λb ob q=>dm _ q;obtain⟨T,id,kf,dM,bE⟩:=ao pins {s3 with heap:=s3.heap.push {cls:=.type "slice",data:=.fields #[lL,nQ,.none]}} σ aZ x v lL nQ l u s3.heap.objs.size Q jf b3 (Heap.IsSliceOf.new ..) pl pu gg;show aL (aX X.prog X.w) X.A (ë e (.Slice lo ak none d_) v (.ref s3.heap.objs.size)) (iC X pins σ Q) X.dZ {s3 with heap:=s3.heap.push {cls:=.type "slice",data:=.fields #[lL,nQ,.none]}};exact tail_any (ops:=[.ref s3.heap.objs.size,v]) dM kf bE (by with_unfolding_all rfl)
noncomputable def lC(xs:aW)(lo ak:Option Int):List V:=(xs.drop (hk.eg xs.length 0 lo)).take (hk.eg xs.length xs.length ak-hk.eg xs.length 0 lo)
theorem Ą(xs:aW)(lo ak:Option Int):(lC xs lo ak).length<=xs.length:=by unfold lC;rw[lS,Lo];exact eP (Ck _ _) (ac8 _ _)
inductive ajR(K:aY)(x:V)(lo:(Option Int))(ak:(Option Int))(H:ae)(Q:a'):Prop where
 |mk (a:_) (xs:_) (bM:x=.ref a) (bu:bI K H a xs) (bW:¬(hk.eg xs.length 0 lo=0/\hk.eg xs.length xs.length ak=xs.length)) (cW:∀p,H p=none->Q (.ref p) (upd H p (.tup (lC xs lo ak))))
theorem Vq:Mh X (ajR X.K):=by
 intro pins s σ H x v lL nQ lo ak sl Q I bt hs pl pu h;obtain⟨a,xs,rfl,av,hw,q⟩:=h;cases bt;obtain⟨its,r,dM,hz⟩:=I.tuple av;have hlen:its.toArray.size=xs.length:=by rw[fN];exact r.length.symm
 refine⟨"tuple",_,VZ.lookup,dM.typeIs,?_⟩;refine hk.alM dM hs pl pu (by rw[hlen];exact hw) ?_ (by rw[hlen];exact hz);rw[hlen];refine⟨.ref s.heap.objs.size,_,I.laid (t':=s.toks) (o:=.tup (lC xs lo ak)) (λb ob q=>dm _ q) (bU _) ?_,rfl,q _ (I.bf.fresh (bU _))⟩;exact⟨eP (Ą xs lo ak) hz,_,(r.drop (hk.eg xs.length 0 lo)).take (hk.eg xs.length xs.length ak-hk.eg xs.length 0 lo),IsTup.new _ _⟩
noncomputable def rE(n:Nat)(i:Int):Option Nat:=if 0<=i then(if i<n then some i.toNat else none)else if -(n:Int)<=i then some (i+n).toNat else none
noncomputable def gn{α:Type}(xs:List α)(i:Int):Option α:=(rE xs.length i).bind λj=>xs[j]?
end
theorem UJ{n:Nat}{i:Int}{j:Nat}(h:rE n i=some j):seqIndex? i n=some j/\j<n/\-(n:Int)<=i/\i<n:=by
 unfold rE at h;by_cases h0:0<=i
 .rw[bB h0]at h;by_cases ag:i<n
  .rw[bB ag]at h;have e:i.toNat=j:=gV h;exact⟨by rw[Ü h0 ag,e],by omega,by omega,ag⟩
  .rw[bp ag]at h;cases h
 .rw[bp h0]at h;by_cases ag:-(n:Int)<=i
  .rw[bB ag]at h;have e:(i+n).toNat=j:=gV h;exact⟨by rw[Û (by omega) ag,e],by omega,ag,by omega⟩
  .rw[bp ag]at h;cases h
theorem Ke{α:Type}{xs:List α}{i:Int}{v:α}(h:gn xs i=some v):∃j,seqIndex? i xs.length=some j/\xs[j]?=some v/\j<xs.length/\-(xs.length:Int)<=i/\i<xs.length:=by
 unfold gn at h;cases e:rE xs.length i with
 |none=>rw[e]at h;cases h
 |some j=>
  rw[e]at h;obtain⟨ag,ai,bK,c8⟩:=UJ e;exact⟨j,ag,h,ai,bK,c8⟩
theorem il{α:Type}{xs:List α}{j:Nat}{v:α}(h:xs[j]?=some v):gn xs (j:Int)=some v:=by
 have bg:j<xs.length:=(eb.mp h).1;have e:rE xs.length (j:Int)=some j:=by unfold rE;rw[bB (by omega),bB (by omega)];simp
 unfold gn;rw[e];exact h
noncomputable def afm(b:Expr):Prop:=∀o i,Ry b false o i=operate [o,i] (xy o i)
noncomputable def zb(X:bo)(r:lU):Prop:=
 ∀(value slice:Expr)(pins:dP)(s:aK)(σ:St)(H:ae)(x y:V)(v u:Value)(Q:a'),Inv X pins σ H s->RelV x v->RelV y u->r x y H Q->
  Ry slice false v u=operate [v,u] (xy v u)->aL (aX X.prog X.w) X.A (ë value slice v u) (iC X pins σ Q) X.dZ s
noncomputable def acT(X:bo)(id:String)(r:V->List V->ae->a'->Prop):Prop:=
 ∀(pins:dP)(s:aK)(σ:St)(H:ae)(x:V)(xs:aW)(v:Value)(us:c7)(Q:a'),Inv X pins σ H s->RelV x v->cN xs us->r x xs H Q->
  aL (aX X.prog X.w) X.A (call (.builtin id) (v::us)) (iC X pins σ Q) X.dZ s
section
variable{X:bo}{a b:Expr}{bQ c_:TE}{pos:Pos}
theorem bG{r:lU}(ao:zb X r)(aF:bq X a bQ)(aa:bq X b c_)(hs:afm b):bq X (.Subscript a b pos) (r8 r bQ c_):=by intro pins s σ H Q I h;exact WO (Mt aF aa I h λv u s2 x y ah bH bt bC q=>ao a b pins s2 σ ah x y v u Q bH bt bC q (hs _ _))
inductive Xg(K:aY)(x:ar.V)(y:ar.V)(H:ae)(Q:a'):Prop where
 |mk (p:_) (xs:_) (i:_) (v:_) (bM:x=.ref p) (bu:y=.int i) (bW:aC K H p xs) (cW:gn xs i=some v) (dD:Q v H)
inductive Xh(K:aY)(x:ar.V)(y:ar.V)(H:ae)(Q:a'):Prop where
 |mk (p:_) (xs:_) (i:_) (v:_) (bM:x=.ref p) (bu:y=.int i) (bW:bI K H p xs) (cW:gn xs i=some v) (dD:Q v H)
inductive ajS(x:ar.V)(y:ar.V)(H:ae)(Q:a'):Prop where
 |mk (z:_) (i:_) (c:_) (bM:x=.str z) (bu:y=.int i) (bW:z.length<=sizeLine) (cW:gn z.cps.toList i=some c) (dD:Q (.str ⟨#[c]⟩) H)
theorem e3:zb X (Xg X.K):=by
 intro value slice pins s σ H x y v u Q I bt bC h hs;obtain⟨p,xs,i,z,rfl,rfl,a8,he,q⟩:=h;cases bt;obtain⟨t,rfl⟩:=bC;obtain⟨its,r,pl,hz⟩:=I.list a8;obtain⟨j,ag,ai,bK,c8,dX⟩:=Ke he;obtain⟨w,G8,hy⟩:=r.get ai;have aw:=r.length;have aM:=yj;have fin:iC X pins σ Q w s:=⟨z,H,I,hy,q⟩
 by_cases h0:0<=i
 .have bg:i.toNat=j:=by rw[Ü h0 dX]at ag;exact gV ag
  exact item_listR pl.isList h0 (by omega) (by rw[bg];simpa using G8) fin hs
 .have bg:(i+(its.toArray.size:Int)).toNat=j:=by rw[Û (by omega) c8]at ag;rw[fN,<-aw];exact gV ag
  exact apL (x:=w) pl.isList.typeIs apH.lookup
   (wpAny_getItem_list_neg (Q:=λr s'=>r=w/\iC X pins σ Q r s') pl.isList (by omega) (by rw[fN]<;>omega) (by omega) (by rw[bg];simpa using G8) ⟨rfl,fin⟩) hs
theorem c1:zb X (Xh X.K):=by
 intro value slice pins s σ H x y v u Q I bt bC h hs;obtain⟨p,xs,i,z,rfl,rfl,a8,he,q⟩:=h;cases bt;obtain⟨t,rfl⟩:=bC;obtain⟨its,r,pl,hz⟩:=I.tuple a8;obtain⟨j,ag,ai,bK,c8,dX⟩:=Ke he;obtain⟨w,G8,hy⟩:=r.get ai;have aw:=r.length;have aM:=yj;have fin:iC X pins σ Q w s:=⟨z,H,I,hy,q⟩
 exact apL (x:=w) pl.typeIs slot_tuple_getitem.lookup
  (getItem_tuple (j:=j) (Q:=λr s'=>r=w/\iC X pins σ Q r s') pl (by omega) (by omega) (by rw[fN,<-aw];exact ag) (by simpa using G8) ⟨rfl,fin⟩) hs
theorem ag4:zb X ajS:=by
 intro value slice pins s σ H x y v u Q I bt bC h hs;obtain⟨z,i,c,rfl,rfl,hz,he,q⟩:=h;obtain⟨t,rfl⟩:=bt;obtain⟨t',rfl⟩:=bC;obtain⟨j,ag,ai,bK,c8,dX⟩:=Ke he;have aw:z.cps.toList.length=z.length:=by simp[Str.length]
 rw[aw]at ag c8 dX;have aM:=yj;exact tail_any (typeIs_str s z t) slot_str_getitem.lookup (getItem_str (c:=c) (by
  have az:decide (i < -(2 ^ 63:Int))=false:=dn (by omega);have aB:decide (i≥2 ^ 63)=false:=dn (by omega);rw[az,aB,Ŝ]) (by rw[ag];simpa using ai) ⟨.str ⟨#[c]⟩,H,I.tok _,⟨_,rfl⟩,q⟩) hs
theorem aaE(its:c7)(n j:Nat)(u:Value):nZ (·.setIfInBounds j u) {cls:=.type "list",data:=.seq its.toArray n}={cls:=.type "list",data:=.seq (its.set j u).toArray n}:=by simp[nZ]
theorem Inv.lst{H:ae}{s:aK}{xs:aW}(I:Inv X pins σ H s)(h:H p=some (.lst xs)):
  ∃(its:c7)(n:Nat),cN xs its/\s.heap.get? p=some {cls:=.type "list",data:=.seq its.toArray n}/\xs.length<=sizeLine:=by obtain⟨z,its,n,r,e⟩:=I.bf p _ h;exact⟨its,n,r,e,z⟩
theorem Inv.anS{H:ae}{s:aK}{ys:aW}{its its':c7}{n i':Nat}{f:Obj->Obj}(I:Inv X pins σ H s)(h:H p=some (.lst xs))(aU:s.heap.get? p=some {cls:=.type "list",data:=.seq its.toArray n})(hf:f {cls:=.type "list",data:=.seq its.toArray n}={cls:=.type "list",data:=.seq its'.toArray i'})(r:cN ys its')(hz:ys.length<=sizeLine)(t:Nat):
  Inv X pins σ (upd H p (.lst ys)) {s with heap:=s.heap.update p f,toks:=t}:=by
 have e:(s.heap.update p f).get? p=some {cls:=.type "list",data:=.seq its'.toArray i'}:=by rw[kr f aU (by rw[hf]<;>rfl),hf]
 refine I.write (x:=p) (e:=p) (by rw[h];trivial) (.inl rfl) (λb u aa q=>(je _ _ (c2 aa)).trans q) ⟨_,e⟩ ?_;exact⟨hz,its',i',r,e⟩
inductive aif(o:V)(i:V)(v:V)(H:ae)(Q:((ae->Prop))):Prop where
 |mk (p:_) (xs:_) (k:_) (j:_) (bM:o=.ref p) (bu:i=.int k) (bW:H p=some (.lst xs)) (cW:rE xs.length k=some j) (dD:Q (upd H p (.lst (xs.set j v))))
theorem set_list:Xf X aif:=by
 intro pins s σ H o i v fC i4 u Q I apq apo cf h;obtain⟨p,xs,k,j,rfl,rfl,aN,bg,q⟩:=h;cases apq;obtain⟨t,rfl⟩:=apo;obtain⟨its,n,r,aU,hz⟩:=I.lst aN;obtain⟨ag,ai,bK,c8⟩:=UJ bg;have aw:=r.length;have aM:=yj;have p0:Inv X pins σ (upd H p (.lst (xs.set j v))) {s with heap:=s.heap.update p (nZ (·.setIfInBounds j u))}:=
  I.anS aN aU (aaE its n j u) (r.set cf j) (by rw[List.length_set];exact hz) s.toks
 by_cases h0:0<=k
 .have aP:k.toNat=j:=by rw[Ü h0 c8]at ag;exact gV ag
  exact PySem.W.ki_setAt aU h0 (by omega) (by rw[fN,<-aw];exact c8) (by rw[aP];exact⟨_,p0,q⟩)
 .have aP:(k+(its.toArray.size:Int)).toNat=j:=by rw[Û (by omega) bK]at ag;rw[fN,<-aw];exact gV ag
  exact PySem.W.ki_setBack aU (by omega) (by rw[fN,<-aw];exact bK) (by omega) (by rw[aP];exact⟨_,p0,q⟩)
theorem Vm(i:Int)(n d:Nat):max 0 (min (if i<0 then i+(n:Int)else i) (n:Int))=((hk.eg n d (some i):Nat):Int):=by
 show _=(((if i<0 then(i+(n:Int)).toNat else min i.toNat n):Nat):Int);by_cases h:i<0
 .rw[bB h,bB h,aa6 (Ui (Int.add_le_add_right (Uh h) _) (Int.le_of_eq (nc _))),abb,Int.max_comm]
 .have h0:0<=i:=aa8.mp h;rw[bp h,bp h,hk.XX,ug h0,Int.max_eq_right (Int.le_min.mpr ⟨h0,Uj _⟩)]
theorem Ō(lo ak:Option Int)(n:Nat):(à lo ak none n).1=((hk.eg n 0 lo:Nat):Int)/\(à lo ak none n).2.1=((hk.eg n n ak:Nat):Int)/\(à lo ak none n).2.2=1:=by
 refine⟨?_,?_,rfl⟩
 .cases lo with
  |none=>rfl
  |some i=>exact Vm i n 0
 .cases ak with
  |none=>rfl
  |some i=>exact Vm i n n
theorem aqN(its:c7)(lo ak:Option Int):slicePick its.toArray lo ak none=((its.drop (hk.eg its.length 0 lo)).take (hk.eg its.length its.length ak-hk.eg its.length 0 lo)).toArray:=by obtain⟨ag,ai,bK⟩:=Ō lo ak its.toArray.size;unfold slicePick;rw[ag,ai,bK];simp only[sliceRange_one,pick_run,fN]<;>rfl
inductive ajT(K:aY)(x:V)(lo:(Option Int))(ak:(Option Int))(H:ae)(Q:a'):Prop where
 |mk (a:_) (xs:_) (bM:x=.ref a) (bu:aC K H a xs) (bW:∀p,H p=none->Q (.ref p) (upd H p (.lst (lC xs lo ak))))
theorem UK:Mh X (ajT X.K):=by intro pins s σ H x v lL nQ lo ak sl Q I bt hs pl pu h;obtain⟨a,xs,rfl,av,q⟩:=h;cases bt;obtain⟨its,r,dM,hz⟩:=I.list av;have hlen:=r.length;refine⟨"list",_,apH.lookup,dM.isList.typeIs,?_⟩;refine wpAny_getItem_list_slice dM.isList hs pl pu .none (by simp) ?_ (by rw[fN]<;>omega);rw[aqN,<-hlen];refine⟨.ref s.heap.objs.size,_,I.laid (t':=s.toks) (o:=.lst (lC xs lo ak)) (λb ob q=>dm _ q) (bU _) ?_,rfl,q _ (I.bf.fresh (bU _))⟩;exact⟨eP (Ą xs lo ak) hz,_,0,(r.drop (hk.eg xs.length 0 lo)).take (hk.eg xs.length xs.length ak-hk.eg xs.length 0 lo),fM _ rfl⟩
noncomputable def rP:V->Bool
 |.bc=>true
 |.aA _=>true
 |.int _=>true
 |.str _=>true
 |_=>false
noncomputable def uQ:V->V->Bool
 |.bc,.bc=>true
 |.aA a,.aA b=>a==b
 |.aA a,.int b=>(if a then 1 else 0)==b
 |.int a,.aA b=>a==(if b then 1 else 0)
 |.int a,.int b=>a==b
 |.str a,.str b=>a==b
 |_,_=>false
theorem ag5(bC:RelV y u)(bt:RelV x v)(alD:rP y=true)(oa:rP x=true):ae3 A s u v (uQ y x):=by
 cases y with
 |bc=>
  cases bC;cases x with
  |bc=>cases bt;exact SeqAt.EqAt.same _
  |aA b=>cases bt;exact SeqAt.EqAt.none_bool b
  |int b=>obtain⟨t,rfl⟩:=bt;exact SeqAt.EqAt.none_int b t
  |str b=>obtain⟨t,rfl⟩:=bt;exact SeqAt.EqAt.none_str b t
  |_=>exact bx (show false=true from oa) fU
 |aA a=>
  cases bC;cases x with
  |bc=>cases bt;exact SeqAt.EqAt.bool_none a
  |aA b=>cases bt;exact SeqAt.EqAt.bool_bool a b
  |int b=>obtain⟨t,rfl⟩:=bt;exact SeqAt.EqAt.bool_int a b t
  |str b=>obtain⟨t,rfl⟩:=bt;exact SeqAt.EqAt.bool_str a b t
  |_=>exact bx (show false=true from oa) fU
 |int a=>
  obtain⟨t',rfl⟩:=bC;cases x with
  |bc=>cases bt;exact SeqAt.EqAt.int_none a t'
  |aA b=>cases bt;exact SeqAt.EqAt.int_bool a t' b
  |int b=>obtain⟨t,rfl⟩:=bt;exact SeqAt.EqAt.int_int a t' b t
  |str b=>obtain⟨t,rfl⟩:=bt;exact ae4 a t' b t
  |_=>exact bx (show false=true from oa) fU
 |str a=>
  obtain⟨t',rfl⟩:=bC;cases x with
  |bc=>cases bt;exact SeqAt.EqAt.str_none a t'
  |aA b=>cases bt;exact SeqAt.EqAt.str_bool a t' b
  |int b=>obtain⟨t,rfl⟩:=bt;exact ae5 a t' b t
  |str b=>obtain⟨t,rfl⟩:=bt;exact SeqAt.EqAt.str_str a t' b t
  |_=>exact bx (show false=true from oa) fU
 |_=>exact bx (show false=true from alD) fU
noncomputable def mM(x:V)(u:Value):Bool:=match u with
 |.none=>uQ .bc x
 |.bool b=>uQ (.aA b) x
 |.int i _=>uQ (.int i) x
 |.str z _=>uQ (.str z) x
 |_=>false
theorem Vn(r:RelV y u)(f:rP y=true):mM x u=uQ y x:=by
 cases y with
 |bc=>cases r;rfl
 |aA b=>cases r;rfl
 |int i=>obtain⟨t,rfl⟩:=r;rfl
 |str z=>obtain⟨t,rfl⟩:=r;rfl
 |_=>exact bx (show false=true from f) fU
theorem Eh:∀{xs:aW}{us:c7},cN xs us->xs.all rP=true->us.any (mM x)=xs.any λy=>uQ y x
 |_,_,.nil,_=>rfl
 |y::xs,u::us,.cons r t,f=>by rw[abO,iB]at f;rw[F3,F3,Vn r f.1,Eh t f.2]
theorem D6(bt:RelV x v)(oa:rP x=true):∀{xs:aW}{us:c7},cN xs us->xs.all rP=true->∀u∈us,ae3 A s u v (mM x u)
 |_,_,.nil,_=>λu b_=>by cases b_
 |y::xs,u::us,.cons r t,f=>λu' b_=>by
  rw[abO,iB]at f;rcases dv.mp b_ with rfl|b_
  .rw[Vn r f.1];exact ag5 r bt f.1 oa
  .exact D6 bt oa t f.2 u' b_
noncomputable def rC(x:V)(xs:aW):Bool:=xs.any λy=>uQ y x
inductive Ê(K:aY)(neg:Bool)(x:ar.V)(y:ar.V)(H:ae)(Q:a'):Prop where
 |mk (p:_) (xs:_) (bM:y=.ref p) (bu:(aC K H p xs\/bI K H p xs)) (bW:rP x=true) (cW:xs.all rP=true) (dD:Q (.aA (if neg then !rC x xs else rC x xs)) H)
theorem Ņ:fO X (gA .In) (Ê X.K false):=by
 intro pins s σ H x y v u Q I bt bC h;obtain⟨p,xs,rfl,a8,oa,fs,q⟩:=h;cases bC;rcases a8 with a8|a8
 .obtain⟨its,r,pl,hz⟩:=I.list a8;refine SeqAt.in_listAt (mM x) pl.isList (λw hw=>D6 bt oa r fs w (by simpa using hw)) ⟨.aA _,H,I,rfl,?_⟩;rw[show its.toArray.any (mM x)=its.any (mM x) by simp,Eh r fs];exact q
 .obtain⟨its,r,pl,hz⟩:=I.tuple a8;refine SeqAt.in_tupleAt (mM x) pl (λw hw=>D6 bt oa r fs w (by simpa using hw)) ⟨.aA _,H,I,rfl,?_⟩;rw[show its.toArray.any (mM x)=its.any (mM x) by simp,Eh r fs];exact q
theorem Ö:fO X (gA .NotIn) (Ê X.K true):=by
 intro pins s σ H x y v u Q I bt bC h;obtain⟨p,xs,rfl,a8,oa,fs,q⟩:=h;cases bC;rcases a8 with a8|a8
 .obtain⟨its,r,pl,hz⟩:=I.list a8;refine SeqAt.notIn_listAt (mM x) pl.isList (λw hw=>D6 bt oa r fs w (by simpa using hw)) ⟨.aA _,H,I,rfl,?_⟩;rw[show its.toArray.any (mM x)=its.any (mM x) by simp,Eh r fs];exact q
 .obtain⟨its,r,pl,hz⟩:=I.tuple a8;refine SeqAt.notIn_tupleAt (mM x) pl (λw hw=>D6 bt oa r fs w (by simpa using hw)) ⟨.aA _,H,I,rfl,?_⟩;rw[show its.toArray.any (mM x)=its.any (mM x) by simp,Eh r fs];exact q
inductive ajU(K:aY)(xs:aW)(H:ae)(Q:a'):Prop where
 |mk (p:_) (ys:_) (bM:xs=[.ref p]) (bu:(aC K H p ys\/bI K H p ys)) (bW:Q (.int ys.length) H)
theorem fQ:jV X (.builtin "len") (ajU X.K):=by
 intro pins s σ H xs us Q I r h;obtain⟨p,ys,rfl,a8,q⟩:=h;obtain⟨u,rfl,bt⟩:=vals1 r;cases bt;have aM:=yj;rcases a8 with a8|a8
 .obtain⟨its,b9,pl,hz⟩:=I.list a8;have hlen:=b9.length;exact Calls.call_len_list pl.isList (by simp only[fN]<;>omega) ⟨.int ys.length,H,I.tok _,⟨s.toks+1,by rw[fN,hlen]⟩,q⟩
 .obtain⟨its,b9,pl,hz⟩:=I.tuple a8;have hlen:=b9.length;exact len_tuple pl (by simp only[fN]<;>omega) ⟨.int ys.length,H,I.tok _,⟨s.toks+1,by rw[fN,hlen]⟩,q⟩
theorem ō:jV X (.builtin "len") (λxs H Q=>∃z,xs=[.str z]/\z.length<=sizeLine/\Q (.int z.length) H):=by intro pins s σ H xs us Q I r h;obtain⟨z,rfl,hz,q⟩:=h;obtain⟨u,rfl,t,rfl⟩:=vals1 r;have aM:=yj;exact len_str (by omega) ⟨.int z.length,H,I.tok _,⟨_,rfl⟩,q⟩
theorem u0:jV X (.type "list") (λxs H Q=>∃p ys,xs=[.ref p]/\(aC X.K H p ys\/bI X.K H p ys)/\∀l,H l=none->Q (.ref l) (upd H l (.lst ys))):=by
 intro pins s σ H xs us Q I r h;obtain⟨p,ys,rfl,a8,q⟩:=h;obtain⟨u,rfl,bt⟩:=vals1 r;cases bt;have fin:∀(its:c7),cN ys its->ys.length<=sizeLine->∀(h':Heap)(jM:Nat),(∀b cB,s.heap.get? b=some cB->h'.get? b=some cB)->
   h'.get? s.heap.objs.size=some {cls:=.type "list",dict:=none,data:=.seq its.toArray jM,slots:=#[]}->iC X pins σ Q (.ref s.heap.objs.size) {s with heap:=h'}:=λits b9 hz h' jM cI e=>
  ⟨.ref s.heap.objs.size,_,I.laid (t':=s.toks) cI (bU _) (show eI X.prog X.w _ h' _ (.lst ys)from⟨hz,its,jM,b9,e⟩),rfl,q _ (I.bf.fresh (bU _))⟩
 rcases a8 with a8|a8
 .obtain⟨its,b9,pl,hz⟩:=I.list a8;have hlen:=b9.length;obtain⟨o,aU,aq,n,hd⟩:=pl.isList;exact call_list_seq p (.inl rfl) aU aq hd (λh' jM cI e=>fin its b9 hz h' jM cI e) (by simp only[fN]<;>omega)
 .obtain⟨its,b9,pl,hz⟩:=I.tuple a8;have hlen:=b9.length;obtain⟨o,aU,aq,n,hd⟩:=pl;exact call_list_seq p (.inr rfl) aU aq hd (λh' jM cI e=>fin its b9 hz h' jM cI e) (by simp only[fN]<;>omega)
theorem aqO:jV X (.type "tuple") (λxs H Q=>∃p ys,xs=[.ref p]/\((aC X.K H p ys/\∀l,H l=none->Q (.ref l) (upd H l (.tup ys)))\/(bI X.K H p ys/\Q (.ref p) H))):=by
 intro pins s σ H xs us Q I r h;obtain⟨p,ys,rfl,h⟩:=h;obtain⟨u,rfl,bt⟩:=vals1 r;cases bt;rcases h with⟨a8,q⟩|⟨a8,q⟩
 .obtain⟨its,b9,pl,hz⟩:=I.list a8;have hlen:=b9.length;refine call_tuple_list pl.isList (λh' cI=>?_) (by simp only[fN]<;>omega);have aR:Inv X pins σ H {s with heap:=h'}:=I.kept (t':=s.toks) cI;have bH:Inv X pins σ (upd H h'.objs.size (.tup ys)) {s with heap:=h'.push {cls:=.type "tuple",data:=.seq its.toArray}}:=
   aR.laid (t':=s.toks) (λb o e=>dm _ e) (bU _) (show eI X.prog X.w _ _ _ (.tup ys)from⟨hz,its,b9,IsTup.new _ _⟩)
  exact⟨.ref h'.objs.size,_,bH,rfl,q _ (aR.bf.fresh (bU _))⟩
 .obtain⟨its,b9,pl,hz⟩:=I.tuple a8;exact call_tuple_same pl ⟨.ref p,H,I,rfl,q⟩
noncomputable def ø(K:aY)(T:String)(x:V)(H:ae):Prop:=match x with
 |.str _=>T="str"
 |.int _=>T="int"
 |.ref p=>(T="list"/\∃xs,aC K H p xs)\/(T="tuple"/\∃o,K.lookup p=some o/\o.cls=.type "tuple"/\o.dict=none)\/
   (T="dict"/\((∃kvs,H p=some (.bN kvs))\/∃kvs,H p=some (.d4 kvs)))\/(T="set"/\∃S n,H p=some (.set S n))
 |_=>False
theorem ag6{s:aK}(I:Inv X pins σ H s)(r:RelV x v)(ty:ø X.K T x H):
  s.TypeIs v T/\∀a,v=.ref a->∃ob,s.heap.get? a=some ob/\ob.dict=none:=by
 cases x with
 |str z=>
  obtain⟨t,rfl⟩:=r;cases(show T="str" from ty);exact⟨typeIs_str s z t,λ_ e=>nomatch e⟩
 |int i=>
  obtain⟨t,rfl⟩:=r;cases(show T="int" from ty);exact⟨typeIs_int s i t,λ_ e=>nomatch e⟩
 |ref p=>
  cases r;rcases ty with⟨rfl,xs,a8⟩|⟨rfl,o,aP,aq,hd⟩|⟨rfl,aP⟩|⟨rfl,S,n,aP⟩
  .obtain⟨its,_,pl,_⟩:=I.list a8;refine⟨pl.isList.typeIs,λa e=>?_⟩;cases e;obtain⟨o,n,e,c,hd,_⟩:=pl;exact⟨o,e,hd⟩
  .refine⟨⟨o,I.eX p o aP,aq⟩,λa e=>?_⟩;cases e;exact⟨o,I.eX _ o aP,hd⟩
  .have z:∃o,s.heap.get? p=some o/\o.ExactDict:=by
    rcases aP with⟨kvs,aP⟩|⟨kvs,aP⟩
    .obtain⟨_,_,_,_,o,_,_,e,ex,_⟩:=I.bf p _ aP;exact⟨o,e,ex⟩
    .obtain⟨_,_,_,_,o,_,_,e,ex,_⟩:=I.bf p _ aP;exact⟨o,e,ex⟩
   obtain⟨o,e,ex⟩:=z;refine⟨⟨o,e,ex.1⟩,λa aB=>?_⟩;cases aB;exact⟨o,e,ex.2.1⟩
  .obtain⟨o,_,_,_,e,ex,_⟩:=I.bf p _ aP;refine⟨⟨o,e,ex.1⟩,λa aB=>?_⟩;cases aB;exact⟨o,e,ex.2.1⟩
 |_=>exact iU ty
noncomputable def apQ(K:aY)(T:String)(r:V->List V->ae->a'->Prop)(to:TE)(t:fP):TE:=λσ H Q=>to σ H λx H1=>ø K T x H1/\t σ H1 λxs ah=>r x xs ah Q
variable{o e:Expr}{es:hF}{to:TE}{t:fP}{name:Str}{fq fz:Pos}{T id:String}{r:V->List V->ae->a'->Prop}
theorem tQ(fj:PlainAttrs T)(slot:Slot T name id)(xN:typeOf (.builtin id)=pure (.type "method_descriptor"))(hm:acT X id r)(aU:bq X o to)(aF:gw X (e::es) t)(amb:zQ o name X.env (eval o X.env)=eval o X.env:=by rfl)(amt:((hp fz (dY (e::es) X.env)).all (λx=>!x.1)&&(lY fz (l6 [] X.env)).all (λx=>x.1.isSome)
   && decide ((e::es).length+([]:List wy).length+(if([]:List wy).isEmpty then 0 else 1)<30))=true:=by rfl)(amL:(fq.endLine==fz.line)=true:=by rfl)(hs:dY (e::es) X.env=(false,eval e X.env)::dY es X.env:=by rfl)(am1:(hp fz (dY es X.env)).any (·.1)=false:=by rfl):
  bq X (.Call (.Attribute o name fq) (e::es) [] fz) (apQ X.K T r to t):=by intro pins s σ H Q I h;refine wpAny_Call_method_late amb amt amL rfl (bD (aU pins s σ H _ I h) λv s1 hz=>?_);obtain⟨x,H1,aR,b3,ty,bz⟩:=hz;obtain⟨ag,ai⟩:=ag6 aR b3 ty;refine⟨T,id,fj,slot,xN,ag,ai,?_⟩;have l2:=aF fz pins s1 σ H1 _ aR bz;rw[hs]at l2⊢;refine Fg (by show(false||(hp fz (dY es X.env)).any (·.1))=false;rw[am1]<;>rfl) (BO ?_);exact bD l2 λus s2⟨vs,ah,bH,dh,cv⟩=>hm pins s2 σ ah x vs v us Q bH b3 dh cv
end
noncomputable def Vl(X:bo)(id:String)(r:V->List V->ae->a'->Prop):Prop:=
 ∀(pins:dP)(s:aK)(σ:St)(H:ae)(x:V)(xs:aW)(v:Value)(us:c7)(Q:a'),Inv X pins σ H s->RelV x v->cN xs us->r x xs H Q->
  aL (aX X.prog X.w) X.A (call (.builtin id) (v::us)) (iC X pins σ Q) X.dZ s
theorem cN.one:∀{x:V}{us:c7},cN [x] us->∃u,us=[u]/\RelV x u
 |_,_,.cons r .nil=>⟨_,rfl,r⟩
section
variable{X:bo}{pins:dP}{σ:St}{H:ae}{s:aK}{l b:Addr}{xs ys zs:aW}
theorem Inv.δ{its its':c7}{n:Nat}{f:Array Value->Array Value}{t':Nat}(I:Inv X pins σ H s)(lb:H l=some (.lst xs))(e:s.heap.get? l=some {cls:=.type "list",data:=.seq its.toArray n})(hf:f its.toArray=its'.toArray)(bj:cN ys its')(hz:ys.length<=sizeLine):
  Inv X pins σ (upd H l (.lst ys)) {s with heap:=s.heap.update l (nZ f),toks:=t'}:=by have q:=PySem.IsL.update e f;rw[hf]at q;refine I.write (x:=l) (e:=l) (by rw[lb];exact trivial) (.inl rfl) (λbr u aa b_=>(je s.heap (nZ f) (c2 aa)).trans b_) ⟨_,q⟩ ?_;exact⟨hz,its',_,bj,q⟩
theorem Inv.Z'{its:c7}{t':Nat}(I:Inv X pins σ H s)(bj:cN ys its)(hz:ys.length<=sizeLine):
  Inv X pins σ (upd H s.heap.objs.size (.lst ys)) {s with heap:=s.heap.push {cls:=.type "list",data:=.seq its.toArray},toks:=t'}:=
 I.laid (λ_ _ q=>dm _ q) (bU _) ⟨hz,its,0,bj,fM _ rfl⟩
theorem Inv.fresh(I:Inv X pins σ H s):H s.heap.objs.size=none:=I.bf.fresh (bU _)
theorem Inv.DN(I:Inv X pins σ H s)(lb:H l=some (.lst xs)):xs.length<=sizeLine/\∃(its:c7)(n:Nat),cN xs its/\xs.length=its.length/\s.heap.get? l=some {cls:=.type "list",data:=.seq its.toArray n}:=by obtain⟨z,its,n,r,e⟩:=I.bf l _ lb;exact⟨z,its,n,r,r.length,e⟩
theorem acX{n:Nat}(h:n<=sizeLine):S0 n=false:=by unfold S0;exact dn (by omega)
end
section
variable{X:bo}
inductive afn(x:V)(vs:aW)(H:ae)(Q:a'):Prop where
 |mk (l:_) (xs:_) (y:_) (bM:x=.ref l) (bu:vs=[y]) (bW:H l=some (.lst xs)) (cW:xs.length<sizeLine) (dD:Q .bc (upd H l (.lst (xs++[y]))))
theorem tr:Vl X "list.append" afn:=by intro pins s σ H x vs v us Q I bt cf h;obtain⟨l,xs,y,rfl,rfl,lb,hz,q⟩:=h;cases bt;obtain⟨u,rfl,ez⟩:=cf.one;obtain⟨z,its,n,r,aw,e⟩:=I.DN lb;refine call_meets F.slot_list_append ⟨_,e,rfl⟩ F.entry_list_append (F.args_list_append_2 _ _) (PySem.list_append l its.toArray n u (by rw[fN];omega)) ⟨e,?_⟩;refine⟨.bc,_,I.δ (its':=its++[u]) lb e (by simp) (r.append (.cons ez .nil)) ?_,rfl,q⟩;rw[hD,List.length_singleton];omega
inductive afo(x:V)(vs:aW)(H:ae)(Q:a'):Prop where
 |mk (l:_) (b:_) (xs:_) (zs:_) (bM:x=.ref l) (bu:vs=[.ref b]) (bW:H l=some (.lst xs)) (cW:H b=some (.lst zs)) (dD:xs.length+zs.length<=sizeLine) (eS:Q .bc (upd H l (.lst (xs++zs))))
theorem abi:Vl X "list.extend" afo:=by
 intro pins s σ H x vs v us Q I bt cf h;obtain⟨l,b,xs,zs,rfl,rfl,lb,NJ,hz,q⟩:=h;cases bt;obtain⟨u,rfl,ez⟩:=cf.one;cases ez;obtain⟨z,its,n,r,aw,e⟩:=I.DN lb;obtain⟨bu,rD,c',dh,iK,aB⟩:=I.DN NJ;have hsz:its.toArray.size+rD.toArray.size<=sizeLine:=by rw[fN,fN];omega
 have amM:¬(!its.toArray.isEmpty&&S0 (its.toArray.size+rD.toArray.size))=true:=by rw[acX hsz,Bool.and_false];exact fU
 refine call_meets F.slot_list_extend ⟨_,e,rfl⟩ F.entry_list_extend (F.args_list_extend_2 _ _)
  (AutoSeq1.list_extend_list_list_0 l its.toArray n b rD.toArray c' amM (by rw[fN];omega) (by omega)) ⟨e,aB,?_⟩
 refine⟨.bc,_,I.δ (its':=its++rD) lb e (by simp) (r.append dh) ?_,rfl,q⟩;rw[hD];omega
inductive ajV(x:ar.V)(y:ar.V)(H:ae)(Q:a'):Prop where
 |mk (l:_) (b:_) (xs:_) (zs:_) (bM:x=.ref l) (bu:y=.ref b) (bW:H l=some (.lst xs)) (cW:H b=some (.lst zs)) (dD:xs.length+zs.length<=sizeLine) (eS:∀p,H p=none->Q (.ref p) (upd H p (.lst (xs++zs))))
theorem VI:fO X (uD .Add) ajV:=by
 intro pins s σ H x y v u Q I bt bC h;obtain⟨l,b,xs,zs,rfl,rfl,lb,NJ,hz,q⟩:=h;cases bt;cases bC;obtain⟨z,its,n,r,aw,e⟩:=I.DN lb;obtain⟨bu,rD,c',dh,iK,aB⟩:=I.DN NJ;refine PySem.P.add_list e aB ?_ (by rw[fN,fN];omega);have a4:its.toArray++rD.toArray=(its++rD).toArray:=by simp
 rw[a4];exact⟨.ref _,_,I.Z' (t':=s.toks) (r.append dh) (by rw[hD];omega),rfl,q _ I.fresh⟩
end
end ar
namespace SV
open PySem PySem.W PySem.Calls PyProof.Rows
theorem aqg:∀(ns:fp)(vs:c7),WellAll P h vs (ns.map WData.int)->Fw vs ns:=by
 intro ns
 induction ns with
 |nil=>
  intro vs w;rw[Lq]at w;cases w;exact .nil
 |cons n ns a3=>
  intro vs w;rw[hE]at w;cases w with
  |cons a b=>
   cases a;exact .cons _ _ (a3 _ b)
theorem abj{l:OpenLaw}{n:Nat}(aM:l.most=some n){h:Heap}{args:List WData}(HG:l.row.toRowW.claim.pre args=true)(O0:WellAll P h vals args):
  ∃a vs ns,vals=[cu a]/\args=[WData.list (ns.map WData.int)]/\h.get? a=some {cls:=.type "list",data:=.seq vs.toArray}/\Fw vs ns/\ns.length<=n:=by
 have xM:WShape.hasAll [] args [.list .int]=true:=(pre_splitW HG).1;have aq:l.pre.holds [] {args:=args}=true:=(pre_splitW HG).2;obtain⟨d,r,rfl,ag,ai⟩:=hasAllW_cons xM;obtain rfl:=hasAllW_nil ai;obtain⟨xs,rfl,bK⟩:=hasW_list ag;obtain⟨ns,rfl⟩:=items_int bK;have hlen:ns.length<=n:=by
  unfold OpenLaw.pre at aq;have c8:(WTm.not (.lt (.lit (.int (n:Int))) (.len (.arg 0)))).holds [] {args:=[.list (ns.map .int)]}=true:=by have c8:=(holds_andW aq).1;rw[aM]at c8;exact c8
  have dX:=condW_of c8 (w_not (w_lt w_lit (w_len_list (w_arg rfl))));rw[bk]at dX;refine Nat.le_of_not_lt λq=>?_;have gs:(n:Int)<((ns.length:Nat):Int):=by omega
  first
   | (rw[cT gs]at dX;exact bx dX (by decide))
   | (simp at dX;omega)
 cases O0 with
 |cons gF g4=>
  cases g4;cases gF with
  |list aU xE=>exact⟨_,_,ns,rfl,rfl,aU,aqg ns _ xE,hlen⟩
theorem abk(l:OpenLaw)(args:List WData):l.row.toRowW.claim.post args (.bool true) args=true:=
 postW_of (r:=l.row.toRowW) (X:=(true==true))
  (show WShape.has [] (.bool true) .bool=true by first|rfl|decide|simp[WShape.has,WShape.arms,WShape.armsAll])
  (show(WTm.eq .res (.lit (.bool true))).value [] {args:=args,res:=some (.bool true),after:=args}=some (.bool (true==true))from w_eq_bool (w_res rfl) w_lit) rfl
theorem aky{l:OpenLaw}{n:Nat}{zO:cw->Heap->Prop}{uz:bS->Heap->Prop}{d:DefRec}(aM:l.most=some n)(Dm:d.params.defaults=[])(call:∀(w:bS)(ix d2:aK)(mg pz:cw)(jq:Addr)(o:Obj)(pm cd doc:Value)(a:Addr)(vs:c7)(ns:fp),
   Ground q loose [] zO w ix mg pz d2.heap->uz w d2.heap->
   d2.heap.get? jq=some o->o.data=.func (docDef d.name d.params d.body d.scope pm cd doc)->d2.heap.CodeRec cd d.name->mg d.name=some (.ref jq)->
   d2.heap.get? a=some {cls:=.type "list",data:=.seq vs.toArray}->Fw vs ns->ns.length<=n->d2.gens=#[]->
   iH (aX l.prog w) zT (.call (.ref jq) ⟨[.ref a],[]⟩) (λr s'=>r=.ok (.ret (.bool true))/\OldK d2.heap s'.heap/\s'.os=d2.os/\sq s'.gens) d2):
  WalkO q loose zO uz l.row.toRowW d [] (λf vs=>Wd f vs):=by intro w ix d2 mg pz G Y jq o pm cd doc M3 c9 aU hd lg bl Dt bE args vals as HG auP ZK O0 auQ;obtain rfl:M3=.none:=Dflts.none bl Dm;obtain rfl:c9=.none:=Dflts.noKw bl;obtain⟨a,vs,ns,rfl,rfl,OJ,hints,hlen⟩:=abj aM HG O0;refine enter_call (qm (call w ix d2 mg pz jq o pm cd doc a vs ns G Y aU (fd_plain hd) lg Dt OJ hints hlen bE) λr s' a8=>?_);obtain⟨rfl,ai,bK,c8⟩:=a8;exact⟨.inl ⟨.bool true,.bool true,[],rfl,λ_=>rfl,.bool true,abk l _,λ_=>⟨abN,λ_ hm=>(nomatch hm)⟩⟩,ai,bK,c8⟩
end SV
namespace ar
open PySem PySem.Spec PyProof.Rows
theorem ņ:∀{vs:c7}{ns:fp},Fw vs ns->cN (ns.map V.int) vs
 |_,_,.nil=>.nil
 |_,_,.cons n t h=>.cons ⟨t,rfl⟩ (ņ h)
noncomputable def LP(H:ae):Prop:=∀b,H b=none\/∃o xs,H b=some (.fi o (.lst xs))
theorem adl{K:aY}{mg pz:cw}{k:Nat}{d2:aK}{vs:c7}{ns:fp}(oS:K.In d2.heap)(Dv:d2.heap.Ns qF mg)(aa:d2.heap.Ns XU pz)(N3:∀x:Str,x≠"__name__"->pz x=iG x)(amK:d2.heap.NoLimit)(bE:d2.gens=#[])(aF:d2.heap.get? a=some {cls:=.type "list",data:=.seq vs.toArray})(ak:Fw vs ns)(aw:ns.length<=sizeLine)(ao:gC k zT)(F:∀base:Heap,K.In base->base.Ns qF mg->aS P w K mg base CX k jq fd [x] sp)(ame:∀(s:aK)(u:Value),BH s fd ⟨[u],[]⟩ [(x,u)])(pg:∀H:ae,LP H->aC K H a (ns.map V.int)->sp [.ref a] H (λv _=>v=.aA true) λ_ _ _=>False)(NL:∀H e s',CX [] H d2 (λ_ _ _=>False) e s'->False):
  iH (aX P w) zT (.call (.ref jq) ⟨[.ref a],[]⟩) (λr s'=>r=.ok (.ret (.bool true))/\OldK d2.heap s'.heap/\s'.os=d2.os/\sq s'.gens) d2:=by
 have cf:=ņ ak;have anO:=ak.length;have core:∀H:ae,LP H->aC K H a (ns.map V.int)->fE P w H d2.heap->(∀b,H b≠none->b=a)->(H a≠none->K.lookup a=none)->
   iH (aX P w) zT (.call (.ref jq) ⟨[.ref a],[]⟩) (λr s'=>r=.ok (.ret (.bool true))/\OldK d2.heap s'.heap/\s'.os=d2.os/\sq s'.gens) d2:=by
  intro H Hh c4 bf l2 f5;have XS:∀{b:Addr}{o:Obj},d2.heap.get? b=some o->H b=none->(sm d2.heap H).get? b=some o:=λe n=>adb e n;have DX:∀{b:Addr}{o:Obj}{es:Array sy}{ep:Nat},d2.heap.get? b=some o->o.data=.dict es ep->H b=none:=λ{b o es ep}e d=>by
   cases q:H b with
   |none=>rfl
   |some u=>
    have bJ:b=a:=l2 b (by rw[q];simp);subst bJ;rw[aF]at e;cases e;have d':Data.seq vs.toArray _=Data.dict es ep:=d;cases d'
  have Iy:∀{b:Addr}{m:cw},d2.heap.Ns b m->(sm d2.heap H).Ns b m:=λ{b m}⟨o,es,ep,e,d,r⟩=>⟨o,es,ep,XS e (DX e d),d,r⟩
  have YX:K.In (sm d2.heap H):=λb o e=>XS (oS b o e) (by
   cases q:H b with
   |none=>rfl
   |some u=>
    have bJ:b=a:=l2 b (by rw[q];simp);subst bJ;rw[f5 (by rw[q];simp)]at e;cases e)
  have Dg:Mod K mg (sm d2.heap H):=⟨YX,Iy Dv,⟨pz,Iy aa,N3⟩,let⟨anW,ag,ai⟩:=amK;⟨anW,Iy ag,ai⟩⟩
  have cD:wq P w K mg (sm d2.heap H) zT [] d2 H:=⟨rfl,Dg,λb o e=>aeX e,LD (abr _ _),trivial,λb aa=>bx (show b∈([]:cj)from aa) (by simp),bf,.of_eq bE⟩
  refine qm ((F _ YX (Iy Dv)).run zT [] d2 H ⟨[.ref a],[]⟩ [.ref a] [.ref a] _ _ ao cD (ame d2 (.ref a)) (.cons rfl .nil) (pg H Hh c4)) λr s' h=>?_;cases r with
  |error e=>exact(NL H e s' h).elim
  |ok ft=>
   cases ft with
   |next=>exact iU h
   |brk=>exact iU h
   |cont=>exact iU h
   |ret u=>
    obtain⟨v,H',os,bare,un,amV,b9,q⟩:=h;have gs:v=.aA true:=q;subst gs;obtain rfl:u=Ml true:=b9;refine⟨rfl,OldK.of_keep λb o e=>?_,os,bare⟩;cases q:H b with
    |none=>exact un.keep b o e q (by intro z;exact bx (show b∈([]:cj)from z) (by simp)) (by simp)
    |some u=>
     rcases Hh b with z|⟨ob,xs,z⟩
     .rw[q]at z;cases z
     .have bu:=un.jr b ob _ z;obtain⟨az,_⟩:=bf b _ z;obtain⟨aB,_⟩:=amV b _ bu;rw[e]at az;cases az;exact aB
 cases aP:K.lookup a with
 |some o=>
  have e:=oS a o aP;rw[aF]at e;cases e;refine core (λ_=>none) (λ_=>.inl rfl) (.inr ⟨_,vs.toArray,_,aP,rfl,rfl,rfl,by rw[fN,anO];exact aw,by simpa using cf⟩) (λb u z=>by have dk:(none:Option f_)=some u:=z;cases dk) (λb z=>bx rfl z) λz=>bx rfl z
 |none=>
  refine core (λb=>if b=a then some (.fi {cls:=.type "list",data:=.seq vs.toArray} (.lst (ns.map V.int)))else none) (λb=>?_) (.inl (.inr ⟨{cls:=.type "list",data:=.seq vs.toArray},bB rfl⟩)) (λb u z=>?_) (λb z=>?_) λ_=>aP
  .by_cases aa:b=a
   .exact .inr ⟨_,_,bB aa⟩
   .exact .inl (bp aa)
  .by_cases aa:b=a
   .have dk:=(bB aa).symm.trans z;cases dk;subst aa;exact⟨aF,by rw[bk];exact aw,vs,_,cf,aF⟩
   .have dk:=(bp aa).symm.trans z;cases dk
  .by_cases aa:b=a
   .exact aa
   .exact bx (bp aa) z
noncomputable abbrev arx{K:aY}{h:Heap}(_:K.In h):aY:=K
theorem aqm{l:V3}{n k:Nat}{zO:cw->Heap->Prop}{uz:bS->Heap->Prop}{d:DefRec}{K:Params->aY}{CX:bS->pW}{sp:bS->kU}{x:Str}(aM:l.most=some n)(HB:n<=sizeLine)(Dm:d.params.defaults=[])(ao:gC k zT)(NV:∀(w:bS)(h:Heap),uz w h->(K w.params).In h)(F:∀(w:bS)(mg:cw)(jq:Addr)(h:Heap),(K w.params).In h->h.Ns qF mg->mg d.name=some (.ref jq)->
   ∃fd:m_,(∀(s:aK)(u:Value),BH s fd ⟨[u],[]⟩ [(x,u)])/\
    ∀base:Heap,(K w.params).In base->base.Ns qF mg->aS l.prog w (K w.params) mg base (CX w) k jq fd [x] (sp w))(pg:∀(w:bS)(H:ae)(a:Addr)(ns:fp),ns.length<=n->LP H->aC (K w.params) H a (ns.map V.int)->sp w [.ref a] H (λv _=>v=.aA true) λ_ _ _=>False)(NL:∀(w:bS)(H:ae)(s:aK)(e:Value)(s':aK),CX w [] H s (λ_ _ _=>False) e s'->False):
  ad0 q loose zO uz l.row.toRowW d [] (λf vs=>Wd f vs):=by refine SV.aky aM Dm λw ix d2 mg pz jq o pm cd doc a vs ns G Y aU hd lg Dt OJ hints hlen bE=>?_;have oS:=NV w _ Y;obtain⟨fd,aa,ny⟩:=F w mg jq _ oS G.T.g Dt;exact adl oS G.T.g G.T.b G.T.builtins G.T.nolimit bE OJ hints (eP hlen HB) ao ny aa (λH Hh c4=>pg w H a ns hlen Hh c4) λH e s'=>NL w H d2 e s'
noncomputable def fT(s:Stmt)(j:Nat):Stmt:=match s with
 |.ClassDef _ _ _ body _ _ _ _ _ _ _=>body.getD j (.Pass ⟨0,0,0,0⟩)
 |_=>.Pass ⟨0,0,0,0⟩
noncomputable def nz(s:Stmt):Arguments:=match s with
 |.FunctionDef _ a _ _ _ _ _ _ _ _=>a
 |_=>{posonlyargs:=[],args:=[],vararg:=none,kwonlyargs:=[],kw_defaults:=[],kwarg:=none,defaults:=[]}
noncomputable def k_(s:Stmt):List Stmt:=match s with
 |.FunctionDef _ _ b _ _ _ _ _ _ _=>b
 |_=>[]
noncomputable def cn(s:Stmt):Scope:=match s with
 |.FunctionDef _ _ _ _ _ _ sc _ _ _=>sc
 |_=>{kind:=.function,names:=[],isGenerator:=false,isCoroutine:=false}
noncomputable abbrev bh:pW:=λ_ _ _ _ _ _=>False
noncomputable abbrev sz:bX:=λ_ _ _=>False
theorem cm{X:bo}:qG bh X sz:=λ_ _ _ _ _ _ _ h=>h.elim
structure cC(K:aY)(x qual:Str)(st:Stmt)(f:Addr)(fd:m_):Prop where
 ex:∃(km:Value)(cV:Option Addr)(c9 doc pm:Value)(an:Option Addr)(cdv eL:Value)(l_:nj),
  fd=mv x qual (nz st) (k_ st) (cn st) .none c9 doc pm an cdv eL/\K.lookup f=some ⟨km,cV,.func fd,l_⟩/\Cx K cdv qual=true
 cI:mw K (.ref f)=true
section
variable{P:cG}{w:bS}{K:aY}{mg:cw}{base:Heap}
theorem cC.ok{st:Stmt}{ps:cb}{k:Nat}{sp:kU}(F:cC K x qual st f fd)(S:c3 N ps (cn st))(xF:∀(cdv:Value)(A:du)(outer:List Env)(s:aK)(H:ae)(vs:aW)(Q:a')(E:bX),gC k (A.deeper (o_ qual (cn st) s.heap.objs.size f cdv))->sp vs H Q E->
   ∃t,g6 (jB bh P w K mg base N qual (cn st) f cdv A outer s H E).x7 (k_ st) t/\t {b1:=λ_ H'=>Q .bc H',rW:=Q} (start N vs) H)(len:∀vs H Q E,sp vs H Q E->vs.length=ps.length:=by intro _ _ _ _ h;first|(cases h;subst_vars;rfl)|((repeat obtain⟨_,h⟩:=h);subst_vars;rfl)):aS P w K mg base bh (k+1) f fd ps sp:=by obtain⟨km,cV,c9,doc,pm,an,cdv,eL,l_,rfl,lk,lg⟩:=F.ex;refine LC lk lg S len λA outer s H vs Q E ao pg=>?_;obtain⟨t,h,q⟩:=xF cdv A outer s H vs Q E ao pg;exact⟨t,h.x7,q⟩
theorem cC.binds{st:Stmt}{ps:cb}(F:cC K x qual st f fd)(h:∀(c9 doc pm:Value)(an:Option Addr)(cdv eL:Value)(us:c7),us.length=ps.length->GS (mv x qual (nz st) (k_ st) (cn st) .none c9 doc pm an cdv eL) ⟨us,[]⟩=pure (ps.zip us)):Binds K fd ps []:=by obtain⟨km,cV,c9,doc,pm,an,cdv,eL,l_,rfl,lk,lg⟩:=F.ex;exact .all (h c9 doc pm an cdv eL)
theorem xr{st:Stmt}{km:Value}{cV:Option Addr}{l_:nj}{c9:Value}(l:K.lookup f=some ⟨km,cV,.func (mv x qual (nz st) (k_ st) (cn st) .none c9 doc pm an cdv eL),l_⟩)(c:Cx K cdv qual=true)(k:mw K (.ref f)=true):cC K x qual st f (mv x qual (nz st) (k_ st) (cn st) .none c9 doc pm an cdv eL):=⟨⟨km,cV,c9,doc,pm,an,cdv,eL,l_,rfl,l,c⟩,k⟩
theorem iO{A:du}{k:Nat}(ao:gC k A):A.units+1<cLine:=oZ (Nat.add_le_add_left (by decide:1<=64) _) ao.units
theorem fF{n:Nat}(h:n<=1000):n<sizeLine:=oZ h (by decide)
end
section
variable{X:bo}
theorem U(i:Nat)(eW:X.N[i]?=some x:=by rfl)(bj:Mn X.env.scope x:=by first|exact cR rfl|exact o1 (cR rfl)|exact o1 (o1 rfl))(hd:(x==("__debug__":Str))=false:=by decide)(lg:(x==("__classdict__":Str))=false:=by decide):bq X (.Name x pos) (Mo i):=agw eW bj hd lg
theorem fI{A B:Prop}(h:B):if false=true then A else B:=by rw[bp fU];exact h
theorem gD{A B:Prop}(h:A):if true=true then A else B:=by rw[bB rfl];exact h
theorem sd{c A B:Prop}[Decidable c](ag:c->A)(ai:¬c->B):if c then A else B:=by
 by_cases h:c
 .rw[bB h];exact ag h
 .rw[bp h];exact ai h
theorem yN{c A B:Prop}[Decidable c](aq:c)(h:B):if(!decide c)=true then A else B:=by rw[cT aq];exact fI h
noncomputable def aH(H H':ae):Prop:=∀b o,H b=some o->H' b=some o
theorem aH.refl(H:ae):aH H H:=λ_ _ h=>h
theorem aH.trans(a:aH H H1)(b:aH H1 ah):aH H ah:=λc o h=>b c o (a c o h)
theorem aH.free{H H':ae}(e:aH H H')(h:H' l=ads):H l=ads:=by
 cases q:H l with
 |none=>rfl
 |some o=>
  rw[e l o q]at h;cases h
theorem aH.seq{K:aY}(e:aH H H')(h:aC K H a xs):aC K H' a xs:=by
 rcases h with(h|⟨o,h⟩)|h
 .exact .inl (.inl (e _ _ h))
 .exact .inl (.inr ⟨o,e _ _ h⟩)
 .exact .inr h
end
section
variable{CX:pW}{P:cG}{w:bS}{K:aY}{mg:cw}{base:Heap}{N:cb}{qual:Str}{scope:Scope}{f:Addr}{cd:Value}{A:du}{outer:List Env}{s:aK}{H:ae}{E:bX}
theorem lD:(jB CX P w K mg base N qual scope f cd A outer s H E).K=K:=rfl
theorem lu:(jB CX P w K mg base N qual scope f cd A outer s H E).x7.K=K:=rfl
end
theorem cut{b:e'}{D:Ends}(h:∀R:e',R=b->iQ a R D σ H):iQ a b D σ H:=h b rfl
theorem mb(ux:e'){b:e'}{D:Ends}(e:ux=iQ a b)(h:∀R:e',R=b->iQ a R D σ H):ux D σ H:=by subst e;exact h b rfl
end ar
namespace cH
open PySem PySem.Spec PyProof.Rows ar
noncomputable abbrev St:=ar.St
noncomputable abbrev V:=ar.V
noncomputable abbrev ra:Value->aK->Prop:=λ_ _=>False
theorem afp{α:Type}{M:mu}{t:Sem α}{Q:α->aK->Prop}{E:cc}(h:aL M A t Q ra s):aL M A t Q E s:=
 gi h (λ_ _ q=>q) λ_ _ z=>iU z
theorem aaF{R:my->aK->Prop}{iter:Expr}{env:Env}(I:Nat->aK->Prop)(turn:∀n s,I n s->aL (aX prog w) A (ig it) (λr s1=>match r with
   |none=>R (.ok .next) s1
   |some v=>aL (aX prog w) A (Pu ea it v) (λ_ s2=>aL (aX prog w) A (zP ea env v) (λ_ s3=>
     aL (aX prog w) A (forIn ifs true λc r=>if r=true then do let ok <-DE c env (eval c env);pure (KW ok)else pure (KW r)) (λok s4=>
      if ok=true then aL (aX prog w) A (eval elt env) (λx s5=>aL (aX prog w) A (call (.builtin "list.append") [acc,x]) (λ_ i_=>∃m,m<n/\I m i_) ra s5) ra s4
      else∃m,m<n/\I m s4) ra s3) ra s2) ra s1) ra s)(n:Nat)(h:I n s):iH (aX prog w) A (.compLoop (.ListComp elt [⟨ea,iter,ifs,0⟩] scope pos) 0 it acc env) R s:=by
 refine codeAny_loop rfl I (λn s al1=>?_) n h;show aL _ A ((compTurn (.ListComp elt [⟨ea,iter,ifs,0⟩] scope pos) 0 it acc env).onRaise (λx=>do Qc x env;theTreesLotGoes x)) _ _ s;refine wpAny_noted (afp ?_);rw[compTurn_list];refine au (ER (au (gi (turn n s al1) (λr s1 ag=>?_) λ_ _ z=>z)));cases r with
 |none=>exact aT ag
 |some v=>
  refine au (gi ag (λ_ s2 ai=>au (gi ai (λ_ s3 bK=>au (gi bK (λok s4 c8=>?_) λ_ _ z=>z)) λ_ _ z=>z)) λ_ _ z=>z);cases ok with
  |false=>exact aT ⟨rfl,c8⟩
  |true=>exact au (au (gi c8 (λx s5 dX=>au (gi dX (λ_ i_ jv=>aT (aT ⟨rfl,jv⟩)) λ_ _ z=>z)) λ_ _ z=>z))
noncomputable def hc(cs:Mj)(σ:St):St:=cs.map λo=>o.bind λj=>(σ[j]?).bind id
noncomputable def px(X:bo)(N':cb)(scope:Scope)(cl:List (Str×Addr))(C:Addr)(s3:aK)(aZ:ae)(bR:cj)(eC:dP):bo:=
 {X with N:=N',ix:=s3,pZ:=aZ,env:=compEnvC scope cl C X.env,outer:=X.stack,stack:=X.stack,ex:=bR,fn:=λ_=>false,eC:=eC,dZ:=λ_ _=>False}
noncomputable def BR(k:Option wL):Prop:=k=some .cell\/k=some .free
inductive pL(X:bo)(scope:Scope)(cl:List (Str×Addr)):List Str->List (Option Nat)->Prop
 |nil:pL X scope cl [] []
 |own {x N cs}:pL X scope cl N cs->pL X scope cl (x::N) (none::cs)
 |jk {x j N cs} (ag:X.N[j]?=some x) (ai:BR (X.env.kindOf x)) (bK:BR ((I2 scope X.env).names.lookup x)) (c8:cl.lookup x=X.env.cells.lookup x):
   pL X scope cl N cs->pL X scope cl (x::N) (some j::cs)
theorem pL.len{X:bo}{cl:List (Str×Addr)}{N cs}(h:pL X scope cl N cs):cs.length=N.length:=by
 induction h with
 |nil=>rfl
 |own _ a3=>simp[a3]
 |jk _ _ _ _ _ a3=>simp[a3]
theorem pL.get{X:bo}{cl:List (Str×Addr)}{N cs}(h:pL X scope cl N cs){σ:St}:∀{i:Nat}{x:Str}{v:V},N[i]?=some x->(hc cs σ)[i]?=some (some v)->
  ∃j:Nat,X.N[j]?=some x/\σ[j]?=some (some v)/\BR (X.env.kindOf x)/\BR ((I2 scope X.env).names.lookup x)/\cl.lookup x=X.env.cells.lookup x:=by
 induction h with
 |nil=>intro i x v ag ai;simp at ag
 |own _ a3=>
  intro i x v ag ai;cases i with
  |zero=>simp[hc]at ai
  |succ i=>exact a3 (i:=i) (by simpa using ag) (by simpa[hc]using ai)
 |@jk y j N cs a1 a2 ik kX _ a3=>
  intro i x v ag ai;cases i with
  |zero=>
   simp at ag;subst ag;refine⟨j,a1,?_,a2,ik,kX⟩;simp[hc]at ai;cases q:σ[j]? with
   |none=>rw[q]at ai;simp at ai
   |some o=>
    rw[q]at ai;simp at ai;rw[ai]
  |succ i=>exact a3 (i:=i) (by simpa using ag) (by simpa[hc]using ai)
noncomputable def Gu(cl:List (Str×Addr))(names:List (Str×wL)):Bool:=names.all λy=>(y.2 !=.cell&&y.2 !=.free)||(cl.lookup y.1).isSome
theorem adm{cl:List (Str×Addr)}{names:List (Str×wL)}(h:Gu cl names=true)(k:BR (names.lookup x)):∃c,cl.lookup x=some c:=by
 have key:∀q:wL,names.lookup x=some q->(q=.cell\/q=.free)->∃c,cl.lookup x=some c:=λq e a8=>by
  have m:=ze.mp h (x,q) (CA e);rcases a8 with rfl|rfl
  .exact sP.mp (by simpa using m)
  .exact sP.mp (by simpa using m)
 rcases k with k|k
 .exact key _ k (.inl rfl)
 .exact key _ k (.inr rfl)
noncomputable def Cr(X:bo)(ifs:hF)(t:TT):Prop:=
 ∀(pins:dP)(s:aK)(σ:St)(H:ae)(Q:Bool->ae->Prop),Inv X pins σ H s->t σ H Q->
  aL (aX X.prog X.w) X.A (forIn ifs true λc r=>if r=true then do let ok <-DE c X.env (eval c X.env);pure (KW ok)else pure (KW r)) (Gq X pins σ Q) X.dZ s
noncomputable def q0:TT:=λ_ H Q=>Q true H
theorem mX{X:bo}:Cr X [] q0:=λ_ _ _ H _ I h=>wpAny_tests_nil ⟨H,I,h⟩
theorem A0{X:bo}{t:TT}(h:lT X c t):Cr X [c] t:=λpins s σ H Q I q=>wpAny_tests_one (h pins s σ H Q I q)
noncomputable def mf(wi:TI)(cs:Mj)(g:fg)(tt:TT)(b6:TE):TE:=λσ H Q=>wi σ H λJ H1=>∀D,H1 D=none->
 ∃W:Nat->Nat->List V->St->ae->Prop,(∃m,W 0 m [] (hc cs σ) (upd H1 D (.lst [])))/\∀i m ys a9 H',W i m ys a9 H'->H' D=some (.lst ys)/\ys.length<sizeLine/\
  ((J.stop i H'/\Q (.ref D) H')\/(J.go i H'/\∀x ah,J.oO i H' x ah->g x a9 ah λgM aZ=>tt gM aZ λb dE=>
   if b=true then b6 gM dE λy ba=>ba D=some (.lst ys)/\∃dc,dc<m/\W (i+1) dc (ys++[y]) gM (upd ba D (.lst (ys++[y])))
   else∃dc,dc<m/\W (i+1) dc ys gM dE))
section
variable{X:bo}{elt ea iter:Expr}{ifs:hF}{scope:Scope}{pos:Pos}{N':cb}{cs:Mj}{cl:List (Str×Addr)}{wi:TI}{g:fg}{tt:TT}{b6:TE}
theorem afq{H:ae}(ok:fE P w H h)(ey:H C=none)(hs:mn C h h'):fE P w H h':=λb ob e=>by
 refine(ok b ob e).nM (λc u aq q=>(hs.2 c ?_).trans q) (λ_ q=>q) λ_ _ q=>q;rintro rfl;rcases aq with rfl|aq
 .rw[ey]at e;cases e
 .rw[ey]at aq;cases aq
theorem VJ{use:Option (Value->Sem Unit)}{QQ:cc}{Q:a'}(aq:X.calm=true)(ak:n0 X ea iter wi)(Dk:X3 scope X.env=pure cl)(u6:∀y∈scope.names,y.2≠.cell)(tg:scope.kind=.function)(Du:∀y∈scope.names,y.2=.local->scope.names.lookup y.1=some .local)(ph:∀x c,cl.lookup x=some c->X.env.cells.lookup x=some c)(bf:Gu cl (I2 scope X.env).names=true)(z9:pL X scope cl N' cs)(aa:∀(C:Addr)(s3:aK)(aZ:ae)(bR:cj)(eC:dP),rb (px X N' scope cl C s3 aZ bR eC) ea g/\Cr (px X N' scope cl C s3 aZ bR eC) ifs tt/\bq (px X N' scope cl C s3 aZ bR eC) elt b6)(hs:∀x,NB iter X.env x=pure x:=by intro _;rfl)(I:Inv X pins σ H s)(h:mf wi cs g tt b6 σ H Q)(post:∀(D C:Addr)(s4:aK)(H':ae)(m:cw),Inv X pins σ H' s4->s4.heap.Ns C m->t_ X pins H' C->Q (.ref D) H'->compPost (aX X.prog X.w) X.A X.dZ use QQ (.ref D) C (.ok .next) s4):
  aL (aX X.prog X.w) X.A (comprehension (.ListComp elt [⟨ea,iter,ifs,0⟩] scope pos) scope X.env auD (newList []) false (eval iter X.env) use) QQ X.dZ s:=by
 refine wpAny_comprehension_free (use:=use) rfl hs Dk tg Du (bD (ak pins s σ H _ I h) λv s1 ag=>bD ag λO' s2 ai=>?_);obtain⟨it,bR,iy,J,ah,rfl,bH,T,A',f2,cv⟩:=ai;refine m7 (wpAny_newFunctionEnv u6 (by intro y cM;simp at cM) (λag OH OR=>?_) tg);dsimp only at OH OR⊢;have cZ:Inv X pins σ (upd ah s2.heap.objs.size (.lst [])) {s2 with heap:=s2.heap.push {cls:=.type "list",data:=.seq ([]:c7).toArray},toks:=s2.toks}:=bH.Z' (its:=[]) (ys:=[]) .nil (eZ _);have alX:ah s2.heap.objs.size=none:=bH.fresh;obtain⟨W,⟨m0,EE⟩,turn⟩:=cv _ alX;generalize YW:s2.heap.push {cls:=.type "list",dict:=none,data:=.seq ([]:c7).toArray}=bK at OH OR cZ⊢;have ZO:bK.objs.size=s2.heap.objs.size+1:=by rw[<-YW,sA]
 generalize bl:s2.heap.objs.size=D at *;have kept:∀b o,bK.get? b=some o->ag.get? b=some o:=λb o e=>OR.extBut b o (dR (c5 e)) (dm _ e);have old:∀b o,s2.heap.get? b=some o->bK.get? b=some o:=λb o e=>by rw[<-YW];exact dm _ e
 have G_:∀b∈bR,b<D:=λb dC=>by obtain⟨o,e,_⟩:=T.obj 0 _ A' b dC;rw[<-bl];exact c5 e
 have YC:∀b∈bR,b∉fu X.stack:=λb dC z=>by
  obtain⟨_,f1,cU,_⟩:=f2 b dC;rcases dv.mp (bH.Es b z)with e|e
  .exact f1 e
  .exact cU e
 generalize kg:px X N' scope cl bK.objs.size {s2 with heap:=bK,toks:=s2.toks} (upd ah D (.lst [])) bR (X.eC++pins)=lX;obtain⟨bE,Zn,he⟩:=aa bK.objs.size {s2 with heap:=bK,toks:=s2.toks} (upd ah D (.lst [])) bR (X.eC++pins);rw[kg]at bE Zn he;have xg:lX.prog=X.prog:=by rw[<-kg];rfl
 have xj:lX.w=X.w:=by rw[<-kg];rfl
 have X9:lX.K=X.K:=by rw[<-kg];rfl
 have X8:lX.calm=X.calm:=by rw[<-kg];rfl
 have jf:Inv lX [] (hc cs σ) (upd ah D (.lst [])) {s2 with heap:=ag,toks:=s2.toks+0}:=by
  rw[<-kg];refine⟨⟨cZ.ok.mod,tg,cZ.ok.glob,cZ.ok.blt,bU _,λx y c az aB=>cZ.ok.inj x y c (ph _ _ az) (ph _ _ aB),λx av=>adm bf av,λx c z _=>bx (show false=true from z) fU,cZ.ok.hd,cZ.ok.frames,.inl rfl,
   λb dC=>⟨λe=>?_,λx c e=>(f2 b dC).2.2.2.2.1 x c (ph _ _ e)⟩,cZ.bs,eP cZ.ok.rl cZ.kq,λb o e dC=>?_,YC,cZ.stack,cZ.Jv⟩,rfl,cZ.bare,h2.kept kept,⟨_,OH,λi x v az aB cX=>?_⟩,λx c e=>?_,cZ.bf.fresh (bU _),λx c e=>cZ.mR x c (ph _ _ e),
   λp aN=>?_,cZ.bf.kept kept,?_⟩
  .have l:=G_ b dC;rw[show b=bK.objs.size from e,ZO]at l;exact q_ _ (LF l)
  .have l:=G_ b dC;rcases(f2 b dC).2.2.2.1 with z|z
   .exact bH.ok.x6 b o e z
   .exact bx (iX (c5 (bH.ok.bs b o e).1) z) (q_ _)
  .obtain⟨j,a1,a2,ik,kX,aic⟩:=z9.get az aB;obtain⟨m,aM,aw⟩:=cZ.loc;obtain⟨u,ez,l⟩:=aw j x v a1 a2 (by rcases ik with z|z;exact .inr (.inl z);exact .inr (.inr z));refine⟨u,ez,.inr ⟨kX,?_⟩⟩;rcases l with⟨k,_⟩|⟨k,c,e,z⟩
   .rcases ik with q|q<;>(rw[k]at q;cases q)
   .obtain⟨o,aU,hd⟩:=z;exact⟨c,aic.trans e,o,kept c o aU,hd⟩
  .obtain⟨v,o,aU,hd⟩:=cZ.cell x c (ph _ _ e);exact⟨v,o,kept c o aU,hd⟩
  .have OL:p∈X.eC++pins:=by simpa[px]using aN
   obtain⟨e,n,ne,gr,d⟩:=cZ.pin p OL;refine⟨kept _ _ e,n,dR (c5 e),λz=>?_,d⟩;rcases dv.mp (cZ.Es p.1 z)with q|q
   .exact ne q
   .exact gr q
  .show(hc cs σ).length=N'.length;rw[hc,bk];exact z9.len
 have ò:iy 0 ag:=T.keep 0 _ _ A' λb dC o e=>kept b o (old b o e);have yz:∀{H':ae},(∀b∈bR,H' b=none)->∀b∈bR,t_ lX [] H' b:=λ{H'}aM b dC=>by rw[<-kg];refine⟨aM b dC,λe=>?_,YC b dC,.inl dC,λx c e=>(f2 b dC).2.2.2.2.1 x c (ph _ _ e),λp aN=>(f2 b dC).2.2.2.2.2 p (by simpa[px]using aN)⟩;have l:=G_ b dC;rw[show b=bK.objs.size from e,ZO]at l;exact q_ _ (LF l)
 have alz:∀b∈bR,(upd ah D (.lst [])) b=none:=λb dC=>by rw[aD (dR (G_ b dC))];exact(f2 b dC).1
 have Bx:lX.A=X.A:=by rw[<-kg];rfl
 have J':lX.env=compEnvC scope cl bK.objs.size X.env:=by rw[<-kg];rfl
 have J_:lX.dZ=ra:=by rw[<-kg];rfl
 have loop:iH (aX X.prog X.w) X.A (.compLoop (.ListComp elt [⟨ea,iter,ifs,0⟩] scope pos) 0 (.ref it) (.ref D) (compEnvC scope cl bK.objs.size X.env))
   (compPost (aX X.prog X.w) X.A X.dZ use QQ (.ref D) bK.objs.size) {s2 with heap:=ag,toks:=s2.toks+0}:=by
  refine aaF (λn s'=>∃i ys a9 H',Inv lX [] a9 H' s'/\iy i s'.heap/\(∀b∈bR,H' b=none)/\W i n ys a9 H') ?_ m0 ⟨0,[],_,_,jf,ò,alz,EE⟩;rintro n s' ⟨i,ys,a9,H',p0,eR,YD,eJ⟩;obtain⟨eM,anm,mV⟩:=turn i n ys a9 H' eJ;rcases mV with⟨stop,q⟩|⟨go,step⟩
  .have hd:=T.done lX xg xj X9 (X8.trans aq) i [] s' a9 H' ra p0 (yz YD) eR stop;rw[Bx]at hd;refine bD hd λr s4 ao=>?_;obtain⟨rfl,ks⟩:=ao;obtain⟨m,aM,_⟩:=id ks.loc;have G2:lX.env.locals=bK.objs.size:=by rw[J'];rfl
   have Ht:H' bK.objs.size=none:=by rw[<-G2];exact ks.free
   have uF:=ks.base;rw[<-kg]at uF;have xJ:s4.os=s2.os:=by have z:=ks.os;rw[<-kg]at z;exact z
   have Zr:=ks.bf;rw[xg,xj]at Zr;have abd:Inv X pins σ H' s4:=cZ.MV (s':=s4) (ch:=bR) xJ ⟨uF.keep,uF.slot,uF.free,uF.there,uF.ij,uF.jr,uF.j0⟩ Zr ks.bare λb dC=>by obtain⟨_,g1,_,g3,C9,C'⟩:=f2 b dC;exact⟨g3,g1,C9,C'⟩
   exact post D bK.objs.size s4 H' m abd (by rw[G2]at aM;exact aM) (cZ.s_ (bU _) Ht) q
  .have hit:=T.item lX xg xj X9 (X8.trans aq) i [] s' a9 H' ra p0 (yz YD) eR go;rw[Bx]at hit;refine bD hit λr s4 ao=>?_;obtain⟨u,rfl,c8⟩:=ao;refine bD c8 λ_ s5 dX=>?_;obtain⟨x,ba,ks,yi,yY,yy,NC⟩:=dX;have Ld:=ks.pinned (yz NC) (T.obj _ _ yy);have aF:=bE _ s5 a9 ba x u _ Ld yi (step x ba yY);rw[Bx,J',J_,xg,xj]at aF;refine bD aF λ_ i_ jv=>?_;obtain⟨E6,f',sC,Ec⟩:=jv;have dM:=Zn _ i_ E6 f' _ sC Ec;rw[Bx,J',J_,xg,xj]at dM;refine bD dM λok oE De=>?_;obtain⟨jG,ku,m2⟩:=De;have back:∀{oP:St}{gO:ae}{jZ:aK}{Kb:aW}{dc:Nat},Inv lX ([]++EI bR s5.heap) oP gO jZ->dc<n->W (i+1) dc Kb oP gO->
     ∃m,m<n/\∃i ys a9 H',Inv lX [] a9 H' jZ/\iy i jZ.heap/\(∀b∈bR,H' b=none)/\W i m ys a9 H':=λ{oP gO jZ Kb dc}mq hm R9=>by refine⟨dc,hm,i+1,Kb,oP,gO,mq.JO,T.keep _ _ _ yy λb dC o e=>(mq.pin (b,o) (sJ _ (sJ _ (IE dC e)))).1,λb dC=>?_,R9⟩;obtain⟨o,e,d⟩:=T.obj _ _ yy b dC;exact(mq.pin (b,o) (sJ _ (sJ _ (IE dC e)))).2.1
   cases ok with
   |false=>
    rw[bp fU]at m2⊢;obtain⟨dc,hm,R8⟩:=m2;exact back ku hm R8
   |true=>
    rw[bB rfl]at m2⊢;have Dn:=he _ oE E6 jG _ ku m2;rw[Bx,J',J_,xg,xj]at Dn;refine bD Dn λaq4 jZ mS=>?_;obtain⟨y,gO,mq,QE,alU,dc,hm,R9⟩:=mS;have z7:=tr (X:=lX) _ jZ E6 gO (.ref D) [y] (.ref D) [aq4] (λ_ q7=>q7=upd gO D (.lst (ys++[y]))) mq rfl (.cons QE .nil) ⟨D,ys,y,rfl,rfl,alU,anm,rfl⟩;rw[Bx,J_,xg,xj]at z7;refine bD z7 λ_ rZ od=>?_;obtain⟨_,q7,sD,_,rfl⟩:=od;exact back sD hm R9
 exact codeAny_compStart_list loop (T.self _ 0 _ _ _ ò loop)
theorem rQ(aq:X.calm=true)(ak:n0 X ea iter wi)(Dk:X3 scope X.env=pure cl)(u6:∀y∈scope.names,y.2≠.cell)(tg:scope.kind=.function)(Du:∀y∈scope.names,y.2=.local->scope.names.lookup y.1=some .local)(ph:∀x c,cl.lookup x=some c->X.env.cells.lookup x=some c)(bf:Gu cl (I2 scope X.env).names=true)(z9:pL X scope cl N' cs)(aa:∀(C:Addr)(s3:aK)(aZ:ae)(bR:cj)(eC:dP),rb (px X N' scope cl C s3 aZ bR eC) ea g/\Cr (px X N' scope cl C s3 aZ bR eC) ifs tt/\bq (px X N' scope cl C s3 aZ bR eC) elt b6)(hs:∀x,NB iter X.env x=pure x:=by intro _;rfl):bq X (.ListComp elt [⟨ea,iter,ifs,0⟩] scope pos) (mf wi cs g tt b6):=by
 intro pins s σ H Q I h;rw[eval_ListComp];refine VJ aq ak Dk u6 tg Du ph bf z9 aa hs I h λD C s4 H' m jf aM Ni q=>⟨m,aM,λh' tl=>⟨.ref D,H',?_,rfl,q⟩⟩
 obtain⟨f0,f1,f2,cU,f4,e_⟩:=Ni;exact jf.turned (t':=s4.toks) (λb o aa e=>(tl.2 b aa).trans e) f0 f1 cU f4 e_
theorem qB{i:Nat}{y:Str}{ã:Pos}(eW:X.N.Nodup)(amD:X.N[i]?=some y)(ZA:X.env.scope.names.lookup y=some .local)(am9:A_ (.ListComp elt [⟨ea,iter,ifs,0⟩] scope pos) (some (.Name y py)) ã.line X.env=pure true)(aq:X.calm=true)(ak:n0 X ea iter wi)(Dk:X3 scope X.env=pure cl)(u6:∀y∈scope.names,y.2≠.cell)(tg:scope.kind=.function)(Du:∀y∈scope.names,y.2=.local->scope.names.lookup y.1=some .local)(ph:∀x c,cl.lookup x=some c->X.env.cells.lookup x=some c)(bf:Gu cl (I2 scope X.env).names=true)(z9:pL X scope cl N' cs)(aa:∀(C:Addr)(s3:aK)(aZ:ae)(bR:cj)(eC:dP),rb (px X N' scope cl C s3 aZ bR eC) ea g/\Cr (px X N' scope cl C s3 aZ bR eC) ifs tt/\bq (px X N' scope cl C s3 aZ bR eC) elt b6)(hs:∀x,NB iter X.env x=pure x:=by intro _;rfl):gI X (.Assign [.Name y py] (.ListComp elt [⟨ea,iter,ifs,0⟩] scope pos) ã) (so (mf wi cs g tt b6) (ha i)):=by
 intro pins s σ H ź I h;rw[exec_Assign_Name_used _ _ _ _ am9];refine au (ER (au ?_));show aL _ X.A (do let _ <-comprehension (.ListComp elt [⟨ea,iter,ifs,0⟩] scope pos) scope X.env _ (newList []) false (eval iter X.env) (some (zP (.Name y py) X.env))) _ _ s;refine au (gi (VJ (use:=some (zP (.Name y py) X.env)) (QQ:=λ_ s'=>wY X pins ź .next s') aq ak Dk u6 tg Du ph bf z9 aa hs I h ?_) (λ_ s' a8=>aT (aT a8)) λ_ _ e=>e);intro D C s4 H' m jf aM Ni q;obtain⟨f0,f1,f2,cU,f4,e_⟩:=Ni;refine aqt (Ğ jf eW amD (.inl ZA) (v:=.ref D) rfl (λi_ sC hz=>?_) (.inr ZA));obtain⟨a,b4,aF⟩:=hz;have alT:C≠a:=by
  rcases aF with rfl|aF
  .exact f1
  .exactλe=>f4 _ _ aF e.symm
 refine⟨m,aM.sameBut b4 alT,λh' tl=>⟨_,H',?_,q⟩⟩;exact sC.turned (t':=i_.toks) (λb o aa e=>(tl.2 b aa).trans e) f0 f1 cU f4 e_
noncomputable def mF(J:fe)(H1:ae)(xs:aW):Prop:=∀H',aH H1 H'->J.stop xs.length H'/\(∀i,i<xs.length->J.go i H')/\∀i x ah,i<xs.length->J.oO i H' x ah->ah=H'/\xs[i]?=some x
theorem nA{K:aY}(h:aC K H1 a xs):mF (iW K a) H1 xs:=λH' ax=>
 ⟨⟨xs,ax.seq h,bU _⟩,λi ak=>⟨xs,xs[i],ax.seq h,by simp[ak]⟩,λi x ah _ y=>⟨y.1,y.2 xs (ax.seq h)⟩⟩
theorem D7(lo:Int)(n:Nat):mF (nd lo n) H1 ((dK n).map λi:Nat=>V.int (lo+i)):=λH' _=>
 ⟨by show n<=_;simp,λi ak=>(by simpa using ak:i<n),λi x ah ak y=>by
  obtain⟨az,aB⟩:=y;have l3:i<n:=by simpa using ak
  refine⟨az,?_⟩;rw[aB];simp[l3]⟩
end
theorem acl{J:fe}{xs:aW}{g:fg}{c_:e'}{D:Ends}(Pv:Nat->St->ae->Prop)(b2:mF J H xs)(h0:Pv 0 σ H)(hm:∀i a9 H',Pv i a9 H'->aH H H')(hs:∀i x a9 H',xs[i]?=some x->Pv i a9 H'->g x a9 H' λgH ah=>c_ {D with b1:=Pv (i+1),eL:=Pv (i+1),hq:=D.b1} gH ah)(hd:∀a9 H',Pv xs.length a9 H'->D.b1 a9 H'):
  ∃W:Nat->Nat->St->ae->Prop,(∃m,W 0 m σ H)/\∀i m σ H,W i m σ H->
   (J.stop i H/\D.b1 σ H)\/(J.go i H/\∃N:St->ae->Prop,(∀a9 H',N a9 H'->∃dc,dc<m/\W (i+1) dc a9 H')/\∀x H',J.oO i H x H'->g x σ H' λgH ah=>c_ {D with b1:=N,eL:=N,hq:=D.b1} gH ah):=by
 refine⟨λi m a9 H'=>m=xs.length-i/\i<=xs.length/\Pv i a9 H',⟨xs.length,by simp,eZ _,h0⟩,?_⟩;rintro i m a9 H' ⟨rfl,ak,p⟩;obtain⟨gF,g4,gv⟩:=b2 H' (hm i a9 H' p);by_cases cz:i<xs.length
 .refine .inr ⟨g4 i cz,Pv (i+1),λgH ah hx=>⟨xs.length-(i+1),by omega,rfl,cz,hx⟩,λx ah y=>?_⟩;obtain⟨rfl,ex⟩:=gv i x ah cz y;exact hs i x a9 _ ex p
 .have e:i=xs.length:=by omega
  subst e;exact .inl ⟨gF,hd a9 H' p⟩
theorem LO{J:fe}{xs:aW}{rest:St}{tt:TT}{b6:TE}{Q:a'}{H1:ae}(gd:hc cs σ=none::rest)(b2:mF J H1 xs)(aw:xs.length<sizeLine)(p:V->Bool)(f:V->V)(test:∀(i:Nat)(x:V)(ah:ae)(R:Bool->ae->Prop),xs[i]?=some x->aH H1 ah->(∀ba,aH ah ba->R (p x) ba)->tt (some x::rest) ah R)(elt:∀(i:Nat)(x:V)(ah:ae)(R:a'),xs[i]?=some x->p x=true->aH H1 ah->(∀ba,aH ah ba->R (f x) ba)->b6 (some x::rest) ah R)(fin:∀(D:Addr)(H':ae),H1 D=none->H' D=some (.lst ((xs.filter p).map f))->aH H1 H'->Q (.ref D) H'):
  ∀D,H1 D=none->∃W:Nat->Nat->List V->St->ae->Prop,(∃m,W 0 m [] (hc cs σ) (upd H1 D (.lst [])))/\∀i m ys a9 H',W i m ys a9 H'->H' D=some (.lst ys)/\ys.length<sizeLine/\
   ((J.stop i H'/\Q (.ref D) H')\/(J.go i H'/\∀x ah,J.oO i H' x ah->ha 0 x a9 ah λgM aZ=>tt gM aZ λb dE=>
    if b=true then b6 gM dE λy ba=>ba D=some (.lst ys)/\∃dc,dc<m/\W (i+1) dc (ys++[y]) gM (upd ba D (.lst (ys++[y])))
    else∃dc,dc<m/\W (i+1) dc ys gM dE)):=by
 intro D bl;refine⟨λi m ys a9 H'=>m=xs.length-i/\i<=xs.length/\ys=((xs.take i).filter p).map f/\(∃o,a9=o::rest)/\aH H1 H'/\H' D=some (.lst ys),⟨xs.length,by simp,eZ _,by simp,⟨none,gd⟩,λb o e=>?_,aQ⟩,?_⟩
 .rw[aD (cA e bl)];exact e
 .rintro i m ys a9 H' ⟨rfl,ak,rfl,⟨o,rfl⟩,ax,eM⟩;obtain⟨gF,g4,gv⟩:=b2 H' ax;refine⟨eM,oZ ?_ aw,?_⟩
  .rw[bk];refine eP (nf _ _) ?_;rw[lS];exact Ck _ _
  by_cases cz:i<xs.length
  .refine .inr ⟨g4 i cz,λx ah y=>?_⟩;obtain⟨rfl,ex⟩:=gv i x ah cz y;show tt (some x::rest) ah _;refine test i x ah _ ex ax λdE s4=>?_;have a5:xs.take (i+1)=xs.take i++[x]:=by rw[oT,ex];rfl
   cases aN:p x with
   |true=>
    refine gD ?_;refine elt i x dE _ ex aN (ax.trans s4) λba s5=>⟨s5 _ _ (s4 _ _ eM),xs.length-(i+1),by omega,rfl,cz,?_,⟨_,rfl⟩,λb ob e=>?_,aQ⟩
    .rw[a5,p2,fm];simp[aN]
    .rw[aD (cA e bl)];exact s5 _ _ (s4 _ _ (ax _ _ e))
   |false=>
    refine fI ⟨xs.length-(i+1),by omega,rfl,cz,?_,⟨_,rfl⟩,ax.trans s4,s4 _ _ eM⟩;rw[a5,p2,fm];simp[aN]
  .have e:i=xs.length:=by omega
   subst e;exact .inl ⟨gF,fin D H' bl (by rw[eM,oU]) ax⟩
theorem ag7{J:fe}{xs:aW}{rest:St}{b6:TE}{Q:a'}{H1:ae}(gd:hc cs σ=none::rest)(b2:mF J H1 xs)(aw:xs.length<sizeLine)(f:V->V)(elt:∀(i:Nat)(x:V)(ah:ae)(R:a'),xs[i]?=some x->aH H1 ah->(∀ba,aH ah ba->R (f x) ba)->b6 (some x::rest) ah R)(fin:∀(D:Addr)(H':ae),H1 D=none->H' D=some (.lst (xs.map f))->aH H1 H'->Q (.ref D) H'):
  ∀D,H1 D=none->∃W:Nat->Nat->List V->St->ae->Prop,(∃m,W 0 m [] (hc cs σ) (upd H1 D (.lst [])))/\∀i m ys a9 H',W i m ys a9 H'->H' D=some (.lst ys)/\ys.length<sizeLine/\
   ((J.stop i H'/\Q (.ref D) H')\/(J.go i H'/\∀x ah,J.oO i H' x ah->ha 0 x a9 ah λgM aZ=>q0 gM aZ λb dE=>
    if b=true then b6 gM dE λy ba=>ba D=some (.lst ys)/\∃dc,dc<m/\W (i+1) dc (ys++[y]) gM (upd ba D (.lst (ys++[y])))
    else∃dc,dc<m/\W (i+1) dc ys gM dE)):=
 LO gd b2 aw (λ_=>true) f (λi x ah R _ _ h=>h ah (aH.refl _)) (λi x ah R ex _ ax h=>elt i x ah R ex ax h) λD H' ag ai bK=>fin D H' ag (by rw[ai,F7.mpr λ_ _=>rfl]) bK
noncomputable def signs(x:Str):List V:=x.cps.toList.map λc=>V.str ⟨#[c]⟩
noncomputable def Fx(x:Str):fe:=⟨λi _=>i<x.cps.size,λi H v H'=>H'=H/\∃c,x.cps[i]?=some c/\v=.str ⟨#[c]⟩,λi _=>i=x.cps.size⟩
theorem ag8(x:Str):mF (Fx x) H1 (signs x):=λH' _=>by
 have aw:(signs x).length=x.cps.size:=by simp[signs]
 refine⟨aw,λi ak=>by rw[aw]at ak;exact ak,λi v ah ak y=>?_⟩;obtain⟨az,c,aB,cX⟩:=y;refine⟨az,?_⟩;subst cX;have gB:x.cps.toList[i]?=some c:=by simpa using aB
 simp[signs,gB]
theorem adn{K:aY}(it:Addr)(x:Str)(t:Tok){ty:String}(xN:ty="str_ascii_iterator"\/ty="str_iterator"):Turn P w K ea (Fx x) [it] it (λi h=>h.IsStrIter it ty x t i)where
 mem:=by simp
 obj:=λi h st b aa=>by
  have e:b=it:=by simpa using aa
  subst e;obtain⟨o,e,c,d⟩:=st;exact⟨o,e,λv z=>by rw[d]at z;cases z⟩
 keep:=λi h h' st k=>by obtain⟨o,e,r⟩:=st;exact⟨o,k it (by simp) o e,r⟩
 item:=by
  intro X f6 hw f5 aq i pins s σ H E I hf st bE;subst f6 hw f5;obtain⟨f0,f1,f2,cU,f4,e_⟩:=hf it (by simp);have ak:i<x.cps.size:=bE;have iZ:x.cps[i]?=some x.cps[i]:=by simp[ak]
  rcases xN with rfl|rfl
  .refine wpAny_pyNext_ascii_item st iZ λh' eR b4=>?_;have aR:Inv X pins σ H {s with heap:=h',toks:=s.toks+1}:=I.turned (λb o aa e=>(b4.2 b aa).trans e) f0 f1 cU f4 e_;obtain⟨o,e,c,d⟩:=id eR;exact⟨_,rfl,By (s:={s with heap:=h',toks:=s.toks+1}) e c d (by decide) ⟨.str ⟨#[x.cps[i]]⟩,H,aR,⟨_,rfl⟩,⟨rfl,_,iZ,rfl⟩,eR,λb aa=>(hf b aa).1⟩⟩
  .refine wpAny_pyNext_wide_item st iZ λh' eR b4=>?_;have aR:Inv X pins σ H {s with heap:=h',toks:=s.toks+1}:=I.turned (λb o aa e=>(b4.2 b aa).trans e) f0 f1 cU f4 e_;obtain⟨o,e,c,d⟩:=id eR;exact⟨_,rfl,By (s:={s with heap:=h',toks:=s.toks+1}) e c d (by decide) ⟨.str ⟨#[x.cps[i]]⟩,H,aR,⟨_,rfl⟩,⟨rfl,_,iZ,rfl⟩,eR,λb aa=>(hf b aa).1⟩⟩
 done:=by
  intro X f6 hw f5 aq i pins s σ H E I hf st bE;subst f6 hw f5;obtain⟨f0,f1,f2,cU,f4,e_⟩:=hf it (by simp);have iZ:x.cps[i]?=none:=by have e:i=x.cps.size:=bE;simp[e]
  rcases xN with rfl|rfl
  .exact wpAny_pyNext_ascii_end (I.ok.hd aq) st iZ λh' dx=>⟨rfl,I.turned (t':=s.toks) (λb o aa e=>dx b o aa e) f0 f1 cU f4 e_⟩
  .exact wpAny_pyNext_wide_end (I.ok.hd aq) st iZ λh' dx=>⟨rfl,I.turned (t':=s.toks) (λb o aa e=>dx b o aa e) f0 f1 cU f4 e_⟩
 self:=λ_ _ _ _ _ st h=>by
  rcases xN with rfl|rfl
  .exact wpAny_pyIter_striter_ascii st h
  .exact wpAny_pyIter_striter_wide st h
section
variable{X:bo}{ea:Expr}
noncomputable def ajW(dA:TE):TI:=λσ H R=>dA σ H λx H1=>∃z,x=.str z/\R (Fx z) H1
theorem ag9(aw:bq X l dA):n0 X ea l (ajW dA):=by
 intro pins s σ H R I h;refine bD (aw pins s σ H _ I h) λv s1 hz=>?_;obtain⟨x,H1,aR,b3,bz⟩:=hz;obtain⟨z,e,q⟩:=bz;subst e;obtain⟨t,rfl⟩:=b3;have fin:∀(ty:String)(_:ty="str_ascii_iterator"\/ty="str_iterator"),LS X pins σ ea R (.ref s1.heap.objs.size) {s1 with heap:=s1.heap.push {cls:=.type ty,data:=.fields #[.str z t,.int 0 0]}}:=λty xN=>by
  refine⟨s1.heap.objs.size,[s1.heap.objs.size],_,_,H1,rfl,aR.kept (t':=s1.toks) λb o e=>dm _ e,adn _ z t xN,⟨_,fM _ rfl,rfl,rfl⟩,λb aa=>?_,q⟩;have e:b=s1.heap.objs.size:=by simpa using aa
  subst e;exact aR.s_ (bU _) (aR.bf.fresh (bU _))
 cases aF:z.cps.all (·<128)with
 |true=>exact wpAny_pyIter_ascii aF (fin _ (.inl rfl))
 |false=>exact wpAny_pyIter_wide aF (fin _ (.inr rfl))
end
section
variable{X:bo}{e:Expr}{b6:TE}{lo ak:Option Expr}{dA pJ:w0}{pos d_:Pos}
theorem Ň:fO X (gA .LtE) (λx y H Q=>∃i j,x=.str i/\y=.str j/\Q (.aA (!decide (j.cps.toList<i.cps.toList))) H):=by intro pins s σ H x y v u Q I bt bC h;obtain⟨i,j,rfl,rfl,q⟩:=h;obtain⟨t,rfl⟩:=bt;obtain⟨t',rfl⟩:=bC;exact PySem.P.le_str (fY I q rfl)
theorem VK(c a:Nat):(!decide ((⟨#[c]⟩:Str).cps.toList<(⟨#[a]⟩:Str).cps.toList))=decide (a<=c):=by
 have h:((⟨#[c]⟩:Str).cps.toList<(⟨#[a]⟩:Str).cps.toList)↔c<a:=by show([c]:dN) < [a]↔c<a;simp[List.cons_lt_cons_iff]
 by_cases q:c<a
 .rw[cT (h.mpr q),dn (by omega)];rfl
 .rw[dn λz=>q (h.mp z),cT (by omega)];rfl
theorem D9(aq:X.calm=true):jV X (.builtin "all") (λxs H Q=>∃(p:Addr)(bs:List Bool),xs=[.ref p]/\aC X.K H p (bs.map V.aA)/\Q (.aA (bs.all id)) H):=by
 intro pins s σ H xs us Q I r h;obtain⟨p,bs,rfl,a8,q⟩:=h;obtain⟨u,rfl,ez⟩:=vals1 r;cases ez;obtain⟨its,cf,pl,hz⟩:=I.list a8;have hlen:bs.length=its.length:=by have:=cf.length;rwa [bk]at this
 obtain⟨o,n,zY,_⟩:=id pl;have i3:p≠s.heap.objs.size:=dR (c5 zY);have dr:X.A.in1.handled=none:=I.ok.hd aq;refine call_all_walk (Bu pl.isList ?_);refine⟨s.heap.objs.size,[s.heap.objs.size,p],[s.heap.objs.size],its.toArray.size,_,_,λi=>bs.getD i false,rfl,CQ dr _ p i3 its.toArray,⟨⟨_,fM _ rfl,rfl,rfl⟩,pl.isList.push _⟩,?_,λh' a5 k=>?_⟩
 .intro i v s' mx Tv f6 d8;have Dh:its[i]?=some v:=by simpa using f6
  have ak:i<its.length:=(eb.mp Dh).1;have aa:(bs.map V.aA)[i]?=some (V.aA (bs.getD i false)):=by rw[cx,cF (by omega:i<bs.length)];simp[eF,hlen▸ak]
  obtain⟨u',bJ,b9⟩:=cf.get aa;rw[Dh]at bJ;cases bJ;cases b9;exact ml d8
 .have e:(dK its.toArray.size).all (λi=>bs.getD i false)=bs.all id:=by
   rw[fN,<-hlen,BI];simp only[ze,j5];constructor
   .intro a b aa;obtain⟨i,ak,rfl⟩:=Lv.mp aa;have:=a i ak;simpa[eF,ak]using this
   .intro a i ak;have:=a bs[i] (sG ak);simpa[eF,ak]using this
  rw[e];exact⟨.aA (bs.all id),H,I.kept λb ob z=>k b ob (by simpa using dR (c5 z)) (dm _ z),rfl,q⟩
inductive ajX(K:aY)(xs:aW)(H:ae)(Q:a'):Prop where
 |mk (x c:V) (MZ:String) (t:Value) (b:Bool) (bM:xs=[x,c]) (bu:c=.ty MZ/\ma K H x t/\jI K t (.type MZ)=some b) (bW:Q (.aA b) H)
theorem oc:jV X (.builtin "isinstance") (ajX X.K):=by intro pins s σ H xs us Q I r h;obtain⟨x,c,MZ,t,b,rfl,⟨rfl,ty,e⟩,q⟩:=h;obtain⟨u,eJ,rfl,ez,hy⟩:=vals2 r;cases hy;exact Ľ I ez ty e λa5=>⟨.aA b,H,I.tok a5,rfl,q⟩
mutual
inductive lO(K:aY)(H:ae):V->PyData->Prop
 |bc:lO K H .bc .none
 |aA (b:Bool):lO K H (.aA b) (.bool b)
 |int (i:Int):lO K H (.int i) (.int i)
 |str (x:Str):lO K H (.str x) (.str x)
 |lst {a:Addr} {xs:aW} {ds:gx}:aC K H a xs->iT K H xs ds->lO K H (.ref a) (.list ds)
 |tup {a:Addr} {xs:aW} {ds:gx}:bI K H a xs->iT K H xs ds->lO K H (.ref a) (.tuple ds)
inductive iT(K:aY)(H:ae):List V->List PyData->Prop
 |nil:iT K H [] []
 |cons {v:V} {d:PyData} {vs:aW} {ds:gx}:lO K H v d->iT K H vs ds->iT K H (v::vs) (d::ds)
end
end
section
variable{X:bo}{pins:dP}{σ:St}{H:ae}{s:aK}
mutual
theorem x3(I:Inv X pins σ H s):∀{v:V}{d:PyData}{u:Value},lO X.K H v d->RelV v u->∃as,Reads s.heap u d as
 |_,_,_,.bc,r=>by cases r;exact⟨_,.none⟩
 |_,_,_,.aA b,r=>by cases r;exact⟨_,.bool b⟩
 |_,_,_,.int i,r=>by obtain⟨t,rfl⟩:=r;exact⟨_,.int i t⟩
 |_,_,_,.str x,r=>by obtain⟨t,rfl⟩:=r;exact⟨_,.str x t⟩
 |_,_,_,.lst h ds,r=>by cases r;obtain⟨its,cf,⟨o,n,e,c,_,d⟩,_⟩:=I.list h;obtain⟨as,q⟩:=RV I ds cf;exact⟨_,.list e c d (by simpa using q)⟩
 |_,_,_,.tup h ds,r=>by cases r;obtain⟨its,cf,⟨o,e,c,n,d⟩,_⟩:=I.tuple h;obtain⟨as,q⟩:=RV I ds cf;exact⟨_,.tuple e c d (by simpa using q)⟩
theorem RV(I:Inv X pins σ H s):∀{vs:aW}{ds:gx}{us:c7},iT X.K H vs ds->cN vs us->∃as,ReadsAll s.heap us ds as
 |_,_,_,.nil,.nil=>⟨_,.nil⟩
 |_,_,_,.cons a b,.cons r t=>by obtain⟨as,q⟩:=x3 I a r;obtain⟨bs,gs⟩:=RV I b t;exact⟨_,.cons q gs⟩
end
end
section
variable{X:bo}
inductive Xo(K:aY)(neg:Bool)(x:ar.V)(y:ar.V)(H:ae)(Q:a'):Prop where
 |mk (d:_) (e:_) (bM:lO K H x d) (bu:lO K H y e) (bW:n3 d=true) (cW:n3 e=true) (dD:Q (.aA (if neg then !hn d e else hn d e)) H)
theorem K1(b_:X.A.units+64<cLine):fO X (gA .Eq) (Xo X.K false):=by intro pins s σ H x y v u Q I bt bC h;obtain⟨d,e,hd,he,dO,cP,q⟩:=h;obtain⟨as,hV⟩:=x3 I hd bt;obtain⟨bs,qR⟩:=x3 I he bC;exact eq_dataH hV qR dO cP b_ ⟨.aA _,H,I,rfl,q⟩
theorem Bo(b_:X.A.units+64<cLine):fO X (gA .NotEq) (Xo X.K true):=by intro pins s σ H x y v u Q I bt bC h;obtain⟨d,e,hd,he,dO,cP,q⟩:=h;obtain⟨as,hV⟩:=x3 I hd bt;obtain⟨bs,qR⟩:=x3 I he bC;exact ne_dataH hV qR dO cP b_ ⟨.aA _,H,I,rfl,q⟩
mutual
theorem Ji:∀d:PyData,d.canLay0=true->hn d d=true
 |.none,_=>rfl
 |.bool b,_=>by simp[hn]
 |.int i,_=>by simp[hn]
 |.str x,_=>by simp[hn]
 |.list xs,h=>by simp only[hn];exact Qs xs h
 |.tuple xs,h=>by simp only[hn];exact Qs xs h
 |.dict _,h=>by cases h
theorem Qs:∀ds:List PyData,p8 ds=true->PyData.eqvAll ds ds=true
 |[],_=>rfl
 |d::r,h=>by simp only[p8,iB]at h;simp only[PyData.eqvAll,Ji d h.1,Qs r h.2,Bool.and_self]
end
noncomputable def se(val:Nat->Str):Nat->Str->Bool
 |0=>λ_=>false
 |i+1=>λk=>se val i k||decide (k=val i)
noncomputable def ut(val:Nat->Str):Nat->Nat
 |0=>0
 |i+1=>if se val i (val i)then ut val i else ut val i+1
theorem UL(val:Nat->Str):∀i,ut val i<=i
 |0=>bU _
 |i+1=>by have:=UL val i;unfold ut;split<;>omega
theorem Th(val:Nat->Str)(k:Str):∀i,se val i k=true↔∃j,j<i/\val j=k
 |0=>by simp[se]
 |i+1=>by
  simp only[se,Bool.or_eq_true,Th val k i,decide_eq_true_eq];constructor
  .rintro(⟨j,bg,e⟩|e)
   .exact⟨j,by omega,e⟩
   .exact⟨i,by omega,e.symm⟩
  .rintro⟨j,bg,e⟩;by_cases h:j=i
   .subst h;exact .inr e.symm
   .exact .inl ⟨j,by omega,e⟩
theorem Ti(val:Nat->Str):∀n,(∀i j,i<j->j<n->val i≠val j)->ut val n=n
 |0,_=>rfl
 |n+1,h=>by
  have a3:=Ti val n λi j a b=>h i j a (by omega);have hm:¬se val n (val n)=true:=λz=>by obtain⟨j,bg,e⟩:=(Th val (val n) n).mp z;exact h j n bg (by omega) e
  unfold ut;rw[bp hm,a3]
theorem ZV(x:Str)(t:Tok):Mm x (.str x t)=true:=by simp[Mm]
theorem abl{A:du}{R:my->aK->Prop}{bR wr:cj}{n:Nat}{Pv:Nat->Value->Prop}{CK:Nat->Heap->Prop}(W:sS prog w A.in1 I bR wr n Pv CK)(S:Addr)(u2:S∉bR)(val:Nat->Str)(OY:∀i v,Pv i v->∃t,v=.str (val i) t)(aa:n+1<scanBound):∀(k i:Nat)(s:aK),n-i=k->i<=n->CK i s.heap->s.heap.SetOf (strKind prog w) S (se val i) (ut val i)->
   (∀h' a5,(∀b o,b≠S->b∉wr->s.heap.get? b=some o->h'.get? b=some o)->h'.SetOf (strKind prog w) S (se val n) (ut val n)->R (.ok (.ret .none)) {s with heap:=h',toks:=a5})->
   iH (aX prog w) A (.builtin "set.update.loop" ⟨[.ref S,.ref I],[]⟩) R s:=by
 have Di:S∉wr:=λz=>u2 (W.sub _ z);have stays:∀{h h':Heap}{lV:Str->Bool}{m:Nat},(∀o,h.get? S=some o->h'.get? S=some o)->h.SetOf (strKind prog w) S lV m->h'.SetOf (strKind prog w) S lV m:=λbP⟨o,es,ep,t,aU,r⟩=>⟨o,es,ep,t,bP o aU,r⟩
 intro k
 induction k with
 |zero=>
  intro i s aP ak st c4 cK;obtain rfl:i=n:=by omega
  refine kz LX ?_;rw[mm Ct _];show aL _ A.in1 (ig (.ref I) >>=_) _ _ s;refine au (W.done s _ _ st λh' a5 bP=>?_);show aL _ A.in1 (ret gm) _ _ _;exact aT (cK h' a5 (λb o _ aa e=>bP b o aa e) (stays (λo e=>bP S o Di e) c4))
 |succ k a3=>
  intro i s aP ak st c4 cK;have cz:i<n:=by omega
  refine kz LX ?_;rw[mm Ct _];show aL _ A.in1 (ig (.ref I) >>=_) _ _ s;refine au (W.item i s _ _ cz st λv ag a5 f6 Q9 bP=>?_);obtain⟨t,rfl⟩:=OY i v f6;have td:=stays (λo e=>bP S o Di e) c4;show aL _ A.in1 (mU [w4 (val i) t] (setAdd S (.str (val i) t)) >>=_) _ _ _;refine au (hA ?_);unfold setAdd;refine hA (au ((strKind prog w).pyHash (k:=val i) (ZV (val i) t) ?_));have am5:ut val i+1<scanBound:=by have:=UL val i;omega
  refine wpAny_setAddHashed_of (knd:=strKind prog w) (ZV (val i) t) rfl td am5 λai b4 Hi=>?_;refine aT ⟨lF Ct _,a3 (i+1) _ (by omega) cz (W.frame _ _ _ Q9 λb dC o e=>(b4.2 b λz=>u2 (z▸dC)).trans e) Hi λbK RD Pj z6=>?_⟩;exact cK bK RD (λb o hP fS e=>Pj b o hP fS ((b4.2 b hP).trans (bP b o fS e))) z6
set_option maxHeartbeats 8000000 in
theorem Ŏ{A:du}{E:cc}{s:aK}{items:kV}{val:Nat->Str}{Q:cc}(dr:A.handled=none)(aw:s.heap.IsList l items)(OY:∀(i:Nat)(v:Value),items[i]?=some v->∃t,v=.str (val i) t)(aa:items.size+1<scanBound)(h:∀(h':Heap)(a5:Nat),h'.SetOf (strKind prog w) s.heap.objs.size (se val items.size) (ut val items.size)->(∀b o,s.heap.get? b=some o->h'.get? b=some o)->Q (.ref s.heap.objs.size) {s with heap:=h',toks:=a5}):
  aL (aX prog w) A (call (.type "set") [.ref l]) Q E s:=by
 obtain⟨c,dA,amO⟩:=F.called_set.mro;have ib:=F.called_set.made;have jA:=F.called_set.sub;have H4:=F.called_set.notType;have H5:=F.called_set.canCreate;have Pw:=F.typeCall_set_1 (.ref l);refine pQ (MX ?_);show aL _ _ (callAny (.type "set") _) _ _ _;refine aT ⟨Fj _ (by decide+kernel),kz F.entry_type_call ?_⟩;rw[Ő (aqo "set" [.ref l] []) rfl]
 repeat (any_goals (first|assumption|wp_step))
 generalize qw:s.heap.objs.size=S at *;refine qm (code_set_new_1 (.ref l) (E:=E) (Q₁:=λob s1=>∃led:Bool,ob=.ref S/\s1={s with heap:=s.heap.push {cls:=.type "set",dict:=none,data:=.set #[] 0 (.fresh 0 0 led)}}) λled=>⟨led,by rw[qw],rfl⟩) λr s1 ao=>?_;cases r with
 |error e=>exact ao
 |ok ft=>
  cases ft with
  |ret ob=>
   obtain⟨led,rfl,rfl⟩:=ao;have rx:(s.heap.push {cls:=.type "set",dict:=none,data:=.set #[] 0 (.fresh 0 0 led)}).get? S=some {cls:=.type "set",dict:=none,data:=.set #[] 0 (.fresh 0 0 led)}:=by rw[<-qw];exact fM _ rfl
   have kf:Shared.TypeIs {s with heap:=s.heap.push {cls:=.type "set",dict:=none,data:=.set #[] 0 (.fresh 0 0 led)}} (.ref S) "set":=⟨_,rx,rfl⟩
   have cE:=F.called_set.init.lookup;have c':=F.called_set.init.bind (.ref S)
   repeat (any_goals (first|assumption|wp_step))
   refine qm (uK (R:=wants (λr s2=>r=.none/\∃h' a5,s2={s with heap:=h',toks:=a5}/\h'.SetOf (strKind prog w) S (se val items.size) (ut val items.size)/\(∀b o,s.heap.get? b=some o->h'.get? b=some o)) E)
    F.called_set.init.plain F.entry_set_init (akH kf ?_)) λdh s2 l4=>?_
   .obtain⟨⟨km,cV,aoV,l_⟩,lj,u7,nl,u9⟩:=id aw;simp only at u7 u9;subst u7 u9;have amW:=dm (h:=s.heap) {cls:=.type "set",dict:=none,data:=.set #[] 0 (.fresh 0 0 led)} lj;have dz:=F.sub_list_set;have d_:=F.sub_list_frozenset;have qL:(nk "list"==nk "dict")=false:=by decide
    have gR:=aw.push (o:={cls:=.type "set",dict:=none,data:=.set #[] 0 (.fresh 0 0 led)});unfold Builtin.«set.__init__» noKeywords Ţ;generalize NP:AR=n0
    wp_walk
    subst NP;refine Bu gR (au (ē ?_));have Ds:l<S:=by rw[<-qw];exact c5 lj
    have hsz:(s.heap.push {cls:=.type "set",dict:=none,data:=.set #[] 0 (.fresh 0 0 led)}).objs.size=S+1:=by rw[sA,qw]
    refine abl (CQ (A:=A.in1.in1.in1) (by simp[dr]) _ l (by rw[hsz];exact dR (sN Ds)) items) S ?_ val OY aa (items.size-0) 0 _ (by omega) (eZ _) ⟨⟨_,fM _ rfl,rfl,rfl⟩,gR.push _⟩ ?_ ?_
    .rw[hsz];simp only[dv,eo,or_false,not_or];exact⟨dR (ur _),zC Ds⟩
    .have amx:=dm (h:=s.heap.push {cls:=.type "set",dict:=none,data:=.set #[] 0 (.fresh 0 0 led)}) {cls:=.type "list_iterator",data:=.fields #[.ref l,.int 0 0]} rx;exact(arz (knd:=strKind prog w) led).setOf amx (by unfold scanBound;omega)
    .intro h' a5 bP tc;show aL _ _ _ _ _ _;refine aT ?_;show aL _ _ (ret gm) _ _ _;refine aT ⟨rfl,h',a5,rfl,tc,λb o e=>?_⟩;have u4:b<S:=by rw[<-qw];exact c5 e
     exact bP b o (dR u4) (λz=>dR (sN u4) (by rw[hsz]at z;simpa using z)) (dm _ (dm _ e))
   .cases dh with
    |error e=>exact l4
    |ok Nz=>
     cases Nz with
     |ret r=>
      obtain⟨rfl,h',a5,rfl,tc,bP⟩:=l4
      repeat (any_goals (first|assumption|wp_step))
      exact h _ _ tc bP
     |_=>exact l4.elim
  |_=>exact ao.elim
noncomputable def Gv(P:cG)(w:bS)(a:Addr)(n:Nat):f_:=.ext λh=>∃S,h.SetOf (strKind P w) a S n
theorem ado(aq:X.calm=true):jV X (.type "set") (λxs H Q=>∃(p:Addr)(ys:cb),xs=[.ref p]/\aC X.K H p (ys.map V.str)/\ys.length<1000/\∀q,H q=none->Q (.ref q) (upd H q (Gv X.prog X.w q (ut (λi=>ys.getD i o4) ys.length)))):=by
 intro pins s σ H xs us Q I r h;obtain⟨p,ys,rfl,a8,aw,q⟩:=h;obtain⟨u,rfl,ez⟩:=vals1 r;cases ez;obtain⟨its,cf,pl,hz⟩:=I.list a8;have hlen:ys.length=its.length:=by have:=cf.length;rwa [bk]at this
 have hsz:its.toArray.size=ys.length:=by rw[hlen];rfl
 refine Ŏ (val:=λi=>ys.getD i o4) (I.ok.hd aq) pl.isList (λi v e=>?_) (by rw[hsz];unfold scanBound;omega) λh' a5 c4 bP=>?_
 .have bJ:its[i]?=some v:=by simpa using e
  have ak:i<ys.length:=by rw[hlen];exact(eb.mp bJ).1
  have aa:(ys.map V.str)[i]?=some (V.str (ys.getD i o4)):=by rw[cx,cF ak];simp[eF,ak]
  obtain⟨u',aB,b9⟩:=cf.get aa;rw[bJ]at aB;cases aB;exact b9
 .rw[hsz]at c4;refine⟨.ref s.heap.objs.size,_,I.laid bP (bU _) ?_,rfl,q _ (I.bf.fresh (bU _))⟩;obtain⟨o,es,ep,t,aU,b9⟩:=id c4;exact⟨⟨_,c4⟩,⟨o,aU⟩,λag ai⟨lV,cB,kB,rp,t',iL,dh⟩anE=>⟨lV,cB,kB,rp,t',anE _ iL,dh⟩⟩
theorem aqP:jV X (.builtin "len") (λxs H Q=>∃q n,xs=[.ref q]/\H q=some (Gv X.prog X.w q n)/\Q (.int n) H):=by
 intro pins s σ H xs us Q I r h;obtain⟨a,n,rfl,a8,q⟩:=h;obtain⟨u,rfl,ez⟩:=vals1 r;cases ez;obtain⟨⟨S,o,es,ep,t,aU,hex,hd,_,_,aa,hf,aM⟩,_,_⟩:=(show eI X.prog X.w H s.heap a (Gv X.prog X.w a n)from I.bf a _ a8)
 subst aM;have amu:(es.size:Int)<2 ^ 63:=by unfold scanBound at aa;omega
 exact call_len_set aU hex hd hf amu ⟨.int es.size,H,I.tok _,⟨_,rfl⟩,q⟩
theorem aha{h:Heap}(x:eI P w H h a o):∃ob,h.get? a=some ob:=by
 cases o with
 |lst xs=>obtain⟨_,_,_,_,e⟩:=x;exact⟨_,e⟩
 |tup xs=>obtain⟨_,_,_,ob,e,_⟩:=x;exact⟨ob,e⟩
 |bN kvs=>obtain⟨_,_,_,_,ob,_,_,e,_⟩:=x;exact⟨ob,e⟩
 |d4 kvs=>obtain⟨_,_,_,_,ob,_,_,e,_⟩:=x;exact⟨ob,e⟩
 |set S n=>obtain⟨ob,_,_,_,e,_⟩:=x;exact⟨ob,e⟩
 |ins C af fs=>obtain⟨_,_,_,e,_⟩:=x;exact⟨_,e⟩
 |own y=>obtain⟨ob,e⟩:=x;exact⟨ob,e⟩
 |Ka fs=>obtain⟨_,⟨ob,_,_,e,_⟩,_⟩:=x;exact⟨ob,e⟩
 |I4 lo ak=>obtain⟨_,_,_,e⟩:=x;exact⟨_,e⟩
 |fi ob u=>obtain⟨e,_⟩:=x;exact⟨_,e⟩
 |r9 ps=>exact⟨_,(show h.get? a=some _ from x)⟩
 |met f y=>exact⟨_,(show h.get? a=some _ from x)⟩
 |ext sj=>obtain⟨_,⟨ob,e⟩,_⟩:=x;exact⟨ob,e⟩
theorem adp{H:ae}{h:Heap}(ok:fE P w H h)(e:h.get? a=none):H a=none:=by
 cases q:H a with
 |none=>rfl
 |some o=>
  obtain⟨ob,z⟩:=aha (ok a o q);rw[e]at z;cases z
structure om(P:cG)(w:bS)(fr:List Env)(H:ae)(s:aK)(a4:Addr)(cls a0:Value)(H':ae)(B:Heap)(s':aK):Prop where
 ft:ue B fr a4 cls a0 s'.heap
 os:s'.os=s.os
 bare:sq s'.gens
 ok:fE P w H' B
 un:h2 (fu fr) [] H H' s.heap s'.heap
 ll:∀b o,s.heap.get? b=some o->b∉fu fr->∃cB,B.get? b=some cB/\(H b=none->cB=o)
noncomputable def f9(P:cG)(w:bS):pW:=λfr H s E e s'=>∃(a4:Addr)(cls a0:Value)(H':ae)(B:Heap),e=.ref a4/\om P w fr H s a4 cls a0 H' B s'/\E cls none H'
end
section
variable{P:cG}{w:bS}{fr:List Env}{H H':ae}{s s':aK}{a4:Addr}{cls a0:Value}{B:Heap}
theorem om.move(T:om P w fr H s a4 cls a0 H' B s'){ai:Heap}(ft:ue B fr a4 cls a0 ai)(up:s'.heap.UpToSlots ai):om P w fr H s a4 cls a0 H' B {s' with heap:=ai}:=by
 refine⟨ft,T.os,T.bare,T.ok,⟨λb o e n aa av=>?_,λb o e n aa av=>?_,T.un.free,λb o e av=>?_,T.un.ij,T.un.jr,T.un.j0⟩,T.ll⟩
 .obtain⟨cB,z,q⟩:=T.ll b o e aa;rw[q n]at z;exact ft.1 b o z
 .obtain⟨sl,z⟩:=T.un.slot b o e n aa av;obtain⟨_,ob,bJ,gr⟩:=T.ft.2.2.1.mem aa;rw[z]at bJ;cases bJ;obtain⟨kp,dk⟩:=up b _ z gr;exact⟨kp,dk⟩
 .by_cases aa:b∈fu fr
  .obtain⟨_,ob,bJ,gr⟩:=T.ft.2.2.1.mem aa;obtain⟨kp,dk⟩:=up b _ bJ gr;exact⟨_,dk⟩
  .obtain⟨cB,z,_⟩:=T.ll b o e aa;exact⟨cB,ft.1 b cB z⟩
theorem om.bf(T:om P w fr H s a4 cls a0 H' B s'):fE P w H' s'.heap:=T.ok.kept λb u e=>T.ft.1 b u e
theorem om.new(T:om P w fr H s a4 cls a0 H' B s'):H' a4=none:=adp T.ok T.ft.2.1
theorem om.aoy(T:om P w fr H s a4 cls a0 H' B s')(e:s.heap.get? b=some o):b≠a4:=by
 rintro rfl;by_cases aa:b∈fu fr
 .obtain⟨_,ob,bJ,gr⟩:=T.ft.2.2.1.mem aa;obtain⟨vM,vs,he,_,hd,_⟩:=T.ft.first;rw[he]at bJ;cases bJ;exact gr vs hd
 .obtain⟨cB,z,_⟩:=T.ll b o e aa;rw[T.ft.2.1]at z;cases z
end
section
variable{P:cG}{w:bS}{K:aY}{mg:cw}{base:Heap}{N:cb}{qual:Str}{scope:Scope}{f:Addr}{cdv:Value}{A:du}{outer:List Env}{s:aK}{H:ae}{E:bX}
noncomputable abbrev fZ(P:cG)(w:bS)(K:aY)(mg:cw)(base:Heap)(N:cb)(qual:Str)(scope:Scope)(f:Addr)(cdv:Value)(A:du)(outer:List Env)(s:aK)(H:ae)(E:bX):bo:=
 jB (f9 P w) P w K mg base N qual scope f cdv A outer s H E
theorem A1(I:Inv (fZ P w K mg base N qual scope f cdv A outer s H E) pins σ H1 s1){b:Addr}(e:s.heap.get? b=some o)(aa:b∉fu outer):
  b∉fu (fZ P w K mg base N qual scope f cdv A outer s H E).stack:=λz=>by
 rcases dv.mp (I.Es b z)with q|q
 .have l:=c5 e;have d9:s.heap.objs.size<=b:=by have:=I.ok.above;rw[<-q]at this;exact this
  exact q_ _ (iX l d9)
 .exact aa q
theorem ž{s1:aK}{h':Heap}(I:Inv (fZ P w K mg base N qual scope f cdv A outer s H E) pins σ H1 s1)(av:T7 s1.heap h' a4 cls vs)(i2:E cls none H1):(fZ P w K mg base N qual scope f cdv A outer s H E).dZ (.ref a4) {s1 with heap:=h'}:=by
 have Dp:=I.ok.frames;have og:∀env∈(fZ P w K mg base N qual scope f cdv A outer s H E).stack,∀b,env.frame=some b->b∈fu (fZ P w K mg base N qual scope f cdv A outer s H E).stack:=λenv he b aa=>Ls.mpr ⟨env,he,aa⟩;have Dw:∀b o,H1 b=some o->b∉fu (fZ P w K mg base N qual scope f cdv A outer s H E).stack:=λb o e z=>by rw[I.Jv b z]at e;cases e
 refine wpAny_leaves_madeW (base:=wX s1.heap (fu (fZ P w K mg base N qual scope f cdv A outer s H E).stack)) Dp rfl (λb o q=>V' _ q) (ad5 I.stack og) av λai t e4 jF oL oM=>?_;have ll:∀b o,s1.heap.get? b=some o->b∉fu (fZ P w K mg base N qual scope f cdv A outer s H E).stack->(wX s1.heap (fu (fZ P w K mg base N qual scope f cdv A outer s H E).stack)).get? b=some o:=λb o e n=>V7 _ e n;refine⟨a4,cls,.ref t,H1,_,rfl,⟨e4,I.os,I.bare,λb ob e=>(I.bf b ob e).nM (λc u aq q=>ll c u q ?_) (λ_ q=>q) λ_ _ q=>q,⟨λb o e n aa fB=>?_,λb o e n aa fB=>?_,I.base.free,λb o e fB=>?_,I.base.ij,I.base.jr,I.base.j0⟩,λb o e aa=>?_⟩,i2⟩
 .rcases aq with rfl|aq
  .exact Dw c _ e
  .exact Dw c _ aq
 .exact e4.1 b o (ll b o (I.base.keep b o e n aa fB) (A1 I e aa))
 .obtain⟨sl,z⟩:=I.base.slot b o e n aa fB;obtain⟨_,ob,bJ,gr⟩:=I.kD.mem aa;rw[z]at bJ;cases bJ;obtain⟨kp,dk⟩:=oM b _ (av.keeps _ _ z) gr;exact⟨kp,dk⟩
 .obtain⟨cB,z⟩:=I.base.there b o e fB;by_cases aa:b∈fu outer
  .obtain⟨_,ob,bJ,gr⟩:=I.kD.mem aa;obtain⟨kp,dk⟩:=oM b _ (av.keeps _ _ bJ) gr;exact⟨_,dk⟩
  .exact⟨cB,e4.1 b cB (ll b cB z (A1 I e aa))⟩
 .obtain⟨cB,z⟩:=I.base.there b o e (by simp[fZ,jB]);refine⟨cB,ll b cB z (A1 I e aa),λn=>?_⟩;have bu:=I.base.keep b o e n aa (by simp[fZ,jB]);rw[z]at bu;exact gV bu
theorem rF:qG (f9 P w) (fZ P w K mg base N qual scope f cdv A outer s H E) E:=by
 rintro pins σ b' sc e s' I ⟨a4,cls,a0,H',B,rfl,T,i2⟩;refine aqv I.ok.frames rfl T.ft λai e4 jF=>?_;have uy:h2 (fu (fZ P w K mg base N qual scope f cdv A outer s H E).stack) [] b' H' sc.heap s'.heap:=T.un;have ye:∀b o,s.heap.get? b=some o->b∉fu outer->∃cB,B.get? b=some cB/\(H b=none->cB=o):=λb o e aa=>by obtain⟨kk,z⟩:=I.base.there b o e (by simp[fZ,jB]);obtain⟨cB,dk,q⟩:=T.ll b kk z (A1 I e aa);refine⟨cB,dk,λn=>?_⟩;have bu:=I.base.keep b o e n aa (by simp[fZ,jB]);rw[z]at bu;cases bu;exact q (I.base.free b _ e n (by simp[fZ,jB]))
 refine⟨a4,cls,a0,H',B,rfl,⟨e4,T.os.trans I.os,T.bare,T.ok,⟨λb o e n aa fB=>?_,λb o e n aa fB=>?_,λb o e n fB=>?_,λb o e fB=>?_,λb xs q=>T.un.ij b xs (I.base.ij b xs q),λb o u q=>T.un.jr b o u (I.base.jr b o u q),λb ps q=>?_⟩,ye⟩,i2⟩
 .obtain⟨cB,z,q⟩:=ye b o e aa;rw[q n]at z;exact e4.1 b o z
 .obtain⟨sl,z⟩:=I.base.slot b o e n aa fB;have dC:b∈fu (fZ P w K mg base N qual scope f cdv A outer s H E).stack:=by show b∈fu (_::outer);unfold fu;rw[B4];exact ng _ aa
  obtain⟨Er,bu⟩:=uy.slot b _ z (I.base.free b o e n fB) dC (by simp);obtain⟨_,ob,bJ,gr⟩:=T.ft.2.2.1.mem dC;rw[bu]at bJ;cases bJ;obtain⟨kp,dk⟩:=jF b _ bu gr;exact⟨kp,dk⟩
 .obtain⟨kk,z⟩:=I.base.there b o e fB;exact uy.free b kk z (I.base.free b o e n fB) (by simp)
 .by_cases aa:b∈fu outer
  .obtain⟨_,ob,bJ,gr⟩:=e4.2.2.1.mem aa;exact⟨ob,bJ⟩
  .obtain⟨cB,z,_⟩:=ye b o e aa;exact⟨cB,e4.1 b cB z⟩
 .obtain⟨ib,az⟩:=I.base.j0 b ps q;obtain⟨jA,aB⟩:=T.un.j0 b _ az;exact⟨ib++jA,by rw[aB,SU]⟩
structure Exc(K:aY)(mg:cw)(x:Str)(C:Addr)(bm:c7)(gY:String):Prop where
 bound:mg x=some (.ref C)
 obj:Cy K C bm gY=true
theorem Exc.own(e:Exc K mg x C bm gY)(X:K.In h):OwnCls x C bm gY mg h:=by
 refine⟨e.bound,?_⟩;have q:=e.obj;unfold Cy at q;split at q
 .rename_i dd cd sl aU;split at q
  .rename_i BL MR k0 k1 k2 k3 n k5 hm hs;simp only[iB,o6,SW]at q;obtain⟨⟨⟨⟨⟨rfl,rfl⟩,Dl⟩,dM⟩,bf⟩,Ae⟩:=q;obtain⟨nm,bs,mro,ns,qP,hd,sn,sub,ab,col,del⟩:=cd;dsimp only at hm Dl bf Ae;subst hm Dl;obtain⟨á⟩:=sl;simp only at hs;subst hs;exact⟨MR,ns,nm,qP,bs,hd,sn,sub,ab,col,dd,k0,k1,k2,k3,k5,_,X _ _ aU,.of_isNs (PySem.W.isNs_of_in X bf),PySem.W.nsMap_none_of_in X bf Ae,PySem.W.tail_of_in X dM⟩
  .cases q
 .cases q
noncomputable def ahb(C:Addr)(E:bX)(bQ:fP):e':=λ_ σ H=>bQ σ H λvs H1=>vs.length<=sizeLine/\E (.ref C) none H1
theorem Jm{fz:Pos}{cD:Expr}{es:hF}{bQ:fP}(F:y7 B gY vh bm)(O:Exc K mg x C bm gY)(bE:jd (fZ P w K mg base N qual scope f cdv A outer s H E) x)(aF:gw (fZ P w K mg base N qual scope f cdv A outer s H E) (cD::es) bQ)(jx:(x==("__debug__":Str))=false:=by decide)(he:dY (cD::es) (fZ P w K mg base N qual scope f cdv A outer s H E).env=(false,eval cD (fZ P w K mg base N qual scope f cdv A outer s H E).env)::dY es (fZ P w K mg base N qual scope f cdv A outer s H E).env:=by rfl)(fH:(hp fz (dY es (fZ P w K mg base N qual scope f cdv A outer s H E).env)).any (·.1)=false:=by rfl):
  gI (fZ P w K mg base N qual scope f cdv A outer s H E) (.Raise (some (.Call (.Name x np) (cD::es) [] fz)) none pos) (ahb C E bQ):=by
 intro pins s1 σ H1 D I h;obtain⟨dA,Vx,nm,q,bs,hdct,sn,sub,ab,col,dd,k0,k1,k2,k3,k5,mN,ey,eW,Ae,T⟩:=(O.own I.mod.vB).obj;have u7:Cy K C bm gY=true:=O.obj;refine wpAny_Raise_call_subT (C:=C) (nm:=nm) (q:=q) (N:=Vx) (bs:=bs) (bm:=dA) (hdct:=hdct) (sn:=sn) (sub:=sub) (ab:=ab) (col:=col) (dd:=dd) (k0:=k0) (k1:=k1) (k2:=k2) (k3:=k3) (k5:=k5)
  F (mN:=mN) (T.hasType F.hasBase) (I.ok.hd rfl) ?_ Ae (vD I bE O.bound ⟨rfl,?_⟩ jx)
 .rw[he];show(false||(hp fz (dY es (fZ P w K mg base N qual scope f cdv A outer s H E).env)).any (·.1))=false;rw[fH];rfl
 .have l2:=aF fz pins s1 σ H1 _ I h;rw[he]at l2⊢;refine BO (bD l2 λus s2⟨vs,ah,bH,dh,z,i2⟩=>⟨rfl,by rw[<-dh.length];exact z,bH.hq _ _ ey,eW.keeps bH.hq,T.keeps bH.hq,λh' a4 hm=>ž bH hm i2⟩)
theorem pE{st:Stmt}{ps:cb}{k:Nat}{sp:kU}(F:cC K x qual st f fd)(S:c3 N ps (cn st))(xF:∀(cdv:Value)(A:du)(outer:List Env)(s:aK)(H:ae)(vs:aW)(Q:a')(E:bX),gC k (A.deeper (o_ qual (cn st) s.heap.objs.size f cdv))->sp vs H Q E->
   ∃t,g6 (fZ P w K mg base N qual (cn st) f cdv A outer s H E) (k_ st) t/\t {b1:=λ_ H'=>Q .bc H',rW:=Q} (start N vs) H)(len:∀vs H Q E,sp vs H Q E->vs.length=ps.length:=by intro _ _ _ _ h;first|(cases h;subst_vars;rfl)|((repeat obtain⟨_,h⟩:=h);subst_vars;rfl)):aS P w K mg base (f9 P w) (k+1) f fd ps sp:=by obtain⟨km,cV,c9,doc,pm,an,cdv,eL,l_,rfl,lk,lg⟩:=F.ex;exact LC lk lg S len λA outer s H vs Q E ao pg=>xF cdv A outer s H vs Q E ao pg
noncomputable abbrev Gp:=bX->TE
noncomputable abbrev Gr:=Ends->(St->bX)->St->ae->Prop
end
section
variable{X:bo}{e o:Expr}{es:hF}{pos fq p:Pos}{k:Nat}{f C:Addr}{fd:m_}{ps:cb}{sp:kU}{bQ:TE}{t:fP}{m x:Str}
theorem Κ{α:Type}{X:bo}{pins:dP}{M:mu}{c:Sem α}{Q:α->aK->Prop}{E:cc}(h:aL M A c Q (λ_ _=>False) s):aL M A c Q E s:=
 gi h (λ_ _ q=>q) λ_ _ z=>iU z
noncomputable def ahc(C:Addr)(m:Str)(sp:kU)(bQ:TE)(t:fP):Gp:=λE=>LK C m sp [] E bQ t
noncomputable def ahd(b6:Gp):Gr:=λD E σ H=>b6 (E σ) σ H λ_ H1=>D.b1 σ H1
end
noncomputable def tG(K:aY)(C R:Addr):Bool:=match K.lookup C with
 |some ⟨.type "type",_,.cls cd,sl⟩=>(match cd.mro,sl.toList with
  |.ref BL::bm,[_,_,_,_,some (.builtin _),_]=>BL==C&&!cd.hasDel&&bm.contains (.type "BaseException")&&(cu C::bm).contains (.ref R)
  |_,_=>false)
 |_=>false
theorem ĉ{K:aY}{h:Heap}{C:Addr}(X:K.In h)(q:tG K C R=true):∃nm qP N bs bm hdct sn sub ab col dd k0 k1 k2 k3 k5 gY,
  h.get? C=some (zZ nm qP C N bs bm hdct sn sub ab col dd k0 k1 k2 k3 k5 gY)/\bm.contains (.type "BaseException")=true/\(cu C::bm).contains (.ref R)=true:=by
 unfold tG at q;split at q
 .rename_i dd cd sl aU;split at q
  .rename_i BL bm k0 k1 k2 k3 n k5 hm hs;simp only[iB,SW]at q;obtain⟨⟨⟨bz,Dl⟩,aa⟩,ao⟩:=q;have bz:=o6.mp bz;subst bz;obtain⟨nm,bs,mro,ns,qP,hd,sn,sub,ab,col,del⟩:=cd;dsimp only at hm Dl;subst hm Dl;obtain⟨á⟩:=sl;simp only at hs;subst hs;exact⟨nm,qP,ns,bs,bm,hd,sn,sub,ab,col,dd,k0,k1,k2,k3,k5,n,X _ _ aU,aa,ao⟩
  .cases q
 .cases q
theorem afr{M:mu}{E:cc}{K:aY}{s:aK}{vM:Obj}{Q:Bool->aK->Prop}(X:K.In s.heap)(aq:tG K C R=true)(ao:tG K R R=true)(he:s.heap.get? a4=some vM)(Oc:vM.cls=.ref C)(a8:Q true s):aL M A (excMatches (.ref a4) (.ref R)) Q E s:=by
 obtain⟨nm,qP,N,bs,bm,hdct,sn,sub,ab,col,dd,k0,k1,k2,k3,k5,gY,ey,aa,alS⟩:=ĉ X aq;obtain⟨aos,apd,N',akC,MR,auO,apI,apK,aiJ,akK,j_,au0,au1,au2,au3,au4,avn,cK,dC,auN⟩:=ĉ X ao;have N9:(cu R::MR).contains (.type "BaseException")=true:=by rw[abQ,dC,ŝ]
 have f:=tc_notTuple;obtain⟨aN,g,d,t,os⟩:=s;unfold excMatches
 repeat (first|(with_reducible refine j1 he ?_;rw[Oc])|with_reducible refine j1 cK ?_|(with_reducible refine Se cK ?_;rw[N9])|(with_reducible refine Se ey ?_;rw[alS])|wp_step)
 exact a8
noncomputable abbrev A2(X:bo)(a4:Addr):bo:={X with A:=X.A.mark (some (.ref a4)),calm:=false,dZ:=λ_ _=>False}
section
variable{X:bo}{pins:dP}{σ:St}{H:ae}{s:aK}
theorem Inv.Eu(I:Inv X pins σ H s)(a4:Addr):Inv (A2 X a4) pins σ H s:=
 ⟨⟨I.ok.mod,I.ok.kind,I.ok.glob,I.ok.blt,I.ok.above,I.ok.inj,I.ok.has,I.ok.xc,λz=>bx (show false=true from z) fU,I.ok.frames,I.ok.r4,I.ok.G9,I.ok.bs,I.ok.rl,I.ok.x6,I.ok.z0,I.ok.kD,I.ok.ta⟩,I.os,I.bare,I.base,I.loc,I.cell,I.free,I.mR,I.pin,I.bf,I.len⟩
theorem Inv.aqc(hd:X.calm=true->X.A.handled=none)(I:Inv (A2 X a4) pins σ H s):Inv X pins σ H s:=
 ⟨⟨I.ok.mod,I.ok.kind,I.ok.glob,I.ok.blt,I.ok.above,I.ok.inj,I.ok.has,I.ok.xc,hd,I.ok.frames,I.ok.r4,I.ok.G9,I.ok.bs,I.ok.rl,I.ok.x6,I.ok.z0,I.ok.kD,I.ok.ta⟩,I.os,I.bare,I.base,I.loc,I.cell,I.free,I.mR,I.pin,I.bf,I.len⟩
theorem Inv.forget{h':Heap}{t':Nat}{i:Nat}{x:Str}(I:Inv X pins σ H s)(eW:X.N.Nodup)(ak:X.N[i]?=some x)(hs:mn X.env.locals s.heap h')(Dv:∀m,s.heap.Ns X.env.locals m->∃v,h'.Ns X.env.locals (λy=>if y=x then v else m y)):Inv X pins (σ.set i none) H {s with heap:=h',toks:=t'}:=by
 obtain⟨m,aM,aw⟩:=id I.loc;obtain⟨v,oh⟩:=Dv m aM;have ql:=I.ql;have vI:∀b o,X.ix.heap.get? b=some o->b≠X.env.locals:=λb o e=>dR (iX (c5 e) I.ok.above);have Hv:i<σ.length:=by rw[I.len];exact(eb.mp ak).1
 refine⟨I.ok,I.os,I.bare,⟨λb o e n aa av=>(hs.2 b (vI b o e)).trans (I.base.keep b o e n aa av),λb o e n aa av=>?_,I.base.free,λb o e av=>?_,I.base.ij,I.base.jr,I.base.j0⟩,⟨_,oh,λj y u az aB cX=>?_⟩,λy c e=>?_,I.free,I.mR,λp aN=>?_,afq I.bf I.free hs,by simpa using I.len⟩
 .obtain⟨sl,z⟩:=I.base.slot b o e n aa av;exact⟨sl,(hs.2 b (vI b o e)).trans z⟩
 .obtain⟨cB,z⟩:=I.base.there b o e av;exact⟨cB,(hs.2 b (vI b o e)).trans z⟩
 .by_cases bg:j=i
  .subst bg;rw[Vg Hv]at aB;cases aB
  .rw[Vf (c2 bg)]at aB;obtain⟨u',b9,q⟩:=aw j y u az aB cX;refine⟨u',b9,?_⟩;rcases q with⟨k,e⟩|⟨k,c,e,z⟩
   .refine .inl ⟨k,?_⟩;have:y≠x:=λe=>bg (R' eW az (e▸ak));simp[this,e]
   .exact .inr ⟨k,c,e,z.sameBut hs (ql y c e)⟩
 .obtain⟨eJ,z⟩:=I.cell y c e;exact⟨eJ,z.sameBut hs (ql y c e)⟩
 .obtain⟨e,n,ne,gr,d⟩:=I.pin p aN;exact⟨(hs.2 p.1 ne).trans e,n,ne,gr,d⟩
theorem ŏ:iG "enumerate"=some (.type "enumerate"):=by decide+kernel
end
noncomputable def uh(K:aY)(a:Addr):fe:=
 ⟨λi H=>∃xs x,aC K H a xs/\xs[i]?=some x,λi H v H'=>∃p x,H p=none/\v=.ref p/\(∀xs,aC K H a xs->xs[i]?=some x)/\H'=upd H p (.tup [.int i,x]),λi H=>∃xs,aC K H a xs/\xs.length<=i⟩
theorem abm{K:aY}{k:Nat}(a e it:Addr)(Zg:e≠it):
  Turn P w K (.Tuple elts k pos) (uh K a) [e,it] e (λi h=>(∃old,IsEnum h e it ((i:Nat):Int) old)/\h.IsListIter it a i)where
 mem:=by simp
 obj:=λi h st b aa=>by
  obtain⟨⟨old,he⟩,o,aU,c,d⟩:=st;rcases dv.mp aa with rfl|aa
  .exact⟨_,he,λv z=>by
    have dk:Tb _=Fp v:=z;cases dk⟩
  .have q:b=it:=by simpa using aa
   subst q;exact⟨o,aU,λv z=>by rw[d]at z;cases z⟩
 keep:=λi h h' st bP=>by obtain⟨⟨old,he⟩,hit⟩:=st;exact⟨⟨old,bP e (by simp) _ he⟩,hit.at λo q=>bP it (by simp) o q⟩
 item:=by
  intro X f6 hw f5 aq i pins s σ H E I hf st bE;subst f6 hw f5;obtain⟨⟨old,he⟩,hit⟩:=st;obtain⟨xs,x,a8,av⟩:=bE;obtain⟨its,cf,p,hz⟩:=I.list a8;obtain⟨u,b_,ez⟩:=cf.get av;obtain⟨cD,az,aB,cX,gB,hN⟩:=hf e (by simp);obtain⟨f0,f1,f2,cU,f4,e_⟩:=hf it (by simp);refine wpAny_pyNext_enum_item he hit p.isList (x:=u) (by simpa using b_) Zg λag aU amC kf hsz aP=>⟨_,rfl,?_⟩
  refine wpAny_letOwnedTupleGo_enum aU λai Oh jy=>?_;have jy:mn e ag ai:=jy;have aM:H s.heap.objs.size=none:=I.fresh;have qJ:∀b o,b∉[e,it]->s.heap.get? b=some o->ai.get? b=some o:=λb o aa q=>by have kE:b≠e:=λz=>aa (by simp[z]);have amd:b≠it:=λz=>aa (by simp[z]);exact(jy.2 b kE).trans (aP b o kE amd q)
  have Zh:e<s.heap.objs.size:=c5 he;have NU:ai.get? s.heap.objs.size=some {cls:=.type "tuple",data:=.seq #[.int i s.toks,u]}:=(jy.2 _ (zC Zh)).trans kf;have qI:∀b q,H b=some q->b∉[e,it]:=λb q aa z=>by
   rcases dv.mp z with rfl|z
   .rw[cD]at aa;cases aa
   .have dk:b=it:=by simpa using z
    subst dk;rw[f0]at aa;cases aa
  refine⟨.ref s.heap.objs.size,upd H s.heap.objs.size (.tup [.int i,x]),?_,rfl,⟨s.heap.objs.size,x,aM,rfl,λys cM=>by rw[I.H0 cM a8];exact av,rfl⟩,⟨⟨u,?_⟩,amC.at λo q=>(jy.2 it Zg.symm).trans q⟩,λb aa=>?_⟩
  .show Inv X pins σ (upd H s.heap.objs.size (.tup [.int i,x])) {s with heap:=ai,gens:=s.gens,drawn:=s.drawn,toks:=s.toks+1};refine I.step (g':=s.gens) (d':=s.drawn) (t':=s.toks+1) (h':=ai) (ch:=[e,it]) (λb aa=>?_) (λb o _ _ aq q _=>qJ b o aq q) (λb o _ _ aq q _=>⟨o.slots,qJ b o aq q⟩) (λb o aq q n=>?_)
    (λb o aq q=>⟨o,qJ b o aq q⟩) (λb ys q=>?_) (λb o v q=>?_) (λb ps q=>⟨#[],?_⟩) (λm hm=>?_) (λb v q=>?_) I.bare
   .rcases dv.mp aa with rfl|aa
    .exact⟨cX,az,gB,hN⟩
    .have dk:b=it:=by simpa using aa
     subst dk;exact⟨cU,f1,f4,e_⟩
   .rw[aD (dR (c5 q))];exact n
   .rw[aD (cA q aM)];exact q
   .rw[aD (cA q aM)];exact q
   .rw[aD (cA q aM),q];simp
   .obtain⟨o,es,ep,iL,r⟩:=hm;refine⟨o,es,ep,qJ _ o (λz=>?_) iL,r⟩;rcases dv.mp z with z|z
    .exact az z.symm
    .exact f1 (by simpa using z:X.env.locals=it).symm
   .by_cases aa:b=s.heap.objs.size
    .subst aa;rw[aQ]at q;cases q;exact⟨(by show 2<=sizeLine;decide),[.int i s.toks,u],.cons ⟨_,rfl⟩ (.cons ez .nil),_,NU,rfl,_,rfl⟩
    .rw[aD aa]at q;refine(I.bf b v q).nM (λc y aq z=>qJ c y ?_ z) (λc z=>by rw[aD (cA z aM)];exact z) λc ys z=>by rw[aD (cA z aM)];exact z
     rcases aq with rfl|aq
     .exact qI _ _ q
     .exact qI _ _ aq
  .have:(((i+1:Nat):Nat):Int)=(i:Int)+1:=by omega
   rw[this];exact Oh
  .rcases dv.mp aa with rfl|aa
   .rw[aD (dR Zh)];exact cD
   .have dk:b=it:=by simpa using aa
    subst dk;obtain⟨_,z,_⟩:=hit;rw[aD (dR (c5 z))];exact f0
 done:=by intro X f6 hw f5 aq i pins s σ H E I hf st bE;subst f6 hw f5;obtain⟨⟨old,he⟩,hit⟩:=st;obtain⟨xs,a8,av⟩:=bE;obtain⟨its,cf,p,hz⟩:=I.list a8;obtain⟨f0,f1,f2,cU,f4,e_⟩:=hf it (by simp);have aw:=cf.length;exact wpAny_pyNext_enum_end (I.ok.hd aq) he hit p.isList (by simp;omega) λh' dx=>⟨rfl,I.turned (t':=s.toks) (λb o aa e=>dx b o aa e) f0 f1 cU f4 e_⟩
 self:=λ_ _ _ _ _ st h=>by obtain⟨⟨old,he⟩,_⟩:=st;exact aqC he h
section
variable{X:bo}{elts:hF}{k:Nat}{EC:Pos}
inductive aiu(K:aY)(vs:aW)(H:ae)(R:fe->ae->Prop):Prop where
 |mk (a:Addr) (bM:vs=[.ref a]) (bu:∃xs,aC K H a xs) (bW:R (uh K a) H)
noncomputable def aiv(K:aY)(bQ:fP):TI:=λσ H R=>bQ σ H λvs H1=>aiu K vs H1 R
theorem JU{bQ:fP}{p:Pos}(bE:jd X "enumerate")(hm:X.mg "enumerate"=none)(aF:gw X [l] bQ)(hs:dY [l] X.env=[(false,eval l X.env)]:=by rfl):n0 X (.Tuple elts k EC) (.Call (.Name "enumerate" p) [l] [] pos) (aiv X.K bQ):=by
 intro pins s σ H R I h;refine Call_ (vN I bE hm ŏ (LY (bD (aF pos pins s σ H _ I h) λus s1 hz=>?_) hs rfl));obtain⟨vs,H1,aR,b3,bz⟩:=hz;obtain⟨a,e,⟨xs,a8⟩,q⟩:=bz;subst e;cases b3 with
 |cons r nL=>
  cases nL;cases r;obtain⟨its,cf,p,hz⟩:=aR.list a8;refine call_enumerate_list p.isList λh' he hit hsz bP=>?_;refine aqC he ?_;have ne:s1.heap.objs.size+1≠s1.heap.objs.size:=LI _;refine⟨s1.heap.objs.size+1,[s1.heap.objs.size+1,s1.heap.objs.size],_,_,H1,rfl,aR.kept (t':=s1.toks) λb o e=>bP b o e,abm a _ _ ne,⟨⟨_,he⟩,hit⟩,λb aa=>?_,q⟩;rcases dv.mp aa with rfl|aa
  .exact aR.s_ (oY _) (aR.bf.fresh (oY _))
  .have z:b=s1.heap.objs.size:=by simpa using aa
   subst z;exact aR.s_ (bU _) (aR.bf.fresh (bU _))
end
section
variable{X:bo}{K:aY}(f5:X.K=K)
include f5
theorem Tn:zb X (Xg K):=by subst f5;exact e3
theorem tw:zb X (Xh K):=by subst f5;exact c1
theorem Kf{k:Nat}{t:wZ}{n:Nat}(aq:X.calm=true)(h:Cs X es t)(aM:(w6 es X.env).length=n:=by rfl)(iM:(w6 es X.env).findIdx? (·.1)=none:=by rfl):rb X (.Tuple es k pos) (Cn K n t):=by subst f5;exact EG aq h aM iM
theorem UM(he:bq X e bQ)(aa:zQ e f X.env (eval e X.env)=eval e X.env):bq X (.Attribute e f pos) (Xc K bQ f):=by subst f5;exact ed he aa
end
theorem afs{K:aY}{xs:aW}{rest:ar.St}{tt:TT}{b6:TE}{Q:a'}{H1:ae}(gd:hc cs σ=none::none::rest)(aF:aC K H1 a xs)(aw:xs.length<sizeLine)(p:Nat->V->Bool)(f:Nat->V->V)(test:∀(i:Nat)(x:V)(ah:ae)(R:Bool->ae->Prop),xs[i]?=some x->aH H1 ah->(∀ba,aH ah ba->R (p i x) ba)->tt (some (.int i)::some x::rest) ah R)(elt:∀(i:Nat)(x:V)(ah:ae)(R:a'),xs[i]?=some x->p i x=true->aH H1 ah->(∀ba,aH ah ba->R (f i x) ba)->b6 (some (.int i)::some x::rest) ah R)(fin:∀(D:Addr)(H':ae),H1 D=none->H' D=some (.lst ((xs.zipIdx.filter λz=>p z.2 z.1).map λz=>f z.2 z.1))->aH H1 H'->Q (.ref D) H'):
  ∀D,H1 D=none->∃W:Nat->Nat->List V->ar.St->ae->Prop,(∃m,W 0 m [] (hc cs σ) (upd H1 D (.lst [])))/\∀i m ys a9 H',W i m ys a9 H'->H' D=some (.lst ys)/\ys.length<sizeLine/\
   (((uh K a).stop i H'/\Q (.ref D) H')\/((uh K a).go i H'/\∀x ah,(uh K a).oO i H' x ah->Cn K 2 (yM (ha 0) (yM (ha 1) Gl)) x a9 ah λgM aZ=>tt gM aZ λb dE=>
    if b=true then b6 gM dE λy ba=>ba D=some (.lst ys)/\∃dc,dc<m/\W (i+1) dc (ys++[y]) gM (upd ba D (.lst (ys++[y])))
    else∃dc,dc<m/\W (i+1) dc ys gM dE)):=by
 intro D bl;have pT:xs.zipIdx.length=xs.length:=by simp
 refine⟨λi m ys a9 H'=>m=xs.length-i/\i<=xs.length/\ys=((xs.zipIdx.take i).filter λz=>p z.2 z.1).map (λz=>f z.2 z.1)/\(∃o cB,a9=o::cB::rest)/\aH H1 H'/\H' D=some (.lst ys),
  ⟨xs.length,by simp,eZ _,by simp,⟨none,none,gd⟩,λb o e=>?_,aQ⟩,?_⟩
 .rw[aD (cA e bl)];exact e
 .rintro i m ys a9 H' ⟨rfl,ak,rfl,⟨o,cB,rfl⟩,ax,eM⟩;have gp:aC K H' a xs:=ax.seq aF;refine⟨eM,oZ ?_ aw,?_⟩
  .rw[bk];refine eP (nf _ _) ?_;rw[lS,pT];exact Ck _ _
  by_cases cz:i<xs.length
  .have ex:xs[i]?=some xs[i]:=cF cz;refine .inr ⟨⟨xs,_,gp,ex⟩,λx ah y=>?_⟩;obtain⟨q,gG,a8,rfl,fB,rfl⟩:=y;have C4:=fB xs gp;have qT:aH H' (upd H' q (.tup [.int i,gG])):=λb u e=>by rw[aD (cA e a8)];exact e
   refine⟨q,_,rfl,bI.of aQ,rfl,⟨_,_,rfl,⟨_,_,rfl,rfl,?_⟩⟩⟩;show tt (some (.int i)::some gG::rest) _ _;refine test i gG _ _ C4 (ax.trans qT) λdE s4=>?_;have a5:xs.zipIdx.take (i+1)=xs.zipIdx.take i++[(gG,i)]:=by rw[oT,List.getElem?_zipIdx,C4];simp
   have He:=s4 _ _ (qT _ _ eM);cases aN:p i gG with
   |true=>
    refine gD ?_;refine elt i gG dE _ C4 aN ((ax.trans qT).trans s4) λba s5=>⟨s5 _ _ He,xs.length-(i+1),by omega,rfl,cz,?_,⟨_,_,rfl⟩,λb ob e=>?_,aQ⟩
    .rw[a5,p2,fm];simp[aN]
    .rw[aD (cA e bl)];exact s5 _ _ (s4 _ _ (qT _ _ (ax _ _ e)))
   |false=>
    refine fI ⟨xs.length-(i+1),by omega,rfl,cz,?_,⟨_,_,rfl⟩,(ax.trans qT).trans s4,He⟩;rw[a5,p2,fm];simp[aN]
  .have e:i=xs.length:=by omega
   subst e;refine .inl ⟨⟨xs,gp,bU _⟩,fin D H' bl ?_ ax⟩;rw[eM,<-pT,oU]
end cH
namespace ar
open PySem PySem.Spec PyProof.Rows
section
variable{κ:Type}[DecidableEq κ]
noncomputable def cy(kvs:List (κ×V))(k:κ):Option V:=(kvs.find? λbZ=>decide (bZ.1=k)).map (·.2)
noncomputable def eN(kvs:List (κ×V))(k:κ)(v:V):List (κ×V):=
 if(kvs.any λbZ=>decide (bZ.1=k))=true then kvs.map (λbZ=>if bZ.1=k then(bZ.1,v)else bZ)else kvs++[(k,v)]
noncomputable def wc(kvs:List (κ×V))(k:κ):List (κ×V):=kvs.filter λbZ=>decide (bZ.1≠k)
theorem k9{p:κ×V}{r:List (κ×V)}{k:κ}(e:p.1=k):cy (p::r) k=some p.2:=by simp[cy,B5,e]
theorem ka{p:κ×V}{r:List (κ×V)}{k:κ}(e:¬p.1=k):cy (p::r) k=cy r k:=by simp[cy,B5,e]
theorem pk(k:κ):∀kvs:List (κ×V),(kvs.any λbZ=>decide (bZ.1=k))=(cy kvs k).isSome
 |[]=>rfl
 |p::r=>by
  rw[F3];by_cases e:p.1=k
  .simp only[k9 e,cT e,Bool.true_or,Option.isSome_some]
  .rw[ka e,dn e,Bool.false_or];exact pk k r
theorem To(k j:κ)(y:V):∀kvs:List (κ×V),cy (kvs.map λbZ=>if bZ.1=k then(bZ.1,y)else bZ) j=(cy kvs j).map λx=>if j=k then y else x
 |[]=>rfl
 |p::r=>by
  have a3:=To k j y r;rw[hE];by_cases h:p.1=k
  .rw[bB h];by_cases e:p.1=j
   .rw[k9 (p:=(p.1,y)) e,k9 e,Gd,bB (e.symm.trans h)]
   .rw[ka (p:=(p.1,y)) e,ka e,a3]
  .rw[bp h];by_cases e:p.1=j
   .rw[k9 (p:=p) e,k9 e,Gd,bp (λz=>h (e.trans z))]
   .rw[ka (p:=p) e,ka e,a3]
theorem ň(k j:κ)(y:V):∀kvs:List (κ×V),cy kvs k=none->cy (kvs++[(k,y)]) j=if j=k then some y else cy kvs j
 |[],_=>by
  by_cases e:k=j
  .rw[bB e.symm];exact k9 (p:=(k,y)) e
  .rw[bp (λz=>e z.symm)];exact ka (p:=(k,y)) e
 |p::r,aM=>by
  rw[List.cons_append];have aP:¬p.1=k:=λz=>by rw[k9 z]at aM;cases aM
  rw[ka aP]at aM;have a3:=ň k j y r aM;by_cases e:p.1=j
  .rw[k9 e,k9 e,bp (λz=>aP (e.trans z))]
  .rw[ka e,ka e,a3]
theorem rG(kvs:List (κ×V))(k j:κ)(y:V):cy (eN kvs k y) j=if j=k then some y else cy kvs j:=by
 unfold eN;by_cases a:(kvs.any λbZ=>decide (bZ.1=k))=true
 .rw[bB a,To];rw[pk]at a;by_cases e:j=k
  .obtain⟨x,av⟩:=sP.mp a;rw[bB e,e,av,Gd,bB rfl]
  .rw[bp e];cases cy kvs j with
   |none=>rfl
   |some x=>rw[Gd,bp e]
 .rw[bp a];refine ň k j y kvs ?_;rw[pk]at a;cases q:cy kvs k with
  |none=>rfl
  |some x=>rw[q]at a;exact(a rfl).elim
theorem H7(kvs:List (κ×V))(k:κ)(v:V):(eN kvs k v).length<=kvs.length+1:=by
 unfold eN;split
 .rw[bk];omega
 .rw[hD,lR,B6];omega
theorem D'{kvs:List (κ×V)}{k:κ}(v:V)(h:cy kvs k=none):eN kvs k v=kvs++[(k,v)]:=by unfold eN;rw[pk,h];exact bp (by decide)
theorem iP.Ao{o:Option V}{u:CP}(r:iP o u):o.isSome=u.isSome:=by
 cases o with
 |none=>cases u with
  |none=>rfl
  |some _=>exact(show False from r).elim
 |some _=>cases u with
  |none=>exact(show False from r).elim
  |some _=>rfl
theorem iP.getD{o:Option V}{u:CP}(r:iP o u)(rd:RelV d d'):RelV (o.getD d) (u.getD d'):=by
 cases o with
 |none=>cases u with
  |none=>exact rd
  |some _=>exact(show False from r).elim
 |some _=>cases u with
  |none=>exact(show False from r).elim
  |some _=>exact r
theorem gb.val{kvs:List (κ×V)}{vs:List (κ×Value)}(r:gb kvs vs)(k:κ):iP (cy kvs k) (v_ vs k):=by
 unfold gb at r
 induction r with
 |nil=>exact lW
 |@cons p q ps oA h t a3=>
  obtain⟨ag,ai⟩:=h;by_cases e:p.1=k
  .have bJ:q.1=k:=ag.symm.trans e;have b:v_ (q::oA) k=some q.2:=by simp[v_,B5,bJ]
   rw[k9 e,b];exact ai
  .have bJ:¬q.1=k:=λz=>e (ag.trans z);have b:v_ (q::oA) k=v_ oA k:=by simp[v_,B5,bJ]
   rw[ka e,b];exact a3
theorem gb.any{kvs:List (κ×V)}{vs:List (κ×Value)}(r:gb kvs vs)(k:κ):(kvs.any λbZ=>decide (bZ.1=k))=vs.any λbZ=>decide (bZ.1=k):=by
 unfold gb at r
 induction r with
 |nil=>rfl
 |cons h t a3=>rw[F3,F3,a3,h.1]
theorem gb.QR{kvs:List (κ×V)}{vs:List (κ×Value)}(r:gb kvs vs)(k:κ)(bC:RelV y u):
  gb (kvs.map λbZ=>if bZ.1=k then(bZ.1,y)else bZ) (vs.map λbZ=>if bZ.1=k then(bZ.1,u)else bZ):=by
 unfold gb at r⊢
 induction r with
 |nil=>exact .nil
 |@cons p q ps oA h t a3=>
  rw[hE,hE];refine .cons ?_ a3;obtain⟨ag,ai⟩:=h;by_cases e:p.1=k
  .rw[bB e,bB (ag.symm.trans e)];exact⟨ag,bC⟩
  .rw[bp e,bp (λz=>e (ag.trans z))];exact⟨ag,ai⟩
theorem gb.put{kvs:List (κ×V)}{vs:List (κ×Value)}(r:gb kvs vs)(k:κ)(bC:RelV y u):gb (eN kvs k y) (stored vs k u):=by
 unfold eN stored;rw[r.any k];by_cases e:(vs.any λbZ=>decide (bZ.1=k))=true
 .rw[bB e,bB e];exact r.QR k bC
 .rw[bp e,bp e];exact Paired.snoc r ⟨rfl,bC⟩
theorem gb.drop{kvs:List (κ×V)}{vs:List (κ×Value)}(r:gb kvs vs)(k:κ):gb (wc kvs k) (without vs k):=by
 unfold gb at r⊢;unfold wc without
 induction r with
 |nil=>exact .nil
 |@cons p q ps oA h t a3=>
  obtain⟨ag,ai⟩:=h;rw[p3,p3];by_cases e:p.1=k
  .have a:¬decide (p.1≠k)=true:=by simp[e]
   have b:¬decide (q.1≠k)=true:=by simp[ag.symm.trans e]
   rw[bp a,bp b];exact a3
  .have bJ:¬q.1=k:=λz=>e (ag.trans z);have a:decide (p.1≠k)=true:=by simp[e]
   have b:decide (q.1≠k)=true:=by simp[bJ]
   rw[bB a,bB b];exact .cons ⟨ag,ai⟩ a3
theorem gb.length{kvs:List (κ×V)}{vs:List (κ×Value)}(r:gb kvs vs):kvs.length=vs.length:=gW r
theorem Tp(kvs:List (κ×V))(k:κ):(wc kvs k).length<=kvs.length:=nf _ _
theorem qN{k:bA}(r:RelV (c9 k) u):(hI P w).is k u=true:=by
 cases k with
 |inl i=>obtain⟨t,e⟩:=(show∃t,u=iF i t from r);subst e;exact Ů P w i t
 |inr x=>obtain⟨t,e⟩:=(show∃t,u=w4 x t from r);subst e;exact ů P w x t
theorem Ŋ:∀{gS:List bA}{us:c7},cN (gS.map c9) us->ItemsAre (hI P w) gS us
 |[],_,r=>by rw[Lq]at r;cases r;exact .nil
 |k::gS,_,r=>by
  rw[hE]at r;cases r with
  |cons h t=>exact .cons (qN h) (Ŋ t)
noncomputable abbrev KT(H:ae):List (List bA×V)->List (List bA×Addr×Value)->Prop:=bO λp q=>p.1=q.1/\H q.2.1=some (.tup (p.1.map c9))/\RelV p.2 q.2.2
theorem KT.val{kvs:List (List bA×V)}{xs:List (List bA×Addr×Value)}(r:KT H kvs xs)(k:List bA):iP (cy kvs k) ((uB xs k).map (·.2)):=by
 induction r with
 |nil=>exact lW
 |@cons p q ps oA h t a3=>
  obtain⟨ag,_,ai⟩:=h;by_cases e:p.1=k
  .have bJ:q.1=k:=ag.symm.trans e;have b:uB (q::oA) k=some q.2:=by simp[uB,B5,bJ]
   rw[k9 e,b];exact ai
  .have bJ:¬q.1=k:=λz=>e (ag.trans z);have b:uB (q::oA) k=uB oA k:=by simp[uB,B5,bJ]
   rw[ka e,b];exact a3
theorem KT.QR{kvs:List (List bA×V)}{xs:List (List bA×Addr×Value)}(r:KT H kvs xs)(k:List bA)(bC:RelV y u):
  KT H (kvs.map λbZ=>if bZ.1=k then(bZ.1,y)else bZ) (xs.map (putAt k u)):=by
 induction r with
 |nil=>exact .nil
 |@cons p q ps oA h t a3=>
  rw[hE,hE];refine .cons ?_ a3;obtain⟨ag,ai,bK⟩:=h;unfold putAt;by_cases e:p.1=k
  .rw[bB e,bB (ag.symm.trans e)];exact⟨ag,ai,bC⟩
  .rw[bp e,bp (λz=>e (ag.trans z))];exact⟨ag,ai,bK⟩
theorem KT.put{H:ae}{kvs:List (List bA×V)}{xs:List (List bA×Addr×Value)}(r:KT H kvs xs)(k:List bA)(aa:H b=some (.tup (k.map c9)))(bC:RelV y u):
  KT H (eN kvs k y) (storedH xs k b u):=by
 have e:(kvs.any λbZ=>decide (bZ.1=k))=(uB xs k).isSome:=by rw[pk,(r.val k).Ao,VL]
 unfold eN storedH;rw[e];by_cases q:(uB xs k).isSome=true
 .rw[bB q,bB q];exact r.QR k bC
 .rw[bp q,bp q];exact Paired.snoc r ⟨rfl,aa,bC⟩
theorem KT.keeps{H H':ae}{kvs:List (List bA×V)}{xs:List (List bA×Addr×Value)}(r:KT H kvs xs)(dM:∀b ys,H b=some (.tup ys)->H' b=some (.tup ys)):KT H' kvs xs:=
 bO.gL r λ_ _ z=>⟨z.1,dM _ _ z.2.1,z.2.2⟩
end
section
variable{P:cG}{w:bS}{H:ae}{h:Heap}{a:Addr}
theorem W3(ok:fE P w H h)(e:gJ H a u):eI P w H h a u:=e.ok ok
theorem yO{kvs:List (bA×V)}(ok:fE P w H h)(e:gJ H a (.bN kvs)):kvs.length<=sizeLine/\(a==me)=false/\∃vs,gb kvs vs/\h.DictOf (hI P w) a vs:=
 show eI P w H h a (.bN kvs)from W3 ok e
theorem yP{kvs:List (bA×V)}(ok:fE P w H h)(e:H a=some (.bN kvs)):kvs.length<=sizeLine/\(a==me)=false/\∃vs,gb kvs vs/\h.DictOf (hI P w) a vs:=yO ok (.inl e)
theorem yk{gS:List bA}(ok:fE P w H h)(e:H a=some (.tup (gS.map c9))):(Ba (hI P w)).is h gS a:=by
 obtain⟨_,its,r,o,ag,ai,n,bK⟩:=(show eI P w H h a (.tup (gS.map c9))from ok a _ e)
 exact⟨o,its.toArray,n,ag,ai,bK,by simpa using Ŋ r⟩
theorem yQ{kvs:List (List bA×V)}(ok:fE P w H h)(e:gJ H a (.d4 kvs)):kvs.length<=sizeLine/\(a==me)=false/\
  ∃xs,KT H kvs xs/\h.DictOfH (Ba (hI P w)) a xs:=by
 obtain⟨z,y,xs,r,o,es,ep,ag,ai,bK,c8,dX⟩:=(show eI P w H h a (.d4 kvs)from W3 ok e)
 refine⟨z,y,xs,r,o,es,ep,ag,ai,bK,c8,λx av=>?_,dX⟩;have all:∀{l:List (List bA×V)}{m:List (List bA×Addr×Value)},KT H l m->∀x∈m,(Ba (hI P w)).is h x.1 x.2.1:=by
  intro l m q
  induction q with
  |nil=>intro x av;exact nomatch av
  |@cons p q ps oA a8 t a3=>
   intro x av;rcases dv.mp av with e|av
   .subst e;exact yk ok (by rw[<-a8.1];exact a8.2.1)
   .exact a3 x av
 exact all r x av
theorem W4{kvs:List (List bA×V)}(ok:fE P w H h)(e:H a=some (.d4 kvs)):kvs.length<=sizeLine/\(a==me)=false/\
  ∃xs,KT H kvs xs/\h.DictOfH (Ba (hI P w)) a xs:=yQ ok (.inl e)
end
noncomputable def ir(H:ae)(a:Addr)(y:V)(r:Option V):Prop:=
 (∃kvs k,gJ H a (.bN kvs)/\y=c9 k/\r=cy kvs k)\/∃kvs k b,gJ H a (.d4 kvs)/\y=.ref b/\H b=some (.tup (k.map c9))/\r=cy kvs k
noncomputable def pM(H:ae)(a:Addr)(y v:V)(H':ae):Prop:=
 (∃kvs k,H a=some (.bN kvs)/\y=c9 k/\kvs.length<sizeLine/\H'=upd H a (.bN (eN kvs k v)))\/
 ∃kvs k b,H a=some (.d4 kvs)/\y=.ref b/\H b=some (.tup (k.map c9))/\kvs.length<sizeLine/\H'=upd H a (.d4 (eN kvs k v))
theorem ir.k{H:ae}{kvs:List (bA×V)}{k:bA}(e:H a=some (.bN kvs)):ir H a (c9 k) (cy kvs k):=.inl ⟨kvs,k,.inl e,rfl,rfl⟩
theorem ir.t{H:ae}{kvs:List (List bA×V)}{k:List bA}(e:H a=some (.d4 kvs))(dx:H b=some (.tup (k.map c9))):ir H a (.ref b) (cy kvs k):=.inr ⟨kvs,k,b,.inl e,rfl,dx,rfl⟩
theorem pM.k{H:ae}{kvs:List (bA×V)}{k:bA}(e:H a=some (.bN kvs))(aw:kvs.length<sizeLine):pM H a (c9 k) v (upd H a (.bN (eN kvs k v))):=.inl ⟨kvs,k,e,rfl,aw,rfl⟩
theorem pM.t{H:ae}{kvs:List (List bA×V)}{k:List bA}(e:H a=some (.d4 kvs))(dx:H b=some (.tup (k.map c9)))(aw:kvs.length<sizeLine):
  pM H a (.ref b) v (upd H a (.d4 (eN kvs k v))):=.inr ⟨kvs,k,b,e,rfl,dx,aw,rfl⟩
section
variable{X:bo}{pins:dP}{σ:St}{H:ae}{s:aK}{a:Addr}{y v:V}{u r:Value}{o:Option V}{A:du}{E:cc}
theorem Inv.big(I:Inv X pins σ H s):me<s.heap.objs.size:=by have h:qF<s.heap.objs.size:=(I.mod.glob.keeps I.hq).lt;exact Vr (by decide) h
theorem abn{Q:cc}(b_:A.units+1<cLine)(I:Inv X pins σ H s)(g:ir H a y (some v))(bC:RelV y u)(h:∀eJ s',Inv X pins σ H s'->RelV v eJ->Q eJ s'):
  aL (aX X.prog X.w) A (xy (.ref a) u) Q E s:=by
 rcases g with⟨kvs,k,e,da,l⟩|⟨kvs,k,b,e,da,dx,l⟩
 .subst da;obtain⟨z,hd,vs,rel,dd⟩:=yO I.bf e;obtain⟨eJ,hw,hy⟩:=iP.some_of (v:=v) (o:=v_ vs k) (by rw[l];exact rel.val k);exact wpAny_getItem_of (qN bC) dd.mapOf hw (h eJ _ (I.tok _) hy)
 .subst da;cases(show u=cu b from bC);obtain⟨z,hd,xs,rel,dd⟩:=yQ I.bf e;obtain⟨eJ,hw,hy⟩:=iP.some_of (v:=v) (o:=(uB xs k).map (·.2)) (by rw[l];exact rel.val k);obtain⟨p,aN,vc⟩:=e0.mp hw;refine wpAny_getItem_heap (ED b_) (yk I.bf dx) dd aN ?_;rw[vc];exact h eJ _ (I.tok _) hy
theorem ajY{Q:cc}(b_:A.units+1<cLine)(I:Inv X pins σ H s)(g:ir H a y o)(bC:RelV y u)(h:∀s',Inv X pins σ H s'->Q (.bool o.isSome) s'):
  aL (aX X.prog X.w) A (gA .In u (.ref a)) Q E s:=by
 rcases g with⟨kvs,k,e,da,l⟩|⟨kvs,k,b,e,da,dx,l⟩
 .subst da;obtain⟨z,hd,vs,rel,dd⟩:=yO I.bf e;refine wpAny_in_of (qN bC) hd dd.mapOf ?_;rw[<-(rel.val k).Ao,<-l];exact h _ (I.tok _)
 .subst da;cases(show u=cu b from bC);obtain⟨z,hd,xs,rel,dd⟩:=yQ I.bf e;refine wpAny_in_heap (ED b_) (yk I.bf dx) hd dd ?_;have q:=(rel.val k).Ao;rw[VL]at q;rw[<-q,<-l];exact h _ (I.tok _)
theorem aft{Q:cc}(b_:A.units+1<cLine)(I:Inv X pins σ H s)(g:ir H a y o)(bC:RelV y u)(h:∀s',Inv X pins σ H s'->Q (.bool (!o.isSome)) s'):
  aL (aX X.prog X.w) A (gA .NotIn u (.ref a)) Q E s:=by
 rcases g with⟨kvs,k,e,da,l⟩|⟨kvs,k,b,e,da,dx,l⟩
 .subst da;obtain⟨z,hd,vs,rel,dd⟩:=yO I.bf e;refine wpAny_notIn_of (qN bC) hd dd.mapOf ?_;rw[<-(rel.val k).Ao,<-l];exact h _ (I.tok _)
 .subst da;cases(show u=cu b from bC);obtain⟨z,hd,xs,rel,dd⟩:=yQ I.bf e;refine wpAny_notIn_heap (ED b_) (yk I.bf dx) hd dd ?_;have q:=(rel.val k).Ao;rw[VL]at q;rw[<-q,<-l];exact h _ (I.tok _)
theorem x_{h':Heap}{t':Nat}(I:Inv X pins σ H s)(b0:Cj (H a))(hs:mn a s.heap h')(he:∃q,h'.get? a=some q)(new:eI X.prog X.w (upd H a ob) h' a ob):
  Inv X pins σ (upd H a ob) {s with heap:=h',toks:=t'}:=
 I.write (x:=a) (e:=a) b0 (.inl rfl) (λb q aa z=>(hs.2 b aa).trans z) he new
theorem EK{h':Heap}{kvs:List (bA×V)}{vs:List (bA×Value)}(z:kvs.length<=sizeLine)(hd:(a==me)=false)(rel:gb kvs vs)(dd:h'.DictOf (hI P w) a vs):
  eI P w H' h' a (.bN kvs):=⟨z,hd,vs,rel,dd⟩
theorem abo{Q:Unit->aK->Prop}(b_:A.units+1<cLine)(I:Inv X pins σ H s)(g:pM H a y v H')(bC:RelV y u)(cf:RelV v r)(h:∀s',Inv X pins σ H' s'->Q () s'):
  aL (aX X.prog X.w) A (setItem (.ref a) u r) Q E s:=by
 rcases g with⟨kvs,k,e,da,l,M9⟩|⟨kvs,k,b,e,da,dx,l,M9⟩
 .subst da M9;obtain⟨z,hd,vs,rel,dd⟩:=yP I.bf e;have hz:vs.length<=sizeLine:=by rw[<-rel.length];exact z
  have aw:(eN kvs k v).length<=sizeLine:=by have:=H7 kvs k v;omega
  refine wpAny_setItem_pairs (hsz:=hz) (qN bC) dd λh' j_ hs=>h _ ?_;have he:∃q,h'.get? a=some q:=let⟨q,_,_,a8,_⟩:=j_;⟨q,a8⟩
  exact x_ I (by rw[e];exact lW) hs he (EK aw hd (rel.put k cf) j_)
 .subst da M9;cases(show u=cu b from bC);obtain⟨z,hd,xs,rel,dd⟩:=W4 I.bf e;have hz:xs.length<=sizeLine:=by rw[<-gW rel];exact z
  have aw:(eN kvs k v).length<=sizeLine:=by have:=H7 kvs k v;omega
  refine wpAny_setItem_heap (hsz:=hz) (ED b_) (yk I.bf dx) dd λh' j_ hs=>h _ ?_;obtain⟨q,es,ep,a8,ai,bK,c8,_,dX⟩:=j_;refine x_ I (by rw[e];exact lW) hs ⟨q,a8⟩ ⟨aw,hd,_,(rel.put k dx cf).keeps λc ys iZ=>?_,q,es,ep,a8,ai,bK,c8,dX⟩;rw[aD (gE iZ e (λz=>nomatch z))];exact iZ
end
section
variable{X:bo}{pins:dP}{σ:St}{H:ae}{s:aK}{a:Addr}{kvs:List (bA×V)}{k:bA}{u:Value}{A:du}{E:cc}
theorem ar4{Q:Unit->aK->Prop}(I:Inv X pins σ H s)(e:H a=some (.bN kvs))(bC:RelV (c9 k) u)(l:(cy kvs k).isSome=true)(h:∀s',Inv X pins σ (upd H a (.bN (wc kvs k))) s'->Q () s'):
  aL (aX X.prog X.w) A (delItem (.ref a) u) Q E s:=by
 obtain⟨z,hd,vs,rel,dd⟩:=yP I.bf e;refine wpAny_delItem_slot dd.typeIs (by decide) adT
  (CV adT dd.typeIs PySem.F.entry_dict_delitem (PySem.F.args_dict_delitem_2 _ _) (meets_dict_delitem_pairs (hI X.prog X.w) a (qN bC)) ⟨vs,dd,by rw[<-rel.length];exact z,by rw[<-(rel.val k).Ao];exact l,λh' j_ hs=>h _ ?_⟩)
 have he:∃q,h'.get? a=some q:=let⟨q,_,_,a8,_⟩:=j_;⟨q,a8⟩
 exact x_ I (by rw[e];exact lW) hs he (EK (eP (Tp kvs k) z) hd (rel.drop k) j_)
theorem aiw{more:c7}{Q:cc}(I:Inv X pins σ H s)(e:H a=some (.bN kvs))(bC:RelV (c9 k) u)(l:cy kvs k=some v)(hm:more=[]\/∃x,more=[x])(h:∀eJ s',Inv X pins σ (upd H a (.bN (wc kvs k))) s'->RelV v eJ->Q eJ s'):aL (aX X.prog X.w) A (call (.builtin "dict.pop") (.ref a::u::more)) Q E s:=by
 obtain⟨z,hd,vs,rel,dd⟩:=yP I.bf e;obtain⟨eJ,hw,hy⟩:=iP.some_of (v:=v) (o:=v_ vs k) (by rw[<-l];exact rel.val k);have aN:(keyPart u).isSome=true:=by
  cases k with
  |inl i=>obtain⟨t,q⟩:=(show∃t,u=iF i t from bC);subst q;rfl
  |inr x=>obtain⟨t,q⟩:=(show∃t,u=w4 x t from bC);subst q;rfl
 have aF:rk "dict.pop" ⟨.ref a::u::more,[]⟩:=by
  rcases hm with q|⟨x,q⟩
  .subst q;exact PySem.F.args_dict_pop_2 _ _
  .subst q;exact adK _ _ _
 refine CV L0 dd.typeIs adM aF (meets_dict_pop_there (hI X.prog X.w) a (qN bC) more hm aN)
  ⟨vs,eJ,dd,by rw[<-rel.length];exact z,hw,λh' j_ hs=>h eJ _ ?_ hy⟩
 have he:∃q,h'.get? a=some q:=let⟨q,_,_,a8,_⟩:=j_;⟨q,a8⟩
 exact x_ I (by rw[e];exact lW) hs he (EK (eP (Tp kvs k) z) hd (rel.drop k) j_)
theorem ahe{Q:cc}(I:Inv X pins σ H s)(e:H a=some (.bN kvs))(bC:RelV (c9 k) u)(l:cy kvs k=none)(h:∀s',Inv X pins σ H s'->Q r s'):
  aL (aX X.prog X.w) A (call (.builtin "dict.pop") [.ref a,u,r]) Q E s:=by
 obtain⟨z,hd,vs,rel,dd⟩:=yP I.bf e;have aM:v_ vs k=none:=iP.none_of (by rw[<-l];exact rel.val k);have aN:(keyPart u).isSome=true:=by
  cases k with
  |inl i=>obtain⟨t,q⟩:=(show∃t,u=iF i t from bC);subst q;rfl
  |inr x=>obtain⟨t,q⟩:=(show∃t,u=w4 x t from bC);subst q;rfl
 exact CV L0 dd.typeIs adM (adK _ _ _) (meets_dict_pop_default (hI X.prog X.w) a (qN bC) hd aN r) ⟨vs,dd,aM,h _ (I.tok _)⟩
noncomputable def Xp(i:Expr):Prop:=∀fC i4,Ry i false fC i4=operate [fC,i4] (xy fC i4)
end
theorem afu{E:cc}{env:Env}{id:String}{Q:cc}(aw:typeLookup (.type T) "__getitem__"=pure (some (.builtin id)))(hs:Xp slice)(h:aL (aX prog w) A (eval value env) (λo d2=>aL (aX prog w) A (eval slice env) (λi r6=>r6.TypeIs o T/\aL (aX prog w) A (xy o i) Q E r6) E d2) E s):
  aL (aX prog w) A (eval (.Subscript value slice pos) env) Q E s:=by
 refine WO (gi h (λo d2 O3=>gi O3 (λi r6 O4=>?_) λ_ _ x=>x) λ_ _ x=>x);obtain⟨kf,O4⟩:=O4;unfold ë;refine au ?_;rw[getitemInPython_of_ne kf.not_modules];refine au (aqI kf aw ?_);have fin:aL (aX prog w) A (Ry slice false o i) (λr ì=>aL (aX prog w) A (letTemporaryGo value o r >>=λ_=>pure r) Q E ì) E r6:=by rw[hs o i];exact wpAny_operating (gi O4 (λr ì anr=>au (wpAny_letTemporaryGo (aT anr))) λ_ _ x=>x)
 first
  |exact aT (au fin)
  |exact au (aT (au fin))
  |exact au fin
theorem aaa{X:bo}{s:aK}{o:Option V}(I:Inv X pins σ H s)(g:ir H a y o):s.TypeIs (.ref a) "dict":=by
 rcases g with⟨kvs,k,e,_,_⟩|⟨kvs,k,b,e,_,_,_⟩
 .obtain⟨_,_,vs,_,dd⟩:=yO I.bf e;exact dd.typeIs
 .obtain⟨_,_,xs,_,dd⟩:=yQ I.bf e;exact dd.typeIs
noncomputable def aix(ek ty:TE):TE:=λσ H Q=>ek σ H λx H1=>ty σ H1 λy ah=>∃a v,x=.ref a/\ir ah a y (some v)/\Q v ah
noncomputable def ajZ(ty ek:TE):TE:=λσ H Q=>ty σ H λy H1=>ek σ H1 λx ah=>∃a o,x=.ref a/\ir ah a y o/\Q (.aA o.isSome) ah
noncomputable def afv(ty ek:TE):TE:=λσ H Q=>ty σ H λy H1=>ek σ H1 λx ah=>∃a o,x=.ref a/\ir ah a y o/\Q (.aA (!o.isSome)) ah
noncomputable def aiy(ek ty kP:TE):e':=λD σ H=>kP σ H λv H1=>ek σ H1 λx ah=>ty σ ah λy aZ=>∃a dE,x=.ref a/\pM aZ a y v dE/\D.b1 σ dE
section
variable{X:bo}{o i e value:Expr}{pos pos' EC:Pos}{ek ty kP:TE}
theorem vF(b_:X.A.units+1<cLine)(aU:bq X o ek)(ak:bq X i ty)(hs:Xp i):bq X (.Subscript o i pos) (aix ek ty):=by intro pins s σ H Q I h;refine afu PySem.F.slot_dict_getitem.lookup hs (bD (aU pins s σ H _ I h) λu s1⟨x,H1,aR,bt,bz⟩=>bD (ak pins s1 σ H1 _ aR bz) λi4 s2 hz=>?_);obtain⟨y,ah,bH,bC,a,v,ex,g,cv⟩:=hz;subst ex;obtain rfl:u=cu a:=bt;exact⟨aaa bH g,abn b_ bH g bC λeJ s3 cZ hy=>⟨v,ah,cZ,hy,cv⟩⟩
theorem ahf(b_:X.A.units+1<cLine)(ak:bq X i ty)(aU:bq X o ek):Ge X .In i o (ajZ ty ek):=by intro pins s σ H Q I h;refine bD (ak pins s σ H _ I h) λi4 s1⟨y,H1,aR,bC,bz⟩=>bD (aU pins s1 σ H1 _ aR bz) λu s2 hz=>?_;obtain⟨x,ah,bH,bt,a,fC,ex,g,cv⟩:=hz;subst ex;obtain rfl:u=cu a:=bt;exact ajY b_ bH g bC λs3 cZ=>⟨.aA fC.isSome,ah,cZ,rfl,cv⟩
theorem RW(b_:X.A.units+1<cLine)(ak:bq X i ty)(aU:bq X o ek):Ge X .NotIn i o (afv ty ek):=by intro pins s σ H Q I h;refine bD (ak pins s σ H _ I h) λi4 s1⟨y,H1,aR,bC,bz⟩=>bD (aU pins s1 σ H1 _ aR bz) λu s2 hz=>?_;obtain⟨x,ah,bH,bt,a,fC,ex,g,cv⟩:=hz;subst ex;obtain rfl:u=cu a:=bt;exact aft b_ bH g bC λs3 cZ=>⟨.aA (!fC.isSome),ah,cZ,rfl,cv⟩
theorem A3(b_:X.A.units+1<cLine)(aU:bq X o ek)(ak:bq X i ty)(bj:bq X value kP)(hs:A_ value (some (.Subscript o i pos')) pos.line X.env=pure false):
  gI X (.Assign [.Subscript o i pos'] value pos) (aiy ek ty kP):=by intro pins s σ H D I h;refine wpAny_Assign_Subscript (bD (bj pins s σ H _ I h) λr s1⟨v,H1,aR,cf,bz⟩=>bD (aU pins s1 σ H1 _ aR bz) λu s2⟨x,ah,bH,bt,cv⟩=>bD (ak pins s2 σ ah _ bH cv) λi4 s3 hz=>?_) hs;obtain⟨y,aZ,cZ,bC,a,dE,ex,g,gg⟩:=hz;subst ex;obtain rfl:u=cu a:=bt;exact abo b_ cZ g bC cf λs4 jf=>⟨σ,dE,jf,gg⟩
theorem Tq(h:Heap)(aa:me<h.objs.size):eI P w H (h.push {cls:=.type "dict",data:=.dict #[]}) h.objs.size (.bN []):=
 ⟨eZ _,zR.mpr (c2 (dR aa)),[],.nil,Heap.DictOf.new h⟩
theorem adq(h:Heap)(aa:me<h.objs.size):eI P w H (h.push {cls:=.type "dict",data:=.dict #[]}) h.objs.size (.d4 []):=
 ⟨eZ _,zR.mpr (c2 (dR aa)),[],.nil,_,#[],0,fM _ rfl,⟨rfl,rfl,rfl⟩,rfl,rfl,uo⟩
noncomputable def ahg:TE:=λ_ H Q=>∀p,H p=none->Q (.ref p) (upd H p (.bN []))
noncomputable def ahh:TE:=λ_ H Q=>∀p,H p=none->Q (.ref p) (upd H p (.d4 []))
end
section
variable{X:bo}{pos:Pos}
theorem Jn:bq X (.Dict [] [] pos) ahg:=λpins s σ H Q I h=>
 aqr ⟨.ref s.heap.objs.size,_,I.laid (a:=s.heap.objs.size) (o:=.bN []) (t':=s.toks) (λ_ _ q=>dm _ q) (bU _) (Tq s.heap I.big),rfl,h _ (I.bf.fresh (bU _))⟩
theorem Tr:bq X (.Dict [] [] pos) ahh:=λpins s σ H Q I h=>
 aqr ⟨.ref s.heap.objs.size,_,I.laid (a:=s.heap.objs.size) (o:=.d4 []) (t':=s.toks) (λ_ _ q=>dm _ q) (bU _) (adq s.heap I.big),rfl,h _ (I.bf.fresh (bU _))⟩
noncomputable def K2:List (TE×TE)->St->ae->(List (V×V)->ae->Prop)->Prop
 |[],_,H,Q=>Q [] H
 | (a5,kP)::r,σ,H,Q=>a5 σ H λx H1=>kP σ H1 λy ah=>K2 r σ ah λps aZ=>Q ((x,y)::ps) aZ
noncomputable abbrev WR:List (V×V)->List (Value×Value)->Prop:=bO λp q=>RelV p.1 q.1/\RelV p.2 q.2
end
noncomputable def Gg(X:bo)(pos:Pos)(keys:List (Option Expr))(values:hF)(tY:List (TE×TE)):Prop:=
 ∀(pins:dP)(s:aK)(σ:St)(H:ae)(Q:List (V×V)->ae->Prop),Inv X pins σ H s->K2 tY σ H Q->
  aL (aX X.prog X.w) X.A (evalPairs (pairTrees keys values X.env pos)) (λvs s'=>∃ps H',Inv X pins σ H' s'/\WR ps vs/\Q ps H') X.dZ s
theorem afe{X:bo}:Gg X pos [] [] []:=λpins s σ H Q I h=>pairTrees_nil_walk ⟨[],H,I,.nil,h⟩
theorem adt{X:bo}{k v:Expr}{gS:List (Option Expr)}{vs:hF}{tY:List (TE×TE)}(aP:bq X k a5)(bj:bq X v kP)(ao:Gg X pos gS vs tY):
  Gg X pos (some k::gS) (v::vs) ((a5,kP)::tY):=λpins s σ H Q I h=>
 pairTrees_cons_walk (bD (aP pins s σ H _ I h) λu s1⟨x,H1,aR,bt,bz⟩=>bD (bj pins s1 σ H1 _ aR bz) λg4 s2⟨y,ah,bH,bC,cv⟩=>
  bD (ao pins s2 σ ah _ bH cv) λws s3⟨ps,aZ,cZ,rel,gg⟩=>⟨(x,y)::ps,aZ,cZ,.cons ⟨bt,bC⟩ rel,gg⟩)
noncomputable def Bp(kvs more:List (bA×V)):List (bA×V):=more.foldl (λacc bZ=>eN acc bZ.1 bZ.2) kvs
theorem gb.merge:∀{more:List (bA×V)}{rs:List (bA×Value)}{kvs:List (bA×V)}{vs:List (bA×Value)},gb more rs->gb kvs vs->gb (Bp kvs more) (merged vs rs):=by
 intro more rs kvs vs r;unfold gb at r
 induction r generalizing kvs vs with
 |nil=>intro q;exact q
 |@cons p q ps oA h t a3=>
  intro r0;have e:gb (eN kvs p.1 p.2) (stored vs q.1 q.2):=by have:=r0.put p.1 h.2;rw[<-h.1];exact this
  exact a3 e
theorem È:∀(more kvs:List (bA×V)),(Bp kvs more).length<=kvs.length+more.length
 |[],kvs=>by show kvs.length<=kvs.length+0;omega
 |p::r,kvs=>by have ag:=È r (eN kvs p.1 p.2);have ai:=H7 kvs p.1 p.2;show(Bp (eN kvs p.1 p.2) r).length<=_;rw[lR];omega
theorem Ċ:∀{kvs:List (bA×V)}{ws:List (Value×Value)},WR (kvs.map λbZ=>(c9 bZ.1,bZ.2)) ws->∃rs,Carries (hI P w) ws rs/\gb kvs rs
 |[],_,r=>by rw[Lq]at r;cases r;exact⟨[],lW,.nil⟩
 |p::kvs,_,r=>by
  rw[hE]at r;cases r with
  |@cons a b as bs h t=>
   obtain⟨rs,c,q⟩:=Ċ (P:=P) (w:=w) t;obtain⟨e5,eT⟩:=b;exact⟨(p.1,eT)::rs,⟨qN h.1,rfl,c⟩,.cons ⟨rfl,h.2⟩ q⟩
noncomputable def aiz(tY:List (TE×TE)):TE:=λσ H Q=>∀p,H p=none->K2 tY σ (upd H p (.bN [])) λps ah=>ah p=some (.bN [])/\∃kvs:List (bA×V),ps=kvs.map (λbZ=>(c9 bZ.1,bZ.2))/\kvs.length<=15/\Q (.ref p) (upd ah p (.bN (Bp [] kvs)))
theorem aff{X:bo}{keys:List (Option Expr)}{values:hF}{tY:List (TE×TE)}(h:Gg X pos keys values tY)(xE:keys.all (·.isSome)=true)(aw:keys.length=values.length)(h0:keys≠[])(alQ:keys.length<=15):bq X (.Dict keys values pos) (aiz tY):=by
 intro pins s σ H Q I q;have aM:=I.bf.fresh (bU s.heap.objs.size);have aR:=I.laid (a:=s.heap.objs.size) (o:=.bN []) (h':=s.heap.push {cls:=.type "dict",data:=.dict #[]}) (t':=s.toks) (λ_ _ q=>dm _ q) (bU _) (Tq s.heap I.big);refine wpAny_Dict_walk (knd:=hI X.prog X.w) xE aw h0 alQ (bD (h pins _ σ _ _ aR (q _ aM)) λws s2 hz=>?_);obtain⟨ps,ah,bH,rel,e,kvs,ep,lk,cv⟩:=hz;subst ep;obtain⟨rs,c,vV⟩:=Ċ (P:=X.prog) (w:=X.w) rel;obtain⟨z,hd,avO,r0,dd⟩:=yP bH.bf e;cases r0;refine⟨rs,c,dd,λh' j_ hs=>⟨.ref s.heap.objs.size,_,?_,rfl,cv⟩⟩;have hz:(Bp [] kvs).length<=sizeLine:=by have ag:=È kvs [];rw[B6]at ag;rw[tR];omega
 have he:∃q,h'.get? s.heap.objs.size=some q:=let⟨q,_,_,a8,_⟩:=j_;⟨q,a8⟩
 exact x_ bH (by rw[e];exact lW) hs he (EK hz hd (vV.merge .nil) j_)
structure di(X:bo)(o:Expr)(m:Str)(fq:Pos)(e:Expr)(fz:Pos):Prop where
 base:zQ o m X.env (eval o X.env)=eval o X.env
 c6:((hp fz (dY [e] X.env)).all (λx=>!x.1)&&(lY fz (l6 [] X.env)).all (λx=>x.1.isSome)
  && decide (([e]:hF).length+([]:List wy).length+(if([]:List wy).isEmpty then 0 else 1)<30))=true
 line:(fq.endLine==fz.line)=true
 trees:hp fz (dY [e] X.env)=[(false,eval e X.env)]
structure M2(X:bo)(o:Expr)(m:Str)(fq:Pos)(e f:Expr)(fz:Pos):Prop where
 base:zQ o m X.env (eval o X.env)=eval o X.env
 c6:((hp fz (dY [e,f] X.env)).all (λx=>!x.1)&&(lY fz (l6 [] X.env)).all (λx=>x.1.isSome)
  && decide (([e,f]:hF).length+([]:List wy).length+(if([]:List wy).isEmpty then 0 else 1)<30))=true
 line:(fq.endLine==fz.line)=true
 trees:hp fz (dY [e,f] X.env)=[(false,eval e X.env),(false,eval f X.env)]
noncomputable def za(H:ae)(a:Addr):Prop:=(∃kvs,gJ H a (.bN kvs))\/∃kvs,gJ H a (.d4 kvs)
theorem E8{X:bo}{s:aK}(I:Inv X pins σ H s)(d:za H a):
  s.TypeIs (.ref a) "dict"/\(∀b,cu a=.ref b->∃ob,s.heap.get? b=some ob/\ob.dict=none)/\(a==me)=false:=by
 rcases d with⟨kvs,e⟩|⟨kvs,e⟩
 .obtain⟨_,hd,vs,_,dd⟩:=yO I.bf e;refine⟨dd.typeIs,λb q=>?_,hd⟩;cases q;obtain⟨ob,_,_,ag,ai,_⟩:=dd;exact⟨ob,ag,ai.2.1⟩
 .obtain⟨_,hd,xs,_,dd⟩:=yQ I.bf e;refine⟨dd.typeIs,λb q=>?_,hd⟩;cases q;obtain⟨ob,_,_,ag,ai,_⟩:=dd;exact⟨ob,ag,ai.2.1⟩
section
variable{X:bo}{pins:dP}{σ:St}{H:ae}{s:aK}{a:Addr}{y d:V}{u r:Value}{o:Option V}{A:du}{E:cc}
theorem ahi{Q:cc}(b_:A.units+1<cLine)(I:Inv X pins σ H s)(g:ir H a y o)(bC:RelV y u)(h:∀eJ s',Inv X pins σ H s'->RelV (o.getD .bc) eJ->Q eJ s'):
  aL (aX X.prog X.w) A (call (.builtin "dict.get") [.ref a,u]) Q E s:=by
 rcases g with⟨kvs,k,e,da,l⟩|⟨kvs,k,b,e,da,dx,l⟩
 .subst da;obtain⟨z,hd,vs,rel,dd⟩:=yO I.bf e;refine CV V1 dd.typeIs adL (adJ _ _) (meets_dict_get (hI X.prog X.w) a (qN bC) hd) ⟨_,dd.mapOf,h _ _ (I.tok _) ?_⟩;rw[l];exact(rel.val k).getD rfl
 .subst da;cases(show u=cu b from bC);obtain⟨z,hd,xs,rel,dd⟩:=yQ I.bf e;refine CV V1 dd.typeIs adL (adJ _ _) (meetsH_dict_get (Ba (hI X.prog X.w)) a b hd) ⟨ED b_,k,xs,yk I.bf dx,dd,h _ _ (I.tok _) ?_⟩;rw[l];exact(rel.val k).getD rfl
end
noncomputable def ahj(ek ty:TE):TE:=λσ H Q=>ek σ H λx H1=>∃a,x=.ref a/\za H1 a/\ty σ H1 λy ah=>∃o,ir ah a y o/\Q (o.getD .bc) ah
noncomputable def agR(ek ty lJ:TE):TE:=λσ H Q=>ek σ H λx H1=>∃a,x=.ref a/\za H1 a/\ty σ H1 λy ah=>lJ σ ah λz aZ=>∃kvs k,aZ a=some (.bN kvs)/\y=c9 k/\
 (∀v,cy kvs k=some v->Q v (upd aZ a (.bN (wc kvs k))))/\(cy kvs k=none->Q z aZ)
section
variable{X:bo}{o e f:Expr}{fq fz:Pos}{ek ty lJ:TE}
theorem Tt(b_:X.A.units+1<cLine)(aU:bq X o ek)(he:bq X e ty)(m:di X o "get" fq e fz):bq X (.Call (.Attribute o "get" fq) [e] [] fz) (ahj ek ty):=by intro pins s σ H Q I h;refine Sd m.base m.c6 m.line LZ V1 PySem.F.type_dict_get (bD (aU pins s σ H _ I h) λu s1 hz=>?_);obtain⟨x,H1,aR,bt,a,ex,d,bz⟩:=hz;subst ex;obtain rfl:u=cu a:=bt;obtain⟨t1,dU,_⟩:=E8 aR d;refine⟨t1,dU,?_⟩;rw[m.trees];refine Fg rfl (BO (wk (bD (he pins s1 σ H1 _ aR bz) λi4 s2⟨y,ah,bH,bC,fC,g,cv⟩=>Fh ?_)));exact ahi b_ bH g bC λeJ s3 cZ hy=>⟨_,ah,cZ,hy,cv⟩
theorem Tu(aU:bq X o ek)(he:bq X e ty)(hf:bq X f lJ)(m:M2 X o "pop" fq e f fz):bq X (.Call (.Attribute o "pop" fq) [e,f] [] fz) (agR ek ty lJ):=by
 intro pins s σ H Q I h;refine Sd m.base m.c6 m.line LZ L0 adX (bD (aU pins s σ H _ I h) λu s1 hz=>?_);obtain⟨x,H1,aR,bt,a,ex,d,bz⟩:=hz;subst ex;obtain rfl:u=cu a:=bt;obtain⟨t1,dU,_⟩:=E8 aR d;refine⟨t1,dU,?_⟩;rw[m.trees];refine Fg rfl (BO (wk (bD (he pins s1 σ H1 _ aR bz) λi4 s2⟨y,ah,bH,bC,cv⟩=>
  wk (bD (hf pins s2 σ ah _ bH cv) λdq s3⟨z,aZ,cZ,rX,kvs,k,a4,da,gg,pH⟩=>Fh ?_))))
 subst da;cases l:cy kvs k with
 |some v=>exact aiw cZ a4 bC l (.inr ⟨dq,rfl⟩) λeJ s4 jf hy=>⟨v,_,jf,hy,gg v l⟩
 |none=>exact ahe cZ a4 bC l λs4 jf=>⟨z,aZ,jf,rX,pH l⟩
end
section
variable{κ:Type}[DecidableEq κ]
theorem adu{kvs:List (κ×V)}{k:κ}(h:cy kvs k=none):¬k∈kvs.map (·.1):=by intro m;obtain⟨p,aN,e⟩:=b7.mp m;have q:(kvs.any λbZ=>decide (bZ.1=k))=true:=q8.mpr ⟨p,aN,cT e⟩;rw[pk,h]at q;exact bx q (by simp)
theorem UN{kvs:List (κ×V)}{k:κ}(h:cy kvs k=some v):k∈kvs.map (·.1):=by
 have q:(kvs.any λbZ=>decide (bZ.1=k))=true:=by
  rw[pk,h]
  all_goals rfl
 obtain⟨p,aN,e⟩:=q8.mp q;exact b7.mpr ⟨p,aN,kL e⟩
theorem UO:∀{l:List κ}{k:κ},l.Nodup->¬k∈l->(l++[k]).Nodup
 |[],k,_,_=>by simp
 |a::r,k,h,aP=>by
  obtain⟨ag,ai⟩:=iE.mp h;show(a::(r++[k])).Nodup;refine iE.mpr ⟨λm=>?_,UO ai λm=>aP (dv.mpr (o1 m))⟩;rcases hl.mp m with q|q
  .exact ag q
  .exact aP (dv.mpr (cR (g5.mp q).symm))
theorem afg{kvs:List (κ×V)}{k:κ}(v:V)(aM:(kvs.map (·.1)).Nodup)(h:cy kvs k=none):((eN kvs k v).map (·.1)).Nodup:=by rw[D' v h,fm];exact UO aM (adu h)
end
end ar
namespace cH
section
open PySem PySem.Spec PyProof.Rows
open PySem.Builtin PySem.Builtin.Getset_descriptor
structure oJ(K:aY)(C:Addr):Prop where
 ga:cJ K (.ref C) "__getattribute__"=some (some (.builtin "BaseException.__getattribute__"))
 no:cJ K (.ref C) "__getattr__"=some none
 aF:cJ K (.ref C) "__class__"=some (some (.builtin "object.__class__"))
 aM:uw K (.builtin "object.__class__") "__get__"=some (some (.builtin "getset_descriptor.__get__"))
 HN:Cz K (.builtin "object.__class__")=some true
 hm:p_ K C (.type "object")=some true
 aa:p_ K C (.type "BaseException")=some true
noncomputable def sf(h:Heap)(x C:Addr):Prop:=∃o,h.get? x=some o/\o.cls=.ref C
theorem sf.type{M:mu}(I:sf h x C):n2 M h (typeOf (.ref x)) (.ref C):=by obtain⟨o,e,c⟩:=I;rw[<-c];exact(L1 e).andThen .now
section
variable{prog:cG}{w:bS}{A:du}{E:cc}{s:aK}{K:aY}{x C:Addr}{name:Str}
theorem ŋ{M:mu}{χ:Value}{Q:Unit->aK->Prop}(X:K.In s.heap)(c:oJ K C)(I:sf s.heap x C)(a8:Q () s):
  aL M A (XZ "BaseException.__getattribute__" ⟨[.ref x,χ],[]⟩) Q E s:=by
 have aP:builtinKind "BaseException.__getattribute__"=some .slot:=by decide+kernel
 have am7:splitId "BaseException.__getattribute__"=some ("BaseException","__getattribute__"):=by decide+kernel
 have aF:=F.args_bexc_ga (.ref x) χ;have F1:n2 M s.heap (vi (.ref x) (.type "BaseException")) true:=I.type.andThen (aeb X c.aa);obtain⟨h,g,d,t,os⟩:=s;simp only[XZ,aP,am7];refine au (F1.at ?_)
 repeat (first|assumption|wp_step)
theorem VM{fill:Bool}{Q:cc}(X:K.In s.heap)(c:oJ K C)(I:sf s.heap x C)(h:∀e7:du,iH (aX prog w) e7 (.call (.builtin "BaseException.__getattribute__") ⟨[.ref x,.str name a5],[]⟩) (λr s'=>match r with|.ok (.ret v)=>aL (aX prog w) A (Y2 v) Q E s'|_=>False) s):
  aL (aX prog w) A (YH (.ref x) (.str name a5) fill expr) Q E s:=by
 have zd:=I.type (M:=aX prog w);have wz:=rh (M:=aX prog w) X c.ga;have ar:=rh (M:=aX prog w) X c.no;have cU:=F.excAttr_ValueError.ga.bind (.ref x);have ani:(expr&&Υ (w3 "BaseException.__getattribute__"))=false:=by cases expr<;>rfl
 have anj:(w3 "BaseException.__getattribute__"==w3 "object.__getattribute__")=false:=by decide+kernel
 have DB:(Υ (cu C)&&w3 "BaseException.__getattribute__"==w3 "object.__getattribute__")=false:=by rw[anj];rfl
 obtain⟨dr,g,d,t,os⟩:=s;unfold YH;refine hA (au (zd.at (au (wz.at ?_))));dsimp only;rw[bp (by rw[DB];exact fU)];unfold getAttrByItsOwn hookBefore;rw[bB (show Υ (cu C)=true from rfl)];refine au (ar.at ?_);refine au (EM (hA ?_));unfold callGetattribute;rw[bp (by rw[ani];exact fU)];unfold boundAndCalled;rw[cU];refine au (aT ?_);refine pQ (qm (h _) λr s' ao=>?_);rcases r with e|(_|_|_|v)<;>first|exact ao|exact ao.elim
theorem adv{R:my->aK->Prop}{bV:Value}(X:K.In s.heap)(I:sf s.heap x C)(hm:p_ K C (.type "object")=some true)(h:R (.ok (.ret (.ref C))) s):
  iH (aX prog w) A (.call (.builtin "getset_descriptor.__get__") ⟨[.builtin "object.__class__",.ref x,bV],[]⟩) R s:=by
 have zd:=I.type (M:=aX prog w);have ary:=aeb (M:=aX prog w) X hm;obtain⟨h0,g,d,t,os⟩:=s;refine uK adZ.plain ar0 ?_;refine adZ.check _ _ _ _ _ _ _ _ ar2 (arY _ _ _) ?_;unfold Builtin.«getset_descriptor.__get__» descrGet;rw[PySem.W.dga_obj];refine au (aT ?_);unfold descrGetter descrCheckInstance descrNameAndClass vi;simp only[ar1]
 repeat lk
 refine⟨Fj _ (by decide+kernel),kz arZ ?_⟩;unfold Builtin.«object.__class__» shownTypeOf
 repeat lk
 exact h
theorem abH{M:mu}(X:K.In h)(aF:cJ K (.ref C) name=some (some a))(bE:uw K a "__get__"=some (some g))(dM:Cz K a=some true):
  n2 M h (S1 (.ref x) (.ref C) name) (.bind g a):=by
 have wz:=rh (M:=M) X aF;have ar:n2 M h (arh (some a)) (some g):=PySem.W.looks_specialIn X bE;have cH:=PySem.W.looks_takesIn (M:=M) X dM;unfold S1;refine wz.andThen (ar.andThen ?_);have abD:n2 M h (Ŧ (some a) (some g)) (some (g,a)):=by unfold Ŧ;refine cH.andThen ?_;exact .now
 exact abD.andThen (PySem.W.Looks.tag .now)
theorem oJ.some(c:oJ K C):(Gi K C).isSome=true:=by have h:=c.hm;unfold p_ at h;obtain⟨cd,a,_⟩:=Option.bind_eq_some_iff.mp h;rw[a];rfl
theorem abI{fill:Bool}{a5:Tok}{Q:cc}(X:K.In s.heap)(c:oJ K C)(I:sf s.heap x C)(h:Q (.ref C) s):
  aL (aX prog w) A (YH (.ref x) (.str "__class__" a5) fill expr) Q E s:=by refine VM X c I λe7=>uK F.excAttr_ValueError.ga.plain F.entry_bexc_ga (ŋ X c I ?_);have zd:=I.type (M:=aX prog w);have wz:=abH (M:=aX prog w) (x:=x) X c.aF c.aM c.HN;obtain⟨dr,g,d,t,os⟩:=s;unfold Builtin.«object.__getattribute__»;have bY:slotArgs "__getattribute__" 1 ⟨[.ref x,.str (e8 "__class__") a5],[]⟩=pure (.ref x,[.str (e8 "__class__") a5]):=rfl;rw[bY];refine au (aT ?_);dsimp only;have an:ť (.str (e8 "__class__") a5)=pure (e8 "__class__"):=rfl;rw[an];refine au (aT (au (zd.at (au (wz.at ?_)))));dsimp only;unfold arf;show aL _ _ (mU [w3 "object.__class__"] (call (w3 "getset_descriptor.__get__") [w3 "object.__class__",cu x,cu C]) >>=ret) _ _ _;refine au (hA (pQ (adv X I c.hm ?_)));refine aT ?_;show aL _ _ (Y2 (.ref C)) _ _ _;exact aT h
theorem afh{Q:Option Value->aK->Prop}(X:K.In s.heap)(c:oJ K C)(I:sf s.heap x C)(h:Q (some (.ref C)) {s with toks:=s.toks+1}):aL (aX prog w) A (getAttr? (.ref x) "__class__") Q E s:=by unfold getAttr? getAttrBy?;refine au (wpAny_mkText (au (EM ?_)));refine abI (s:={s with toks:=s.toks+1}) X c I ?_;exact aT h
end
end
open PySem PySem.Spec PyProof.Rows ar
theorem adw{K:aY}{M:mu}(c:oJ K C)(X:K.In h):n2 M h (isType (.ref C)) true:=by
 obtain⟨cd,aq⟩:=sP.mp c.some;unfold Gi at aq;split at aq
 .rename_i hK kA X4 M1 aU;intro A Q E s k q;unfold isType loadHead;exact au (aqw (k _ _ (X _ _ aU)) (aT q))
 .cases aq
theorem S7{K:aY}(c:oJ K C):PySem.W.KitX K (.ref a4) (.ref C) (λh=>sf h a4 C)where
 ty:=λ_ _ _ I=>I.type
 it:=λ_ _ X _=>adw c X
 ne:=λh bV dd its n sl X anc=>by
  refine Kx.mpr λq=>?_;have e:C=bV:=Value.ref.inj (o6.mp q);subst e;obtain⟨cd,aq⟩:=sP.mp c.some;unfold Gi at aq;split at aq
  .rename_i hK kA X4 M1 aU;have z:=(X _ _ aU).symm.trans anc;cases z
  .cases aq
 ca:=λX I k=>afh X c I k
section
variable{X:bo}
theorem Xq{k:Nat}{A:du}(r:gC k A):A.units+65<cLine:=by have:=r.un;omega
inductive aj0(K:aY)(neg:Bool)(x:ar.V)(y:ar.V)(H:ae)(Q:a'):Prop where
 |mk (d:_) (ds:_) (bM:lO K H x d) (bu:lO K H y (.list ds)) (bW:n3 d=true) (cW:p8 ds=true) (dD:Q (.aA (if neg then !(ds.any λz=>hn z d)else ds.any λz=>hn z d)) H)
theorem adx{A:du}{d:PyData}(dO:n3 d=true)(b_:A.units+65<cLine):A.units+1+min (wQ ds) d.depth<cLine:=by have ag:=SeqAt.depth_of_shaped dO;have ai:min (wQ ds) d.depth<=d.depth:=Ck _ _;omega
theorem VN(b_:X.A.units+65<cLine):fO X (gA .In) (aj0 X.K false):=by intro pins s σ H x y v u Q I bt bC h;obtain⟨d,ds,hd,he,dO,cP,q⟩:=h;obtain⟨as,hV⟩:=x3 I hd bt;obtain⟨bs,qR⟩:=x3 I he bC;exact SeqAt.in_list_reads qR hV cP (SeqAt.canLay_of_shaped dO) (adx dO b_) ⟨.aA _,H,I,rfl,q⟩
end
end cH
namespace df
open PySem ar cH
theorem fG:iG "len"=some (.builtin "len"):=by decide+kernel
theorem jJ:iG "isinstance"=some (.builtin "isinstance"):=by decide+kernel
theorem EF:iG "all"=some (.builtin "all"):=by decide+kernel
theorem E9:iG "int"=some (.type "int"):=by decide+kernel
theorem UP:iG "bool"=some (.type "bool"):=by decide+kernel
theorem agS:iG "str"=some (.type "str"):=by decide+kernel
theorem qC:iG "list"=some (.type "list"):=by decide+kernel
theorem AI:iG "tuple"=some (.type "tuple"):=by decide+kernel
theorem VH:iG "set"=some (.type "set"):=by decide+kernel
theorem aqQ:iG "ValueError"=some (.type "ValueError"):=by decide+kernel
structure fk(mg:cw):Prop where
 len:mg "len"=none
 range:mg "range"=none
 isinstance:mg "isinstance"=none
 CS:mg "all"=none
 int:mg "int"=none
 bool:mg "bool"=none
 str:mg "str"=none
 list:mg "list"=none
 tuple:mg "tuple"=none
 Ý:mg "set"=none
 ValueError:mg "ValueError"=none
 enumerate:mg "enumerate"=none
 max:mg "max"=none
 min:mg "min"=none
 sum:mg "sum"=none
 ar6:mg "any"=none
 dict:mg "dict"=none
 sorted:mg "sorted"=none
 zip:mg "zip"=none
structure cY(K:aY)(mg:cw)(x:Str)(st:Stmt)(ps:cb)(f:Addr)(fd:m_):Prop where
 fn:cC K x x st f fd
 at_:mg x=some (.ref f)
 bd:Binds K fd ps []
structure cS(K:aY)(C:Addr)(m qual:Str)(st:Stmt)(ps:cb)(f:Addr)(fd:m_):Prop where
 fn:cC K m qual st f fd
 d1:Meth K C m f
 bd:Binds K fd ps []
structure lP(K:aY)(C:Addr)(qual:Str)(st:Stmt)(ps:cb)(f:Addr)(fd:m_):Prop where
 fn:cC K "__init__" qual st f fd
 made:p6 K C f
 bd:Binds K fd ps []
noncomputable def sx(mg:cw)(x:Str)(i:Int):Prop:=∃t,mg x=some (.int i t)
theorem vA{X:bo}{i:Int}(bE:jd X x)(h:sx X.mg x i)(hd:(x==("__debug__":Str))=false:=by decide):bq X (.Name x pos) (tV (.int i)):=by obtain⟨t,e⟩:=h;exact Uk bE e ⟨t,rfl⟩ hd
theorem nC{X:bo}(bE:jd X x)(hm:X.mg x=none)(bj:iG x=some (.type T))(aM:x≠"__name__":=by decide)(hd:(x==("__debug__":Str))=false:=by decide):bq X (.Name x pos) (tV (.ty T)):=
 aeY (v:=.ty T) bE hm bj rfl aM hd
theorem Bq{X:bo}(bE:jd X x)(hm:X.mg x=some (.ref C))(hd:(x==("__debug__":Str))=false:=by decide):bq X (.Name x pos) (tV (.ref C)):=
 Uk (v:=.ref C) bE hm rfl hd
theorem vG{wi:TI}{b6:TE}{rest:ar.St}{H1:ae}{Q:a'}{J:fe}{xs:aW}(hw:∀R:fe->ae->Prop,R J H1->wi σ H R)(gd:hc cs σ=none::rest)(b2:mF J H1 xs)(aw:xs.length<sizeLine)(f:ar.V->ar.V)(elt:∀(i:Nat)(x:ar.V)(ah:ae)(R:a'),xs[i]?=some x->aH H1 ah->(∀ba,aH ah ba->R (f x) ba)->b6 (some x::rest) ah R)(fin:∀(D:Addr)(H':ae),H1 D=none->H' D=some (.lst (xs.map f))->aH H1 H'->Q (.ref D) H'):mf wi cs (ha 0) q0 b6 σ H Q:=hw _ (ag7 gd b2 aw f elt fin)
theorem agT{wi:TI}{tt:TT}{b6:TE}{rest:ar.St}{H1:ae}{Q:a'}{J:fe}{xs:aW}(hw:∀R:fe->ae->Prop,R J H1->wi σ H R)(gd:hc cs σ=none::rest)(b2:mF J H1 xs)(aw:xs.length<sizeLine)(p:ar.V->Bool)(f:ar.V->ar.V)(test:∀(i:Nat)(x:ar.V)(ah:ae)(R:Bool->ae->Prop),xs[i]?=some x->aH H1 ah->(∀ba,aH ah ba->R (p x) ba)->tt (some x::rest) ah R)(elt:∀(i:Nat)(x:ar.V)(ah:ae)(R:a'),xs[i]?=some x->p x=true->aH H1 ah->(∀ba,aH ah ba->R (f x) ba)->b6 (some x::rest) ah R)(fin:∀(D:Addr)(H':ae),H1 D=none->H' D=some (.lst ((xs.filter p).map f))->aH H1 H'->Q (.ref D) H'):mf wi cs (ha 0) tt b6 σ H Q:=hw _ (LO gd b2 aw p f test elt fin)
theorem Bh(K:aY)(t:String):jI K (.type t) (.type t)=some true:=by unfold jI;exact bB (by simp)
theorem yX{X:bo}:qG (f9 X.prog X.w) X sz:=by rintro pins σ H s e s' I ⟨_,_,_,_,_,_,_,z⟩;exact z.elim
theorem ju{cl big:List (Str×Addr)}(h:∀p∈cl,big.lookup p.1=some p.2)(x:Str)(c:Addr)(e:cl.lookup x=some c):big.lookup x=some c:=by
 induction cl with
 |nil=>cases e
 |cons p r a3=>
  obtain⟨y,d⟩:=p;rw[List.lookup_cons]at e;by_cases aa:(x==y)=true
  .rw[aa]at e;cases e;have:=h (y,c) (um ..);rw[show x=y from eq_of_beq aa];exact this
  .rw[Bool.not_eq_true]at aa;rw[aa]at e;exact a3 (λp aN=>h p (ng _ aN)) e
end df
namespace di
open PySem
noncomputable def Co(l:dN):Prop:=1<=l.length/\l.length<=8/\∀x∈l,97<=x/\x<=122
structure gJ where
 a:Nat
 b:Nat
 t:Int
 m:Int
abbrev ck:= List gJ
structure gJ.Ok(r:gJ)(n:Nat):Prop where
 a:r.a<n
 b:r.b<n
 ne:r.a≠r.b
 t:1<=r.t/\r.t<=9
 m:1<=r.m/\r.m<=1000000000
end di
namespace df
open PySem ar cH di
section
variable{P:cG}{w:bS}{K:aY}{mg:cw}{base:Heap}
noncomputable abbrev S(l:dN):Str:=⟨l.toArray⟩
theorem afi{ns:fp}{k:Int}(h0:0<=k)(ag:k<(ns.map V.int).length):gn (ns.map V.int) k=some (V.int (ns.getD k.toNat 0)):=by
 have ai:k.toNat < ns.length:=by rw[bk]at ag;omega
 have e:(ns.map V.int)[k.toNat]?=some (V.int (ns.getD k.toNat 0)):=by rw[cx,cF ai];simp[eF,ai]
 have:=il e
 rwa [ug h0]at this
inductive Xr(K:aY)(vs:aW)(H:ae)(Q:a')(el:bX):Prop where
 |mk (a:Addr) (ns:fp) (k:Int) (bM:vs=[.ref a,.int k]) (bu:aC K H a (ns.map V.int)) (bW:0<=k) (cW:Q (.int (ns.getD k.toNat 0)) H)
theorem ż:(e8 "abcdefghijklmnopqrstuvwxyz").cps.toList=(dK 26).map (97+·):=by decide+kernel
theorem adj{i:Int}(h0:0<=i)(ag:i<26):gn (e8 "abcdefghijklmnopqrstuvwxyz").cps.toList i=some (97+i.toNat):=by
 have e:(e8 "abcdefghijklmnopqrstuvwxyz").cps.toList[i.toNat]?=some (97+i.toNat):=by rw[ż,cx,Ln (by omega)];rfl
 have:=il e
 rwa [ug h0]at this
theorem aiA(a b:dN):S a++S b=S (a++b):=by show Str.append _ _=_;simp[Str.append,S]
theorem BP(a:dN):(S a).length=a.length:=by simp[S,Str.length]
noncomputable def de(hs:bF):List ar.V:=hs.map λl=>V.str (S l)
theorem Kg(hs:bF):de hs=(hs.map S).map V.str:=by simp[de]
theorem UQ(l:dN):signs (S l)=l.map λc=>V.str (S [c]):=by simp[signs,S]
noncomputable def m4(hs:bF)(r:di.gJ):List ar.V:=[.str (S (hs.getD r.a [])),.str (S (hs.getD r.b [])),.int r.t,.int r.m]
noncomputable def fa(H:ae):List Addr->List aW->Prop:=bO λr d=>H r=some (.tup d)
theorem fa.same(ax:aH H H'){rs ds}(h:fa H rs ds):fa H' rs ds:=bO.gL h λ_ _ e=>ax _ _ e
noncomputable def aG(rs:cj):List ar.V:=rs.map V.ref
theorem Paired.snoc{α β:Type}{F:α->β->Prop}{x:α}{y:β}(q:F x y):∀{l:List α}{m:List β},bO F l m->bO F (l++[x]) (m++[y])
 |_,_,.nil=>.cons q .nil
 |_,_,.cons r t=>.cons r (Paired.snoc q t)
theorem VB{hs:bF}{k:Int}(h0:0<=k)(ag:k<hs.length):gn (de hs) k=some (V.str (S (hs.getD k.toNat []))):=by
 have ai:k.toNat < hs.length:=by omega
 have e:(de hs)[k.toNat]?=some (V.str (S (hs.getD k.toNat []))):=by unfold de;rw[cx,cF ai];simp[eF,ai]
 have:=il e
 rwa [ug h0]at this
theorem JV(hs:bF):(de hs).length=hs.length:=bk ..
theorem k7{H:ae}(aN:H p=none)(ax:aH H H'):aH H (upd H' p o):=λb u e=>by rw[aD (cA e aN)];exact ax b u e
theorem fa.upd{H:ae}{rs ds}(h:fa H rs ds)(e:H p=some u)(b_:∀d,u≠.tup d):fa (upd H p o) rs ds:=bO.gL h λr d q=>by
 rw[aD]
 .exact q
 .rintro rfl;rw[e]at q;exact b_ d (gV q)
theorem Ax(rs:cj)(t:Addr):aG rs++[V.ref t]=aG (rs++[t]):=by simp[aG]
theorem d6(rs:cj):(aG rs).length=rs.length:=bk ..
theorem fa.len{H rs ds}(h:fa H rs ds):rs.length=ds.length:=gW h
theorem b8{H:ae}{t:Addr}(dM:H t=none):aH H (upd H t o):=λb u e=>by rw[aD (cA e dM)];exact e
theorem eQ{A B:Prop}(h:b=true)(q:A):if b=true then A else B:=by rw[bB h];exact q
theorem dw{A B:Prop}(h:b=false)(q:B):if b=true then A else B:=by subst h;exact q
theorem rR{R:a'}(e:b=true)(h:R (.aA true) H):R (.aA b) H:=by rw[e];exact h
theorem Sq(xs:aW):xs.map (λ_=>V.aA true)=(B8 xs.length true).map V.aA:=by
 induction xs with
 |nil=>rfl
 |cons x r a3=>simp[List.replicate_succ,a3]
theorem Sv(n:Nat):(B8 n true).all id=true:=by rw[ze];intro x av;exact(List.mem_replicate.mp av).2
structure U3(K:aY):Prop where
 O6:jI K (.type "int") (.type "bool")=some false
inductive Ki(vs:aW)(H:ae)(Q:a')(el:bX):Prop where
 |mk (i:Int) (bM:vs=[.int i]) (bu:Q (.aA true) H)
inductive S8(vs:aW)(H:ae)(Q:a')(el:bX):Prop where
 |mk (i a b:Int) (bM:vs=[.int i,.int a,.int b]) (bu:a<=i) (bW:i<=b) (cW:Q (.aA true) H)
inductive Kj(vs:aW)(H:ae)(Q:a')(el:bX):Prop where
 |mk (r:Addr) (xs:aW) (n:Int) (bM:vs=[.ref r,.int n]) (bu:H r=some (.tup xs)) (bW:(xs.length:Int)=n) (cW:Q (.aA true) H)
theorem RI(ys:cb):(ys.map V.str).all rP=true:=by rw[ze];intro x av;obtain⟨y,_,rfl⟩:=b7.mp av;rfl
theorem Kk{ys:cb}{x:Str}(h:x∈ys):rC (.str x) (ys.map V.str)=true:=by unfold rC;rw[q8];exact⟨.str x,b7.mpr ⟨x,h,rfl⟩,by show(x==x)=true;exact beq_self_eq_true x⟩
inductive S9(K:aY)(vs:aW)(H:ae)(Q:a')(el:bX):Prop where
 |mk (a:Addr) (ys:cb) (x y:Str) (bM:vs=[.ref a,.str x,.str y]) (bu:aC K H a (ys.map V.str)) (bW:x∈ys) (cW:y∈ys) (dD:x≠y) (eS:Q (.aA true) H)
theorem apv:e8 "a"=⟨#[97]⟩:=by decide+kernel
theorem apw:e8 "z"=⟨#[122]⟩:=by decide+kernel
inductive VC(vs:aW)(H:ae)(Q:a')(el:bX):Prop where
 |mk (l:dN) (bM:vs=[.str (S l)]) (bu:Co l) (bW:∀H',aH H H'->Q (.aA true) H')
structure Cp(mg:cw):Prop where
 acz:sx mg "MOST_HOUSES" 12
 acB:sx mg "MOST_ROADS" 40
 acD:sx mg "MOST_SIGNS" 8
 acF:sx mg "MOST_TURNS" 9
 acC:sx mg "MOST_ROOM" 1000000000
theorem FI{b:dN}(h:S a=S b):a=b:=by have:=ht (λx=>x.cps.toList) h;simpa[S]using this
theorem afb{hs:bF}(h:hs.Nodup):∀i j,i<j->j<(hs.map S).length->(hs.map S).getD i o4≠(hs.map S).getD j o4:=by
 intro i j Oq bg e;rw[bk]at bg;have ak:i<hs.length:=by omega
 rw[eF,eF,cx,cx,cF ak,cF bg]at e;have aB:=FI (show S hs[i]=S hs[j]from e);exact F'.mp h i j ak bg Oq aB
structure Good(hs:bF):Prop where
 nm:∀x∈hs,Co x
 aI:hs.Nodup
 c6:hs.length<=12
inductive VD(vs:aW)(H:ae)(Q:a')(el:bX):Prop where
 |mk (a:Addr) (hs:bF) (bM:vs=[.ref a]) (bu:H a=some (.lst (de hs))) (bW:Good hs) (cW:∀H',aH H H'->Q (.aA true) H')
theorem bO.get{α β:Type}{F:α->β->Prop}:∀{l:List α}{m:List β}{i:Nat}{x:α},bO F l m->l[i]?=some x->∃y,m[i]?=some y/\F x y
 |_,_,_,_,.nil,e=>by simp at e
 |_,_,0,_,.cons r _,e=>by simp at e;subst e;exact⟨_,rfl,r⟩
 |_,_,i+1,x,.cons _ t,e=>by obtain⟨y,ag,ai⟩:=bO.get (i:=i) (x:=x) t (by simpa using e);exact⟨y,by simpa using ag,ai⟩
structure hr(H:ae)(hs:bF)(rs:cj)(ds:ck):Prop where
 ij:fa H rs (ds.map (m4 hs))
 ok:∀d∈ds,d.Ok hs.length
theorem hr.same{hs rs ds}(r:hr H hs rs ds)(ax:aH H H'):hr H' hs rs ds:=⟨r.ij.same ax,r.ok⟩
theorem hr.get{H:ae}{hs rs ds}{i:Nat}(q:hr H hs rs ds)(e:rs[i]?=some r):∃d,ds[i]?=some d/\d.Ok hs.length/\H r=some (.tup (m4 hs d)):=by obtain⟨y,ag,ai⟩:=bO.get q.ij e;rw[cx]at ag;obtain⟨d,hd,rfl⟩:=e0.mp ag;exact⟨d,hd,q.ok d (dV hd),ai⟩
theorem hr.len{hs rs ds}(q:hr H hs rs ds):rs.length=ds.length:=by
 have:=q.ij.len
 rwa [bk]at this
theorem Bi{hs:bF}{a:Nat}(h:a<hs.length):S (hs.getD a [])∈hs.map S:=by refine b7.mpr ⟨hs.getD a [],?_,rfl⟩;rw[eF,cF h];exact sG h
theorem aiB{hs:bF}{a b:Nat}(aI:hs.Nodup)(aF:a<hs.length)(aa:b<hs.length)(ne:a≠b):S (hs.getD a [])≠S (hs.getD b []):=by
 intro e;have aB:=FI e;rw[eF,eF,cF aF,cF aa]at aB;rcases Nat.lt_or_gt_of_ne ne with h|h
 .exact F'.mp aI a b aF aa h aB
 .exact F'.mp aI b a aa aF h aB.symm
inductive VE(K:aY)(vs:aW)(H:ae)(Q:a')(el:bX):Prop where
 |mk (a r:Addr) (hs:bF) (d:di.gJ) (bM:vs=[.ref a,.ref r]) (bu:aC K H a (de hs)) (bW:hs.Nodup) (cW:d.Ok hs.length) (dD:H r=some (.tup (m4 hs d))) (eS:Q (.aA true) H)
inductive VF(K:aY)(vs:aW)(H:ae)(Q:a')(el:bX):Prop where
 |mk (a b:Addr) (hs:bF) (rs:cj) (ds:ck) (bM:vs=[.ref a,.ref b]) (bu:aC K H a (de hs)) (bW:hs.Nodup) (cW:H b=some (.lst (aG rs))) (dD:hr H hs rs ds) (eS:rs.length<=40) (hB:∀H',aH H H'->Q (.aA true) H')
noncomputable def SameBut(x:Addr)(H H':ae):Prop:=∀b o,b≠x->H b=some o->H' b=some o
noncomputable def Xs(a b:Addr):List (Str×ar.V):=[("kept_houses",.ref a),("kept_roads",.ref b)]
structure ua(K:aY)(C:Addr):Prop where
 cl:eh K C
 vJ:vP K C "kept_houses"
 jD:vP K C "kept_roads"
inductive VG(K:aY)(C:Addr)(vs:aW)(H:ae)(Q:a')(el:bX):Prop where
 |mk (x af a b:Addr) (hs:bF) (rs:cj) (ds:ck) (bM:vs=[.ref x,.ref a,.ref b]) (bu:H x=some (.ins C af [])) (bW:H a=some (.lst (de hs))) (cW:Good hs) (dD:H b=some (.lst (aG rs))) (eS:hr H hs rs ds) (hB:rs.length<=40) (lN:∀(H':ae)(bL br:Addr),SameBut x H H'->H' x=some (.ins C af (Xs bL br))->H' bL=some (.lst (de hs))->H' br=some (.lst (aG rs))->H bL=none->H br=none->Q .bc H')
structure i6(C:Addr)(H:ae)(x bL br:Addr)(xs ys:aW):Prop where
 ins:∃af,H x=some (.ins C af (Xs bL br))
 ry:H bL=some (.lst xs)
 rV:H br=some (.lst ys)
theorem i6.same(n:i6 C H x bL br xs ys)(ax:aH H H'):i6 C H' x bL br xs ys:=
 let⟨af,h⟩:=n.ins
 ⟨⟨af,ax _ _ h⟩,ax _ _ n.ry,ax _ _ n.rV⟩
inductive I0(C:Addr)(vs:aW)(H:ae)(Q:a')(el:bX):Prop where
 |mk (x bL br:Addr) (xs ys:aW) (bM:vs=[.ref x]) (bu:i6 C H x bL br xs ys) (bW:∀l,H l=none->Q (.ref l) (upd H l (.lst xs)))
inductive Sx(C:Addr)(vs:aW)(H:ae)(Q:a')(el:bX):Prop where
 |mk (x bL br:Addr) (xs ys:aW) (bM:vs=[.ref x]) (bu:i6 C H x bL br xs ys) (bW:∀l,H l=none->Q (.ref l) (upd H l (.lst ys)))
inductive UR(C R:Addr)(vs:aW)(H:ae)(Q:a')(E:bX):Prop where
 |mk (x bL br:Addr) (xs ys:aW) (k:Int) (bM:vs=[.ref x,.int k]) (bu:i6 C H x bL br xs ys) (bW:(0<=k/\k<ys.length->∃v,gn ys k=some v/\Q v H)) (cW:(¬(0<=k/\k<ys.length)->E (.ref R) none H))
noncomputable def bl(hs:bF):List PyData:=(hs.map S).map PyData.str
theorem Jo(h:Co l):wO (.str (S l))=true:=by simp only[wO,PyData.strOk,S];rw[Array.all_eq_true_iff_forall_mem];intro x av;have:=h.2.2 x (by simpa using av);exact cT (by omega)
theorem oo{ds:gx}(h:∀d∈ds,d.canLay0=true):p8 ds=true:=by
 induction ds with
 |nil=>rfl
 |cons d r a3=>
  simp only[p8,iB];exact⟨h d (um ..),a3 λe he=>h e (ng _ he)⟩
theorem IU{ds:gx}{n:Nat}(h:∀d∈ds,d.depth<=n):wQ ds<=n:=by
 induction ds with
 |nil=>exact eZ _
 |cons d r a3=>
  simp only[wQ];exact Nat.max_le.mpr ⟨h d (um ..),a3 λe he=>h e (ng _ he)⟩
theorem tu{d:PyData}{n:Nat}(ag:d.canLay0=true)(ai:d.depth<=n)(bK:n<=64):n3 d=true:=by unfold n3;rw[ag,cT (eP ai bK)];rfl
theorem Kl{d:PyData}(h:d.canLay0=true):(if true=true then !hn d d else hn d d)=false:=by rw[Ji d h];rfl
theorem afE{rs:cj}{i:Nat}(e:rs[i]?=some r):gn (aG rs) ((0:Int)+(i:Int))=some (V.ref r):=by rw[nc];refine il ?_;unfold aG;rw[cx,e];rfl
theorem RJ{b':ae}(av:b' x=none)(hd:b' af=none)(b4:SameBut x (upd (upd b' af o) x u) dE):aH b' dE:=λb v e=>by have cE:=cA e av;have c':=cA e hd;refine b4 b v cE ?_;rw[aD cE,aD c'];exact e
inductive FJ(K:aY)(vs:aW)(H:ae)(Q:a')(el:bX):Prop where
 |mk (a:Addr) (ns:fp) (bM:vs=[.ref a]) (bu:aC K H a (ns.map V.int)) (bW:ns.length<=63) (cW:∀H',Q (.aA true) H')
noncomputable def VQ(cd:KQ)(sl:nj)(C R:Addr):Bool:=match cd.mro,sl.toList with
  |.ref BL::bm,[_,_,_,_,some (.builtin _),_]=>BL==C&&!cd.hasDel&&bm.contains (.type "BaseException")&&(cu C::bm).contains (.ref R)
  |_,_=>false
theorem abJ{K:aY}{dd:Option Addr}{cd:KQ}(l:K.lookup C=some ⟨.type "type",dd,.cls cd,sl⟩)(h:VQ cd sl C R=true):tG K C R=true:=by unfold tG;rw[l];exact h
theorem agU(K:aY):jI K (.type "int") (.type "bool")=some false:=by show(if(nk "int"==nk "bool")=true then some true else if L2 "bool"=true then(alh "int").map (·.contains (.type "bool"))else none)=some false;decide+kernel
noncomputable def xQ(ns:fp):PyData:=.list (ns.map uu)
theorem E'(ns:fp):(xQ ns).canLay0=true:=oo λd hd=>by obtain⟨x,_,rfl⟩:=b7.mp hd;rfl
theorem Sy(ns:fp):(xQ ns).depth<=1:=by
 unfold xQ;simp only[PyData.depth];exact LH (IU λe he=>by
  obtain⟨x,_,rfl⟩:=b7.mp he;exact bU _)
theorem Sz{K:aY}:∀ns:List Int,iT K H (ns.map V.int) (ns.map uu)
 |[]=>.nil
 |x::r=>.cons (.int x) (Sz r)
theorem Kr{K:aY}{ns:fp}(h:aC K H a (ns.map V.int)):lO K H (.ref a) (xQ ns):=.lst h (Sz ns)
theorem ne_int{i j:Int}(h:i≠j):decide (V.int i=V.int j)=false:=dn λz=>h (V.int.inj z)
theorem aan(n:Nat)(q:Nat->Bool):(((dK n).map λi:Nat=>V.int ((0:Int)+(i:Int))).filter λv=>match v with|.int k=>q k.toNat|_=>false).map (λv=>v)=(((dK n).filter q).map λi:Nat=>(i:Int)).map V.int:=by
 rw[Lp,zg,gU];have e:(λi:Nat=>V.int ((0:Int)+(i:Int)))=(V.int∘λi:Nat=>(i:Int)):=by funext i;show V.int (0+(i:Int))=V.int (i:Int);rw[nc]
 have aB:((λv:ar.V=>match v with|.int k=>q k.toNat|_=>false)∘λi:Nat=>V.int ((0:Int)+(i:Int)))=q:=by funext i;show q ((0:Int)+(i:Int)).toNat=q i;congr 1;omega
 rw[aB,e]
noncomputable def top(i:Nat):Stmt:=arA.main.body.getD i (.Pass ⟨0,0,0,0⟩)
mutual
inductive dH(H:ae):ar.V->PyData->Prop
 |bc:dH H .bc .none
 |aA (b:Bool):dH H (.aA b) (.bool b)
 |int (i:Int):dH H (.int i) (.int i)
 |str (x:Str) (z:x.length<=100) (ok:PyData.strOk x=true):dH H (.str x) (.str x)
 |lst {a:Addr} {xs:aW} {ds:gx}:H a=some (.lst xs)->xs.length<=100->fo H xs ds->dH H (.ref a) (.list ds)
 |tup {a:Addr} {xs:aW} {ds:gx}:H a=some (.tup xs)->xs.length<=100->fo H xs ds->dH H (.ref a) (.tuple ds)
inductive fo(H:ae):List ar.V->List PyData->Prop
 |nil:fo H [] []
 |cons {v:ar.V} {d:PyData} {vs:aW} {ds:gx}:dH H v d->fo H vs ds->fo H (v::vs) (d::ds)
end
mutual
theorem dH.same(ax:aH H H'):∀{v:ar.V}{d:PyData},dH H v d->dH H' v d
 |_,_,.bc=>.bc
 |_,_,.aA b=>.aA b
 |_,_,.int i=>.int i
 |_,_,.str x z ok=>.str x z ok
 |_,_,.lst h z t=>.lst (ax _ _ h) z (fo.same ax t)
 |_,_,.tup h z t=>.tup (ax _ _ h) z (fo.same ax t)
theorem fo.same(ax:aH H H'):∀{vs:aW}{ds:gx},fo H vs ds->fo H' vs ds
 |_,_,.nil=>.nil
 |_,_,.cons a b=>.cons (dH.same ax a) (fo.same ax b)
end
end
mutual
theorem dH.nu{K:aY}:∀{v:ar.V}{d:PyData},dH H v d->lO K H v d
 |_,_,.bc=>.bc
 |_,_,.aA b=>.aA b
 |_,_,.int i=>.int i
 |_,_,.str x z ok=>.str x
 |_,_,.lst h z t=>.lst (aC.of h) (fo.nu t)
 |_,_,.tup h z t=>.tup (bI.of h) (fo.nu t)
theorem fo.nu{K:aY}:∀{vs:aW}{ds:gx},fo H vs ds->iT K H vs ds
 |_,_,.nil=>.nil
 |_,_,.cons a b=>.cons (dH.nu a) (fo.nu b)
end
mutual
theorem dH.h5:∀{v:ar.V}{d:PyData},dH H v d->d.canLay0=true
 |_,_,.bc=>rfl
 |_,_,.aA b=>rfl
 |_,_,.int i=>rfl
 |_,_,.str x z ok=>ok
 |_,_,.lst h z t=>fo.h5 t
 |_,_,.tup h z t=>fo.h5 t
theorem fo.h5:∀{vs:aW}{ds:gx},fo H vs ds->p8 ds=true
 |_,_,.nil=>rfl
 |_,_,.cons a b=>by simp only[p8,iB];exact⟨dH.h5 a,fo.h5 b⟩
end
mutual
theorem dH.inj:∀{v:ar.V}{d e:PyData},dH H v d->dH H v e->d=e
 |_,_,_,.bc,.bc=>rfl
 |_,_,_,.aA b,.aA _=>rfl
 |_,_,_,.int i,.int _=>rfl
 |_,_,_,.str x _ _,.str _ _ _=>rfl
 |_,_,_,.lst h _ t,.lst h' _ t'=>by rw[h]at h';cases h';rw[fo.inj t t']
 |_,_,_,.tup h _ t,.tup h' _ t'=>by rw[h]at h';cases h';rw[fo.inj t t']
 |_,_,_,.lst h _ _,.tup h' _ _=>by rw[h]at h';cases h'
 |_,_,_,.tup h _ _,.lst h' _ _=>by rw[h]at h';cases h'
theorem fo.inj:∀{vs:aW}{ds es:gx},fo H vs ds->fo H vs es->ds=es
 |_,_,_,.nil,.nil=>rfl
 |_,_,_,.cons a b,.cons bL br=>by rw[dH.inj a bL,fo.inj b br]
end
theorem fo.len:∀{vs:aW}{ds:gx},fo H vs ds->vs.length=ds.length
 |_,_,.nil=>rfl
 |_,_,.cons _ b=>by simp[fo.len b]
theorem fo.get:∀{vs:aW}{ds:gx}{i:Nat}{v:ar.V},fo H vs ds->vs[i]?=some v->∃d,ds[i]?=some d/\dH H v d
 |_,_,_,_,.nil,e=>by simp at e
 |_,_,0,_,.cons a _,e=>by simp at e;subst e;exact⟨_,rfl,a⟩
 |_,_,i+1,v,.cons _ b,e=>by obtain⟨d,ag,ai⟩:=fo.get (i:=i) (v:=v) b (by simpa using e);exact⟨d,by simpa using ag,ai⟩
open Classical in
noncomputable def GZ(H:ae)(v:ar.V):PyData:=if h:∃d,dH H v d then Ŷ h else .none
theorem S'{d:PyData}(h:dH H v d):GZ H v=d:=by
 have q:∃d,dH H v d:=⟨d,h⟩
 unfold GZ;rw[dif_pos q];exact dH.inj (KR q) h
noncomputable def yE:PyData->String
 |.none=>"NoneType"
 |.bool _=>"bool"
 |.int _=>"int"
 |.str _=>"str"
 |.list _=>"list"
 |.tuple _=>"tuple"
 |.dict _=>"dict"
theorem dH.ty{K:aY}{d:PyData}(h:dH H v d):ma K H v (.type (yE d)):=by
 cases h with
 |bc=>exact .bc
 |aA b=>exact .aA b
 |int i=>exact .int i
 |str x _ _=>exact .str x
 |lst h _ _=>exact .lst h
 |tup h _ _=>exact .tup h
noncomputable def wm(t c:String):Option Bool:=if(nk t==nk c)=true then some true else if L2 c=true then(alh t).map (·.contains (.type c))else none
theorem FK(K:aY){t:String}(h:wm t c=some b):jI K (.type t) (.type c)=some b:=h
noncomputable def isTup:PyData->Bool|.tuple _=>true|_=>false
noncomputable def isBool:PyData->Bool|.bool _=>true|_=>false
noncomputable def VR:PyData->Bool|.int _=>true|.bool _=>true|_=>false
theorem adD(d:PyData):wm (yE d) "tuple"=some (isTup d):=by cases d<;>(show wm _ _=some _;simp only[yE,isTup];decide+kernel)
theorem US(d:PyData):wm (yE d) "bool"=some (isBool d):=by cases d<;>(show wm _ _=some _;simp only[yE,isBool];decide+kernel)
theorem agV(d:PyData):wm (yE d) "int"=some (VR d):=by cases d<;>(show wm _ _=some _;simp only[yE,VR];decide+kernel)
noncomputable def adE:PyData->Bool
 |.int _=>true
 |_=>false
noncomputable def Em(lo ak:Int):PyData->Bool
 |.int i=>decide (lo<=i)&&decide (i<=ak)
 |_=>false
noncomputable def inD(d:PyData)(ds:gx):Bool:=ds.any λz=>hn z d
noncomputable def hJ(hs:gx)(a b:PyData):Bool:=inD a hs&&inD b hs&&!hn a b
end df
namespace df
open PySem PySem.Spec PyProof.Rows ar cH di
structure LW where
 p:ae->ar.V->Prop
 up:∀{H H':ae}{v:ar.V},aH H H'->p H v->p H' v
noncomputable def akN(d:PyData):LW:=⟨λH v=>dH H v d,λax h=>h.same ax⟩
section
variable{X:bo}{e a b:Expr}{es:hF}{pos d_:Pos}{wg:List (Option LW)}{A B R:LW}
theorem agW{H v i}(h:dH H v (.int i)):v=.int i:=by cases h;rfl
theorem K3{H v ds}(h:dH H v (.list ds)):∃a xs,v=.ref a/\H a=some (.lst xs)/\xs.length<=100/\fo H xs ds:=by cases h;exact⟨_,_,rfl,by assumption,by assumption,by assumption⟩
theorem VS{H v ds}(h:dH H v (.tuple ds)):∃a xs,v=.ref a/\H a=some (.tup xs)/\xs.length<=100/\fo H xs ds:=by cases h;exact⟨_,_,rfl,by assumption,by assumption,by assumption⟩
noncomputable abbrev L(x:String):Str:=e8 x
end
theorem Fb{hs:bF}{y:Str}(h:y∉hs.map S):inD (.str y) (bl hs)=false:=by unfold inD;rw[Kx];intro z;obtain⟨v,bj,e⟩:=q8.mp z;obtain⟨u,b_,rfl⟩:=b7.mp bj;have bJ:(u==y)=true:=e;exact h (eq_of_beq bJ▸b_)
theorem VT{H:ae}:∀{hs:bF},(∀x∈hs,Co x)->fo H (de hs) (bl hs)
 |[],_=>.nil
 |l::hs,h=>.cons (.str (S l) (by rw[BP];have:=(h l (um ..)).2.1;omega) (Jo (h l (um ..)))) (VT λx av=>h x (ng _ av))
theorem W5{H:ae}(G:Good hs)(h:H a=some (.lst (de hs))):dH H (.ref a) (.list (bl hs)):=.lst h (by rw[JV];have:=G.c6;omega) (VT G.nm)
end df
namespace di
open PySem
noncomputable def hsz(c:Int):Nat:=(1+c%8).toNat
noncomputable def fH(c:Int):Nat:=(c/8%(1+c%8)).toNat
noncomputable def jw(c:Int)(k j:Nat):Nat:=97+((c/64+5*(j:Int)*(j:Int)+2*(k:Int)*(if j=fH c then 1 else 0))%26).toNat
noncomputable def th(c:Int)(k:Nat):List Nat:=(dK (hsz c)).map (jw c k)
noncomputable def tx(c:Int)(m:Nat):List dN:=(dK m).map (th c)
theorem VU(c:Int):1<=hsz c/\hsz c<=8:=by unfold hsz;omega
theorem afF(c:Int):(1+c%8)=(hsz c:Int):=by unfold hsz;omega
theorem agX(c:Int):fH c<hsz c:=by
 have ag:0<1+c%8:=by omega
 have ai:=p1 (c/8) ag;have bK:=lQ (c/8) (by omega:1+c%8≠0);unfold fH hsz;omega
theorem afG(c:Int):c/8%(1+c%8)=(fH c:Int):=by have bK:=lQ (c/8) (by omega:1+c%8≠0);unfold fH;omega
theorem agY(c:Int)(k j:Nat):97<=jw c k j/\jw c k j<=122:=by unfold jw;omega
theorem agZ(c:Int)(k:Nat):Co (th c k):=by have h:=VU c;refine⟨by simp[th];omega,by simp[th];omega,λx av=>?_⟩;obtain⟨j,_,rfl⟩:=b7.mp av;exact agY c k j
theorem afH{c:Int}{k l:Nat}(aP:k<13)(aw:l<13)(e:th c k=th c l):k=l:=by
 have h:=agX c;have aB:(th c k)[fH c]?=(th c l)[fH c]?:=by rw[e]
 unfold th at aB;rw[cx,cx,Ln h]at aB;have cX:jw c k (fH c)=jw c l (fH c):=by simpa using aB
 unfold jw at cX;rw[bB rfl]at cX;generalize c/64+5*(fH c:Int)*(fH c:Int)=z at cX;omega
theorem ŗ{α:Type}{f:Nat->α}{m:Nat}(h:∀i j,i<m->j<m->f i=f j->i=j):((dK m).map f).Nodup:=by refine wF.mpr ?_;refine abM ?_ (Lw (n:=m));intro a b aF aa rv e;exact rv (h a b (j5.mp aF) (j5.mp aa) e)
theorem aao{c:Int}{m:Nat}(h:m<=12):(tx c m).Nodup:=ŗ λi j ak bg e=>afH (by omega) (by omega) e
theorem Qt(c:Int)(m:Nat):(tx c m).length=m:=by simp[tx]
end di
namespace cH
open PySem PySem.Spec PyProof.Rows ar
noncomputable def fc{α:Type}:Sem α->Prop
 |.pure _=>True
 |.raise _=>True
 |.unsupported _=>True
 |.finish _=>True
 |.register _ _=>True
 |.rule _ k=>fc (k ())
 |.at _ k=>fc (k ())
 |.load _ _ k=>∀o,fc (k o)
 |.update _ _ f k=>(∀o,(f o).dict=o.dict)/\fc (k ())
 |.alloc _ k=>∀a,fc (k a)
 |.loadIfAlive _ k=>∀o,fc (k o)
 |.point _ k=>fc (k ())
 |.fresh k=>∀t,fc (k t)
 |.ask k=>∀t,fc (k t)
 |.handled _ k=>∀t,fc (k t)
 |.stack k=>∀t,fc (k t)
 |.thread k=>∀n,fc (k n)
 |_=>False
noncomputable def h9(h h':Heap):Prop:=h.objs.size<=h'.objs.size/\∀e,e<h.objs.size->(h'.objs[e]?).map (·.dict)=(h.objs[e]?).map (·.dict)
theorem h9.refl(h:Heap):h9 h h:=⟨bU _,λ_ _=>rfl⟩
theorem h9.trans(a:h9 h ag)(b:h9 ag ai):h9 h ai:=⟨eP a.1 b.1,λe he=>(b.2 e (iX he a.1)).trans (a.2 e he)⟩
theorem h9.push(h:Heap)(o:Obj):h9 h (h.push o):=by
 obtain⟨objs,l⟩:=h;refine⟨?_,λe he=>?_⟩
 .show objs.size<=(objs.push o).size;simp
 .show((objs.push o)[e]?).map _=_;rw[Array.getElem?_push_lt he];simp[he]
theorem h9.update(h:Heap)(a:Addr){f:Obj->Obj}(hf:∀o,(f o).dict=o.dict):h9 h (h.update a f):=by
 obtain⟨objs,l⟩:=h;refine⟨?_,λe he=>?_⟩
 .show objs.size<=(objs.modify a f).size;simp
 .show((objs.modify a f)[e]?).map _=_;rw[Array.getElem?_modify];split
  .cases objs[e]? with
   |none=>rfl
   |some o=>show some (f o).dict=_;rw[hf];rfl
  .rfl
theorem h9.dict{h h':Heap}(s:h9 h h'){o cB:Obj}(a:h.get? e=some o)(b:h'.get? e=some cB):cB.dict=o.dict:=by have ag:=(aaP.mp a).1;have ai:=(aaP.mp b).1;have:=s.2 e (c5 a);rw[ag,ai]at this;exact gV this
theorem afI{α:Type}{M:mu}{wg:PySem.Ctx}{Q:α->Pos->aK->Prop}{E:Value->Pos->aK->Prop}(t:Sem α)(aq:fc t)(p:Pos)(s:aK)(h:Sem.wp M wg t Q E p s):
  Sem.wp M wg t (λa hx s'=>Q a hx s'/\h9 s.heap s'.heap) (λa hx s'=>E a hx s'/\h9 s.heap s'.heap) p s:=by
 have key:∀(t:Sem α),fc t->∀(p:Pos)(s:aK)(h0:Heap),h9 h0 s.heap->Sem.wp M wg t Q E p s->Sem.wp M wg t (λa hx s'=>Q a hx s'/\h9 h0 s'.heap) (λa hx s'=>E a hx s'/\h9 h0 s'.heap) p s:=by
  intro t
  induction t with
  |pure a=>exactλ_ p s h0 dO h=>⟨h,dO⟩
  |raise e=>exactλ_ p s h0 dO h=>⟨h,dO⟩
  |unsupported=>exactλ_ p s h0 dO h=>h
  |finish=>exactλ_ p s h0 dO h=>h
  |register=>exactλ_ p s h0 dO h=>h
  |rule _ k a3=>exactλc p s h0 dO h=>a3 () c p s h0 dO h
  |«at» _ k a3=>exactλc p s h0 dO h=>a3 () c _ s h0 dO h
  |load a _ k a3=>exactλc p s h0 dO⟨o,e,h⟩=>⟨o,e,a3 o (c o) p s h0 dO h⟩
  |update a _ f k a3=>exactλc p s h0 dO⟨e,h⟩=>⟨e,a3 () c.2 p _ h0 (dO.trans (h9.update _ _ c.1)) h⟩
  |alloc o k a3=>exactλc p s h0 dO h=>a3 _ (c _) p _ h0 (dO.trans (h9.push _ _)) h
  |loadIfAlive a k a3=>exactλc p s h0 dO h=>a3 _ (c _) p s h0 dO h
  |point _ k a3=>exactλc p s h0 dO h=>a3 () c p s h0 dO h
  |fresh k a3=>exactλc p s h0 dO h=>a3 _ (c _) p _ h0 dO h
  |ask k a3=>exactλc p s h0 dO h=>a3 _ (c _) p s h0 dO h
  |handled _ k a3=>exactλc p s h0 dO h=>a3 _ (c _) p s h0 dO h
  |stack k a3=>exactλc p s h0 dO h=>a3 _ (c _) p s h0 dO h
  |thread k a3=>exactλc p s h0 dO h=>a3 _ (c _) p s h0 dO h
  |choose=>exactλc=>c.elim
  |os=>exactλc=>c.elim
  |call=>exactλc=>c.elim
  |newGen=>exactλc=>c.elim
  |genState=>exactλc=>c.elim
  |resume=>exactλc=>c.elim
  |yield=>exactλc=>c.elim
  |fork=>exactλc=>c.elim
  |await=>exactλc=>c.elim
 exact key t aq p s s.heap (h9.refl _) h
theorem D_{α:Type}{M:mu}{Q:α->aK->Prop}{E:cc}{t:Sem α}{s:aK}(aq:fc t)(h:aL M A t Q E s):aL M A t (λa s'=>Q a s'/\h9 s.heap s'.heap) (λa s'=>E a s'/\h9 s.heap s'.heap) s:=
 λwg p ZS=>afI t aq p s (h wg p ZS)
theorem h4{α β:Type}{t:Sem α}{f:α->Sem β}(h:fc t)(hf:∀a,fc (f a)):fc (t >>=f):=by
 show fc (t.bind f)
 induction t with
 |pure a=>exact hf a
 |raise e=>exact h
 |unsupported=>exact h
 |finish=>exact h
 |register=>exact h
 |rule _ k a3=>exact a3 () h
 |«at» _ k a3=>exact a3 () h
 |load a _ k a3=>exactλo=>a3 o (h o)
 |update a _ f k a3=>exact⟨h.1,a3 () h.2⟩
 |alloc o k a3=>exactλa=>a3 a (h a)
 |loadIfAlive a k a3=>exactλa=>a3 a (h a)
 |point _ k a3=>exact a3 () h
 |fresh k a3=>exactλa=>a3 a (h a)
 |ask k a3=>exactλa=>a3 a (h a)
 |handled _ k a3=>exactλa=>a3 a (h a)
 |stack k a3=>exactλa=>a3 a (h a)
 |thread k a3=>exactλa=>a3 a (h a)
 |choose=>exact h.elim
 |os=>exact h.elim
 |call=>exact h.elim
 |newGen=>exact h.elim
 |genState=>exact h.elim
 |resume=>exact h.elim
 |yield=>exact h.elim
 |fork=>exact h.elim
 |await=>exact h.elim
theorem ky{α:Type}{a:α}:fc (pure a:Sem α):=trivial
theorem rH{α:Type}:fc (unsupported x:Sem α):=trivial
theorem tp{α:Type}{c:Prop}[Decidable c]{a b:Sem α}(aF:fc a)(aa:fc b):fc (if c then a else b):=by split<;>assumption
theorem RK:fc (load a):=λ_=>trivial
theorem aqR:fc (fieldsOf v):=by
 unfold fieldsOf;cases v<;>first|exact rH|skip
 refine h4 RK λo=>?_;split<;>first|exact ky|exact rH
theorem IG{i:Nat}:fc (field v i):=by unfold field;refine h4 aqR λo=>?_;split<;>first|exact ky|exact rH
theorem PO{i:Nat}:fc (A9 v i x):=by
 unfold A9;cases v<;>first|exact rH|skip
 refine h4 RK λo=>?_;split
 .refine tp ⟨λo=>?_,trivial⟩ rH;obtain⟨c,d,nu,sl⟩:=o;cases nu<;>rfl
 .exact rH
theorem PB:fc (Q3 v f):=by unfold Q3;refine h4 IG λo=>tp PO ky
theorem QF:fc stack:=λ_=>trivial
theorem aqL{ty:String}:fc (newFields ty vs):=by
 have as:fc (newObjAsIs (.type ty) (.fields vs.toArray)):=by unfold newObjAsIs;exact h4 (λ_=>trivial) λa=>ky
 unfold newFields newObj;exact tp (c:=vs.toArray.size>sizeLine+2) (h4 rH λ_=>as) as
theorem aap:fc (Ym f b):=by unfold Ym;refine h4 QF λo=>?_;split<;>exact ky
theorem Ž{env:Env}:fc (akB env outer):=by unfold akB;exact tp ky (tp ky (h4 IG λ_=>ky))
theorem abK{env:Env}:fc (keptBack env b l):=by
 unfold keptBack;split
 .refine tp ky (h4 ?_ λ_=>ky);exact h4 QF λ_=>ky
 .exact ky
theorem ě:∀l:List Env,fc (readyFrames l)
 |[]=>trivial
 |env::outer=>by
  unfold readyFrames;split
  .exact h4 RK λo=>tp ky (h4 Ž λ_=>h4 abK λ_=>h4 ⟨λ_=>rfl,trivial⟩ λ_=>ě outer)
  .exact rH
theorem Ř{env:Env}:fc (We env):=by
 unfold We frameEnvs;refine h4 (h4 QF λ_=>ky) λl=>h4 ?_ λo=>?_
 .generalize List.dropWhile _ l=pv;cases pv with
  |nil=>exact ky
  |cons a b=>exact h4 (ě _) λ_=>ky
 .split<;>first|exact ky|exact rH
theorem ĥ{env:Env}:fc (Qc e env):=by
 unfold Qc;have last:∀(f:Addr)(head:Value),fc (do
   let a <-We env
   let b <-Ym f (head !=gm)
   let c <-ars head a gm (jE f) gm b
   A9 e 1 c):=λf head=>h4 Ř λ_=>h4 aap λ_=>h4 aqL λ_=>PO
 split
 .exact h4 IG λhead=>tp (h4 IG λ_=>tp ky (h4 PO λ_=>last _ _)) (last _ _)
 .exact rH
theorem Ø{env:Env}:fc (leaving env e):=h4 ĥ λ_=>PB
noncomputable def Fc(o8 rm:KQ)(vW:nj)(C:Addr)(gY:String):Bool:=
 (o8.mro==cu C::rm.mro)&&!o8.hasDel&&(match vW.toList with|[_,_,_,_,some (.builtin n),_]=>n==gY|_=>false)
theorem adF{K:aY}{mg:cw}{h:Heap}{GY:Option Addr}{o8 rm:KQ}{Jh:nj}(X:K.In h)(O:Exc K mg y R bm gY)(Pk:K.lookup C=some ⟨.type "type",l1,.cls o8,vW⟩)(Po:K.lookup R=some ⟨.type "type",GY,.cls rm,Jh⟩)(CW:Fc o8 rm vW C gY=true):
  ∃nm q N bs dA sn sub ab col k0 k1 k2 k3 k5,h.get? C=some (zZ nm q C N bs dA o8.hasDict sn sub ab col l1 k0 k1 k2 k3 k5 gY)/\zF h bm dA:=by
 obtain⟨dA,Vx,nm,q,bs,hdct,sn,sub,ab,col,dd,k0,k1,k2,k3,k5,mN,cK,eW,Ae,T⟩:=(O.own X).obj;have NQ:=X _ _ Po;have az:=NQ.symm.trans cK;have aB:=gV az;have hm:rm.mro=cu R::dA:=by have cX:(Data.cls rm)=_:=ht Obj.data aB;injection cX with cX;rw[cX]
 unfold Fc at CW;simp only[iB,o6,SW]at CW;obtain⟨⟨k6,o7⟩,xa⟩:=CW;split at xa
 .rename_i auW hS i5 auX n auZ hs;have xa:=o6.mp xa;subst xa;obtain⟨aos,akC,avc,avq,apd,pd,apI,apK,aiJ,akK,ata⟩:=o8;dsimp only at k6 o7;rw[hm]at k6;subst k6 o7;obtain⟨á⟩:=vW;simp only at hs;subst hs;exact⟨_,_,_,_,_,_,_,_,_,_,_,_,_,_,X _ _ Pk,.own cK eW Ae T⟩
 .cases xa
section
variable{prog:cG}{w:bS}{A:du}{E:cc}{s:aK}{K:aY}
variable{nm q:Str}{C N n8:Addr}{bs bm dA:c7}{hd:Bool}{sn:cb}{sub:c7}{ab:Bool}{col:Option Bool}{l1:Option Addr}{k0 k1 k2 k3 k5:CP}{B gY vh:String}
theorem abL(F:y7 B gY vh bm){rest:c7}{Q:cc}(T:zF s.heap bm dA)(X:K.In s.heap)(ey:s.heap.get? C=some (zZ nm q C N bs dA hd sn sub ab col l1 k0 k1 k2 k3 k5 gY))(ak:cJ K (.ref C) "__init__"=some (some (.ref n8)))(hf:ri K (.ref n8)=some (.type "function"))(ZL:rest.length<=sizeLine)(a8:∀h' e,s.heap.objs.size<=e->T7 s.heap h' e (.ref C) rest->aL (aX prog w) (A.under (.builtin "type.__call__" ⟨.ref C::rest,[]⟩)) (call (.ref n8) (.ref e::rest)) (λr s'=>r=.none/\Q (.ref e) s') E {s with heap:=h'}):
  aL (aX prog w) A (call (.ref C) rest) Q E s:=by
 obtain⟨h,g,d,t,os⟩:=s;have f1:=tc_lookup;have f2:=tc_bind (.ref C);have kf:(⟨h,g,d,t,os⟩:aK).TypeIs (.ref C) "type":=⟨_,ey,rfl⟩
 refine pQ (MX (show aL _ _ (callAny (.ref C) _) _ _ _ from ?_))
 repeat (any_goals (first|assumption|with_reducible refine j1 ey ?_|wp_step))
 refine⟨rfl,codeAny_call_builtin_at (Fj _ (by decide+kernel)) entry_typeCall (wpAny_check_type_call_sub ey ?_)⟩
 repeat (first|with_reducible refine wpAny_madeBy_exc ey ?_|with_reducible refine j1 ey ?_|wp_step)
 refine codeAny_call_builtin_code (Fj _ F.quiet) (wpAny_check_new_subT F T ey (codeAny_exc_new_subT F T ey (show aL _ _ _ _ _ _ from ?_) ZL));have rx:((h.push {cls:=.type "tuple",data:=.seq rest.toArray}).push {cls:=.ref C,data:=.fields #[.ref h.objs.size,.none,.none,.none,.bool false,.none]}).get? (h.objs.size+1)=some {cls:=.ref C,data:=.fields #[.ref h.objs.size,.none,.none,.none,.bool false,.none]}:=by heap_get
 have mk:T7 h ((h.push {cls:=.type "tuple",data:=.seq rest.toArray}).push {cls:=.ref C,data:=.fields #[.ref h.objs.size,.none,.none,.none,.bool false,.none]}) (h.objs.size+1) (.ref C) rest:=
  ⟨λb o aa=>dm _ (dm _ aa),T8 (oY _),h.objs.size,rx,T8 (bU _),dm _ (aaO rfl rfl)⟩
 have rz:=a8 _ _ (oY _) mk;have Mr:=X.keeps mk.keeps;have NK:=mk.keeps _ _ ey;have amh:(cu C::dA).contains (.ref C)=true:=by simp
 show aL _ _ _ _ _ ⟨(h.push {cls:=.type "tuple",data:=.seq rest.toArray}).push {cls:=.ref C,data:=.fields #[.ref h.objs.size,.none,.none,.none,.bool false,.none]},g,d,t,os⟩;dsimp only;generalize(h.push {cls:=.type "tuple",data:=.seq rest.toArray}).push {cls:=.ref C,data:=.fields #[.ref h.objs.size,.none,.none,.none,.bool false,.none]}=ai at rx mk rz Mr NK⊢;generalize h.objs.size=a0 at rx mk rz NK⊢;unfold vi
 repeat (first|with_reducible refine j1 rx ?_|(with_reducible refine Se NK ?_;rw[amh])|wp_step)
 refine(rh Mr ak).here ?_;refine hA (au ((ad2 Mr _ hf).here ?_));show aL _ _ (call (.ref n8) (.ref (a0+1)::rest) >>=λr=>pure (some r)) _ _ _;refine au (gi rz (λr s' ao=>?_) λ_ _ z=>z);obtain⟨rfl,d8⟩:=ao
 wp_walk
 exact d8
theorem ace(F:y7 B gY vh bm){R:my->aK->Prop}{e:Addr}{cV:Option Addr}{sl:nj}{rest:c7}(T:zF s.heap bm dA)(ey:s.heap.get? C=some (zZ nm q C N bs dA hd sn sub ab col l1 k0 k1 k2 k3 k5 gY))(he:s.heap.get? e=some ⟨.ref C,cV,.fields #[.ref t0,.none,.none,.none,.bool false,.none],sl⟩)(ZL:rest.length<=sizeLine)(a8:∀h' t,(∀b o,b≠e->s.heap.get? b=some o->h'.get? b=some o)->h'.get? e=some ⟨.ref C,cV,.fields #[.ref t,.none,.none,.none,.bool false,.none],sl⟩->R (.ok (.ret .none)) {s with heap:=h'}):
  iH (aX prog w) A (.call (.builtin vh) ⟨.ref e::rest,[]⟩) R s:=by
 obtain⟨h,g,d,t,os⟩:=s;refine uK F.init.plain F.initEntry (wpAny_check_init_subT F T ey he rfl ?_);dsimp only at he⊢
 wp_walk
 have amn:(h.push {cls:=.type "tuple",data:=.seq rest.toArray}).get? e=_:=dm _ he;refine a8 _ h.objs.size (λb o aa Hm=>?_) ?_
 .show((h.push _).update e _).get? b=some o;rw[je _ _ (c2 aa)];exact dm _ Hm
 .show((h.push _).update e _).get? e=_;rw[kr _ amn rfl];rfl
theorem ą(T:zF h bm dA)(self:Value)(ċ:Str):QP self ċ dA=QP self ċ bm:=by
 induction T with
 |base=>rfl
 |own _ _ _ _ a3=>rw[Ï,a3]
theorem UT{M:mu}{mA:cw}{name:Str}{ns:cb}{Q:Fin->aK->Prop}(aM:s.heap.Ns1 d mA)(hw:zJ mA ns)(hz:ns.length<=1000)(a8:∀h' qW,h'.Ns1 d (λy=>if y=name then some v else mA y)->mn d s.heap h'->Q (.done (.ret .none)) {s with heap:=h',toks:=qW}):
  aL M A (Ũ d (.str name a5) name v) Q E s:=by unfold Ũ arj;refine au (aT (au (wpAny_nsSet1 aM λh' oh hs=>?_)));obtain⟨aoT,ak9,ak5,OI,Oe,N_⟩:=oh.count (Wc name v hw);refine au (aqx OI (by rw[Oe];exact ao1 (eP N_ (by rw[lR,tR];omega))) ?_);exact aT (a8 _ _ oh hs)
theorem afJ{name:Str}{sl:nj}{Q:Unit->aK->Prop}(X:K.In s.heap)(mz:StoreFacts B bm bY owner)(T:zF s.heap bm dA)(ey:s.heap.get? C=some (zZ nm q C N bs dA hd sn sub ab col l1 k0 k1 k2 k3 k5 gY))(hs:cJ K (.ref C) "__setattr__"=some (some (.builtin bY)))(aM:cJ K (.ref C) name=some none)(aU:ho K (.ref C) (.type owner)=some true)(av:s.heap.get? x=some ⟨.ref C,none,.fields vs,sl⟩)(Of:hd=true)(a8:∀h' qW,h'.get? x=some ⟨.ref C,some s.heap.objs.size,.fields vs,sl⟩->h'.Ns1 s.heap.objs.size (λy=>if y=name then some v else none)->(∀b o,b≠x->s.heap.get? b=some o->h'.get? b=some o)->Q () {s with heap:=h',toks:=qW}):
  aL (aX prog w) A (Eo (.ref x) name v) Q E s:=by
 obtain⟨h,g,d,t,os⟩:=s;dsimp only at X T ey av;have ty:n2 (aX prog w) h (typeOf (.ref x)) (.ref C):=(L1 av).andThen .now;have ob:n2 (aX prog w) h (vi (.ref x) (.type owner)) true:=ty.andThen (aec X aU);unfold Eo callSpecial? specialOf;have cU:=mz.slot.bind (.ref x)
 repeat (any_goals (first|assumption|with_reducible refine j1 av ?_|wp_step))
 refine(rh X hs).here (hA (au (yS cU (au (pQ (uK mz.slot.plain mz.entry (V4 mz.kind mz.split ob (mz.args _ _ _) ?_)))))));have amZ:=mz.passes (.ref x);have vc:QP (.ref x) "__setattr__" dA=pure ():=(ą T _ _).trans amZ;unfold Builtin.«object.__setattr__»
 repeat (first|rw[refuse_eq]|(rw[Ï,vc])|with_reducible refine j1 av ?_|with_reducible refine aqz ey ?_|wp_step)
 refine(rh X aM).here (au (aT ?_));show aL _ _ (KG _ _ _ _ _ _) _ _ _;unfold KG;refine au (gi (Q:=λ_ s'=>s'=⟨h,g,d,t+1,os⟩) (E:=λ_ _=>False) ?_ (λ_ _ az=>?_) (λ_ _ z=>z.elim))
 .repeat (first|with_reducible refine j1 av ?_|with_reducible refine j1 ey ?_|wp_step)
  exact rfl
 .subst az;have ZQ:x≠h.objs.size:=dR (c5 av);have DB:(h.push {cls:=.type "dict",data:=.dict #[]}).get? x=_:=dm _ av;refine au (gi (Q:=λr s'=>r=some h.objs.size/\s'=⟨(h.push {cls:=.type "dict",data:=.dict #[]}).update x λo=>{o with dict:=some h.objs.size},g,d,t+1,os⟩) (E:=λ_ _=>False) ?_ (λ_ _ az=>?_) (λ_ _ z=>z.elim))
  .show aL _ _ (DD x true) _ _ _;subst Of;unfold DD
   repeat (first|with_reducible refine j1 av ?_|with_reducible refine j1 ey ?_|wp_step)
   exact⟨rfl,rfl⟩
  .obtain⟨rfl,rfl⟩:=az;have amz:((h.push {cls:=.type "dict",data:=.dict #[]}).update x λo=>{o with dict:=some h.objs.size}).get? x=some ⟨.ref C,some h.objs.size,.fields vs,sl⟩:=by rw[kr _ DB rfl]
   have Oo:((h.push {cls:=.type "dict",data:=.dict #[]}).update x λo=>{o with dict:=some h.objs.size}).get? h.objs.size=some {cls:=.type "dict",data:=.dict #[]}:=
    (je _ _ ZQ).trans (aaO rfl rfl)
   have amP:((h.push {cls:=.type "dict",data:=.dict #[]}).update x λo=>{o with dict:=some h.objs.size}).Ns h.objs.size (λ_=>none):=⟨_,#[],_,Oo,rfl,λe he=>bx he (by simp),λ_=>rfl⟩
   refine UT (mA:=λ_=>none) (ns:=[]) (aaN amP) aeg (by decide) λh' qW oh b4=>?_;refine aT (aT (a8 h' qW ?_ oh λb o aa Hm=>?_))
   .exact(b4.2 x ZQ).trans amz
   .refine(b4.2 b (dR (c5 Hm))).trans ((je _ _ (c2 aa)).trans (dm _ Hm))
theorem adG{name:Str}{sl:nj}{mA:cw}{ns:cb}{Q:Unit->aK->Prop}(X:K.In s.heap)(mz:StoreFacts B bm bY owner)(T:zF s.heap bm dA)(ey:s.heap.get? C=some (zZ nm q C N bs dA hd sn sub ab col l1 k0 k1 k2 k3 k5 gY))(hs:cJ K (.ref C) "__setattr__"=some (some (.builtin bY)))(aM:cJ K (.ref C) name=some none)(aU:ho K (.ref C) (.type owner)=some true)(av:s.heap.get? x=some ⟨.ref C,some af,.fields vs,sl⟩)(Of:hd=true)(eW:s.heap.Ns1 af mA)(hw:zJ mA ns)(hz:ns.length<=1000)(a8:∀h' qW,h'.Ns1 af (λy=>if y=name then some v else mA y)->mn af s.heap h'->Q () {s with heap:=h',toks:=qW}):
  aL (aX prog w) A (Eo (.ref x) name v) Q E s:=by
 obtain⟨h,g,d,t,os⟩:=s;dsimp only at X T ey av eW;have ty:n2 (aX prog w) h (typeOf (.ref x)) (.ref C):=(L1 av).andThen .now;have ob:n2 (aX prog w) h (vi (.ref x) (.type owner)) true:=ty.andThen (aec X aU);unfold Eo callSpecial? specialOf;have cU:=mz.slot.bind (.ref x)
 repeat (any_goals (first|assumption|with_reducible refine j1 av ?_|wp_step))
 refine(rh X hs).here (hA (au (yS cU (au (pQ (uK mz.slot.plain mz.entry (V4 mz.kind mz.split ob (mz.args _ _ _) ?_)))))));have vc:QP (.ref x) "__setattr__" dA=pure ():=(ą T _ _).trans (mz.passes (.ref x));unfold Builtin.«object.__setattr__»
 repeat (first|rw[refuse_eq]|(rw[Ï,vc])|with_reducible refine j1 av ?_|with_reducible refine aqz ey ?_|wp_step)
 refine(rh X aM).here (au (aT ?_));show aL _ _ (KG _ _ _ _ _ _) _ _ _;unfold KG;refine au (gi (Q:=λ_ s'=>s'=⟨h,g,d,t+1,os⟩) (E:=λ_ _=>False) ?_ (λ_ _ az=>?_) (λ_ _ z=>z.elim))
 .repeat (first|with_reducible refine j1 av ?_|with_reducible refine j1 ey ?_|wp_step)
  exact rfl
 .subst az;refine au (gi (Q:=λr s'=>r=some af/\s'=⟨h,g,d,t+1,os⟩) (E:=λ_ _=>False) ?_ (λ_ _ az=>?_) (λ_ _ z=>z.elim))
  .show aL _ _ (DD x true) _ _ _;subst Of;unfold DD
   repeat (first|with_reducible refine j1 av ?_|with_reducible refine j1 ey ?_|wp_step)
   exact⟨rfl,rfl⟩
  .obtain⟨rfl,rfl⟩:=az;refine UT eW hw hz λh' qW oh b4=>?_;exact aT (aT (a8 h' qW oh b4))
theorem agL{name:Str}{sl:nj}{mA:cw}{Q:cc}(X:K.In s.heap)(c:oJ K C)(aM:cJ K (.ref C) name=some none)(hd:wW K C=true)(av:s.heap.get? x=some ⟨.ref C,some af,.fields vs,sl⟩)(eW:s.heap.Ns1 af mA)(bj:mA name=some v)(dr:V6 v=true)(a8:Q v {s with toks:=s.toks+1}):aL (aX prog w) A (ND (.ref x) name b) Q E s:=by
 refine au (wpAny_mkText ?_);refine VM (s:={s with toks:=s.toks+1}) X c ⟨_,av,rfl⟩ λe7=>uK F.excAttr_ValueError.ga.plain F.entry_bexc_ga (ŋ (s:={s with toks:=s.toks+1}) X c ⟨_,av,rfl⟩ ?_);have zd:n2 (aX prog w) s.heap (typeOf (.ref x)) (.ref C):=sf.type ⟨_,av,rfl⟩;have wz:=rh (M:=aX prog w) X aM;obtain⟨cd,lg,pd⟩:=ad1 hd;have abC:=aea (M:=aX prog w) X lg;obtain⟨amA,g,d,t,os⟩:=s;unfold Builtin.«object.__getattribute__»;have bY:slotArgs "__getattribute__" 1 ⟨[.ref x,.str name t],[]⟩=pure (.ref x,[.str name t]):=rfl;rw[bY];refine au (aT ?_);dsimp only;have an:ť (.str name t)=pure name:=rfl;rw[an];refine au (aT (au (zd.at (au ?_))));unfold S1;refine au (wz.at (au (aT (au (aT ?_)))));show aL _ _ (ŧ _ _ _ _) _ _ _;unfold ŧ ari ark;refine au (au (au (gi (Q:=λo s'=>o=⟨.ref C,some af,.fields vs,sl⟩/\s'=⟨amA,g,d,t+1,os⟩) (E:=λ_ _=>False) ?_ (λ_ _ az=>?_) (λ_ _ z=>z.elim))))
 .repeat (first|with_reducible refine j1 av ?_|wp_step)
  exact⟨rfl,rfl⟩
 .obtain⟨rfl,rfl⟩:=az;show aL _ _ (DD x false) _ _ _;unfold DD;refine au (j1 av ?_);dsimp only;refine au (abC.at ?_);rw[pd];refine aT ?_;show aL _ _ (nsGet af name) _ _ _;refine wpAny_nsGet eW.ns ?_;rw[bj];show aL _ _ (rule "getattr.instance-dict" >>=λ_=>pure (ard v)) _ _ _;refine au (pS (aT (aT ?_)));show aL _ _ (Y2 v) _ _ _;rw[PySem.W.handedOut_of dr];exact aT a8
end
noncomputable def mP(e C:Addr):f_:=.ext λh=>∃t sl,h.get? e=some ⟨.ref C,none,.fields #[.ref t,.none,.none,.none,.bool false,.none],sl⟩
noncomputable def mO(e C af:Addr):f_:=.ext λh=>∃t sl,h.get? e=some ⟨.ref C,some af,.fields #[.ref t,.none,.none,.none,.bool false,.none],sl⟩
noncomputable def pa(e C af:Addr):f_:=.ext λh=>∃vs sl,h.get? e=some ⟨.ref C,some af,.fields vs,sl⟩
noncomputable def lM(d:Addr)(fs:List (Str×V)):f_:=.ext λh=>fs.length<=100/\∃mA,h.Ns1 d mA/\(∀f,iP (fs.lookup f) (mA f))/\zJ mA (fs.map (·.1))
section
variable{P:cG}{w:bS}{H:ae}{h:Heap}{e C af d:Addr}
theorem VV{t:Addr}{sl:nj}(q:h.get? e=some ⟨.ref C,none,.fields #[.ref t,.none,.none,.none,.bool false,.none],sl⟩):eI P w H h e (mP e C):=
 ⟨⟨t,sl,q⟩,⟨_,q⟩,λ_ _⟨t,sl,z⟩k=>⟨t,sl,k _ z⟩⟩
theorem agM{t:Addr}{sl:nj}(q:h.get? e=some ⟨.ref C,some af,.fields #[.ref t,.none,.none,.none,.bool false,.none],sl⟩):eI P w H h e (mO e C af):=
 ⟨⟨t,sl,q⟩,⟨_,q⟩,λ_ _⟨t,sl,z⟩k=>⟨t,sl,k _ z⟩⟩
theorem agN{sl:nj}(q:h.get? e=some ⟨.ref C,some af,.fields vs,sl⟩):eI P w H h e (pa e C af):=
 ⟨⟨vs,sl,q⟩,⟨_,q⟩,λ_ _⟨t,sl,z⟩k=>⟨t,sl,k _ z⟩⟩
theorem VW{fs:List (Str×V)}{mA:cw}(z:fs.length<=100)(n:h.Ns1 d mA)(r:∀f,iP (fs.lookup f) (mA f))(wi:zJ mA (fs.map (·.1))):eI P w H h d (lM d fs):=by
 obtain⟨o,q⟩:∃o,h.get? d=some o:=by obtain⟨o,_,_,q,_⟩:=n.ns;exact⟨o,q⟩
 exact⟨⟨z,mA,n,r,wi⟩,⟨o,q⟩,λ_ _⟨z,mA,n,r,wi⟩k=>⟨z,mA,n.at k,r,wi⟩⟩
end
section
variable{X:bo}{pins:dP}{σ:ar.St}{H:ae}{s:aK}
theorem Inv.put2{h':Heap}{t':Nat}{d:Addr}{sj:Heap->Prop}(I:Inv X pins σ H s)(he:H e=some (.ext sj))(hd:s.heap.objs.size<=d)(k:∀b o,b≠e->s.heap.get? b=some o->h'.get? b=some o)(amq:∃o,h'.get? e=some o)(cE:eI X.prog X.w (upd (upd H d cV) e vM) h' e vM)(c':eI X.prog X.w (upd (upd H d cV) e vM) h' d cV):Inv X pins σ (upd (upd H d cV) e vM) {s with heap:=h',toks:=t'}:=by
 have aml:H d=none:=I.bf.fresh hd;have Oo:∀o,s.heap.get? d≠some o:=λo z=>q_ _ (iX (c5 z) hd);have ne1:∀b,H b=none->b≠e:=λb n z=>by rw[z,he]at n;cases n
 have old:∀{b:Addr}{u:f_},H b=some u->b≠e->upd (upd H d cV) e vM b=some u:=λ{b u}q n=>by rw[aD n,aD (cA q aml)];exact q
 have b1:∀{b:Addr}{u:f_},H b=some u->(∀m8,u≠.ext m8)->b≠e:=λ{b u}q n z=>by subst z;rw[he]at q;exact n sj (gV q).symm
 refine I.un ⟨λb o q n _ _=>k b o (ne1 b n) q,λb o q n _ _=>⟨o.slots,k b o (ne1 b n) q⟩,λb o q n _=>?_,λb o q _=>?_,λb xs q=>old q (b1 q (by intro m8 z;cases z)),λb o u q=>old q (b1 q (by intro m8 z;cases z)),λb ps q=>⟨#[],by rw[old q (b1 q (by intro m8 z;cases z))];simp⟩⟩ λb u q=>?_
 .rw[aD (ne1 b n),aD (show b≠d fromλz=>Oo o (by rw[<-z];exact q))];exact n
 .by_cases aa:b=e
  .subst aa;exact amq
  .exact⟨o,k b o aa q⟩
 .by_cases aa:b=e
  .subst aa;rw[aQ]at q;cases q;exact cE
  .rw[aD aa]at q;by_cases fS:b=d
   .subst fS;rw[aQ]at q;cases q;exact c'
   .rw[aD fS]at q;refine(I.bf b u q).nM (λc v aq r=>k c v ?_ r) (λc r=>old r (b1 r (by intro m8 z;cases z))) λc xs r=>old r (b1 r (by intro m8 z;cases z));rcases aq with rfl|aq
    .exact aa
    .exact b1 aq (by intro m8 z;cases z)
theorem agO{H:ae}(h:H a=some o):upd H a o=H:=by
 funext b;by_cases aa:b=a
 .subst aa;rw[aQ,h]
 .rw[aD aa]
structure qe(K:aY)(mg:cw)(y:Str)(C R:Addr):Prop where
 base:Exc K mg y R [.type "ValueError",.type "Exception",.type "BaseException",.type "object"] "ValueError.__new__"
 lk:∃l1 o8 vW GY rm Jh,K.lookup C=some ⟨.type "type",l1,.cls o8,vW⟩/\K.lookup R=some ⟨.type "type",GY,.cls rm,Jh⟩/\Fc o8 rm vW C "ValueError.__new__"=true/\o8.hasDict=true
 bY:cJ K (.ref C) "__setattr__"=some (some (.builtin "object.__setattr__"))
 ob:ho K (.ref C) (.type "object")=some true
 rd:Wa K R (.type "type")=true
 Nl:V5 K (.ref R) (.type "type") "__init__"=some (.val (.builtin "ValueError.__init__"))
 Q5:uw K (.ref R) "__getattribute__"=some (some (.builtin "type.__getattribute__"))
 iZ:oJ K C
 hd:wW K C=true
end
theorem qe.obj{K:aY}{mg:cw}{h:Heap}(x:qe K mg y C R)(X:K.In h):
  ∃nm q N bs dA sn sub ab col l1 k0 k1 k2 k3 k5,h.get? C=some (zZ nm q C N bs dA true sn sub ab col l1 k0 k1 k2 k3 k5 "ValueError.__new__")/\zF h [.type "ValueError",.type "Exception",.type "BaseException",.type "object"] dA:=by obtain⟨l1,o8,vW,GY,rm,Jh,Pk,Po,CW,hd⟩:=x.lk;obtain⟨nm,q,N,bs,dA,sn,sub,ab,col,k0,k1,k2,k3,k5,ey,T⟩:=adF X x.base Pk Po CW;rw[hd]at ey;exact⟨nm,q,N,bs,dA,sn,sub,ab,col,l1,k0,k1,k2,k3,k5,ey,T⟩
section
variable{X:bo}{o e value:Expr}{es:hF}{f y:Str}{pos pos' fq np:Pos}{bQ kP:TE}{t:fP}{R:Addr}
noncomputable def apP(K:aY)(mg:cw)(y:Str)(R:Addr)(t:fP):TE:=λσ H Q=>t σ H λvs H1=>∃e C rest,vs=.ref e::rest/\H1 e=some (mP e C)/\qe K mg y C R/\rest.length<=sizeLine/\Q .bc H1
theorem aeh{pl:Sem Bool}(bE:jd X y)(hm:X.mg y=some (.ref R))(rd:Wa X.K R (.type "type")=true)(Nl:V5 X.K (.ref R) (.type "type") "__init__"=some (.val (.builtin "ValueError.__init__")))(Q5:uw X.K (.ref R) "__getattribute__"=some (some (.builtin "type.__getattribute__")))(aF:gw X (e::es) t)(jx:(y==("__debug__":Str))=false:=by decide)(iM:dY (e::es) X.env=(false,eval e X.env)::dY es X.env:=by rfl)(fH:(hp pos (dY es X.env)).any (·.1)=false:=by rfl)(dM:eval (.Call (.Attribute (.Name y np) "__init__" fq) (e::es) [] pos) X.env=(do
   let fC <-eval (.Name y np) X.env
   tU fq.atName
   let(f,first) <-mU [fC] (z4 fC "__init__" pl)
   CU pos f first (hp pos (dY (e::es) X.env)) (lY pos (l6 [] X.env))):=by rfl):
  bq X (.Call (.Attribute (.Name y np) "__init__" fq) (e::es) [] pos) (apP X.K X.mg y R t):=by
 intro pins s σ H Q I h;refine Gj (pl:=pl) (vD I bE hm ?_ jx) dM;refine PySem.W.method_cls I.eX Q5 (PySem.W.cls_value I.eX rd Nl (by decide+kernel) ?_);refine adH (bD (aF pos pins _ σ H _ (I.tok _) h) λus s1 hz=>?_) iM fH;obtain⟨vs,H1,aR,b3,ex,C,rest,ev,hex,j2,hz,q⟩:=hz;subst ev;cases b3 with
 |cons hV nL=>
  cases hV;obtain⟨⟨t0,sl,he⟩,_,_⟩:=(show eI X.prog X.w H1 s1.heap ex (mP ex C)from aR.bf ex _ hex)
  obtain⟨nm,gs,N,bs,dA,sn,sub,ab,col,l1,k0,k1,k2,k3,k5,ey,T⟩:=j2.obj aR.eX;refine pQ (ace Cv T ey he (by rw[<-nL.length];exact hz) λh' t1 bP Ze=>?_);have bH:=aR.write (t':=s1.toks) (x:=ex) (e:=ex) (o:=mP ex C) (by rw[hex];exact trivial) (.inl rfl) (λb u aa q=>bP b u aa q) ⟨_,Ze⟩ (VV Ze);rw[agO hex]at bH;exact⟨.bc,H1,bH,rfl,q⟩
noncomputable def aiC(K:aY)(mg:cw)(y:Str)(R:Addr)(to kP:TE)(f:Str):e':=λD σ H=>kP σ H λv H1=>to σ H1 λx ah=>∃e C,x=.ref e/\qe K mg y C R/\cJ K (.ref C) f=some none/\
 ((ah e=some (mP e C)/\∀af,ah af=none->af≠e->D.b1 σ (upd (upd ah af (lM af [(f,v)])) e (mO e C af)))\/
 ∃af fs,ah e=some (mO e C af)/\ah af=some (lM af fs)/\fs.length<100/\D.b1 σ (upd ah af (lM af (kl f v fs))))
theorem afK(aF:bq X o bQ)(bj:bq X value kP)(hs:A_ value (some (.Attribute o f pos')) pos.line X.env=pure false):gI X (.Assign [.Attribute o f pos'] value pos) (aiC X.K X.mg y R bQ kP f):=by
 intro pins s σ H D I h;refine ao4 (bD (bj pins s σ H _ I h) λu s1⟨v,H1,aR,cf,q⟩=>bD (aF pins s1 σ H1 _ aR q) λfC s2 hz=>?_) hs;obtain⟨x,ah,bH,bt,e,C,ex,j2,aM,cv⟩:=hz;subst ex;obtain rfl:fC=cu e:=bt;obtain⟨nm,gs,N,bs,dA,sn,sub,ab,col,l1,k0,k1,k2,k3,k5,ey,T⟩:=j2.obj bH.eX;rcases cv with⟨he,cv⟩|⟨af,fs,he,Hr,hz,cv⟩
 .obtain⟨⟨t0,sl,qy⟩,_,_⟩:=(show eI X.prog X.w ah s2.heap e (mP e C)from bH.bf e _ he)
  refine afJ bH.eX adW T ey j2.bY aM j2.ob qy rfl λh' qW fB Hg bP=>?_;have x4:s2.heap.objs.size≠e:=zC (c5 qy);refine⟨σ,_,Inv.put2 bH he (bU _) bP ⟨_,fB⟩ (agM fB) (VW (fs:=[(f,v)]) (show 1<=100 by decide) Hg (λg=>?_) ?_),cv _ (bH.bf.fresh (bU _)) x4⟩
  .by_cases bE:g=f
   .subst bE;have aa:(g==g)=true:=o6.mpr rfl;simp only[uk,aa,bB];exact cf
   .have aa:(g==f)=false:=zR.mpr bE;simp only[uk,aa,bp bE];exact trivial
  .exact Wc f u aeg
 .obtain⟨⟨t0,sl,qy⟩,_,_⟩:=(show eI X.prog X.w ah s2.heap e (mO e C af)from bH.bf e _ he)
  obtain⟨⟨anp,mA,eW,OO,OZ⟩,⟨cV,auR⟩,_⟩:=(show eI X.prog X.w ah s2.heap af (lM af fs)from bH.bf af _ Hr)
  refine adG bH.eX adW T ey j2.bY aM j2.ob qy rfl eW OZ (by rw[bk];omega) λh' qW Hg b4=>?_;refine⟨σ,_,bH.write (x:=af) (e:=af) (o:=lM af (kl f v fs)) (by rw[Hr];exact trivial) (.inl rfl) (λb z aa q=>(b4.2 b aa).trans q) (by obtain⟨cB,_,_,q,_⟩:=Hg.ns;exact⟨cB,q⟩) (VW ?_ Hg (λg=>?_) ?_),cv⟩
  .have:=Qr f v fs;omega
  .rw[Qq];by_cases q:g=f
   .rw[bB q,bB q];exact cf
   .rw[bp q,bp q];exact OO g
  .intro g bE;by_cases q:g=f
   .rw[q];exact(DR f v fs).1
   .exact(DR f v fs).2 g (OZ g λz=>bE (by show(if g=f then some u else mA g)=none;rw[bp q];exact z))
noncomputable def aiD(K:aY)(to:TE)(f:Str):TE:=λσ H Q=>to σ H λx H1=>∃e C af fs v,x=.ref e/\H1 e=some (pa e C af)/\H1 af=some (lM af fs)/\oJ K C/\cJ K (.ref C) f=some none/\wW K C=true/\fs.lookup f=some v/\Q v H1
theorem afL(he:bq X e bQ)(aa:zQ e f X.env (eval e X.env)=eval e X.env):bq X (.Attribute e f pos) (aiD X.K bQ f):=by
 intro pins s σ H Q I h;refine Ub aa (bD (he pins s σ H _ I h) λu s1 hz=>?_);obtain⟨x,H1,aR,bt,a,C,af,fs,v,ex,a4,Hr,iZ,aM,hd,l,q⟩:=hz;subst ex;obtain rfl:u=cu a:=bt;obtain⟨⟨vs,sl,qy⟩,_,_⟩:=(show eI X.prog X.w H1 s1.heap a (pa a C af)from aR.bf a _ a4)
 obtain⟨⟨anp,mA,eW,OO,OZ⟩,_,_⟩:=(show eI X.prog X.w H1 s1.heap af (lM af fs)from aR.bf af _ Hr)
 obtain⟨t4,OX,cf⟩:=iP.some_of (v:=v) (o:=mA f) (by rw[<-l];exact OO f);exact agL aR.eX iZ aM hd qy eW OX (ļ cf) ⟨v,H1,aR.tok _,cf,q⟩
end
section
variable{X:bo}{k:Nat}{f C R:Addr}{fd:m_}{ps:cb}{sp:kU}{y:Str}
theorem ady{H:ae}{s:aK}{vs:aW}{Rr:Addr->Addr->ae->Prop}(j2:qe X.K X.mg y C R)(ak:cJ X.K (.ref C) "__init__"=some (some (.ref f)))(hf:sQ X.K (.ref f)=true)(F:aS X.prog X.w X.K X.mg X.base bh k f fd ps sp)(ao:gC (k+1) X.A)(aa:Binds X.K fd ps [])(I:Inv X pins σ H s)(r:cN vs us)(hz:vs.length<=sizeLine)(h:∀e,H e=none->sp (.ref e::vs) (upd H e (mP e C)) (λv ah=>v=.bc/\∃af,ah e=some (mO e C af)/\Rr e af ah) sz):
  aL (aX X.prog X.w) X.A (call (.ref C) us) (λu s'=>∃e af ah,u=.ref e/\s.heap.get? e=none/\Inv X pins σ ah s'/\ah e=some (mO e C af)/\Rr e af ah) X.dZ s:=by
 obtain⟨nm,gs,N,bs,dA,sn,sub,ab,col,l1,k0,k1,k2,k3,k5,ey,T⟩:=j2.obj I.eX;refine abL Cv T I.eX ey ak (o6.mp hf) (by rw[<-r.length];exact hz) λh' e hle mk=>?_;obtain⟨t,he,auS,dM⟩:=mk.there;have bH:Inv X pins σ (upd H e (mP e C)) {s with heap:=h'}:=I.laid (a:=e) (o:=mP e C) (t':=s.toks) mk.keeps hle (VV he);have a8:=h e (I.bf.fresh hle);have dh:cN (V.ref e::vs) (cu e::us):=.cons rfl r;have aw:(cu e::us++[]).length=ps.length:=by have az:=dh.length;rw[F.len _ _ _ _ a8]at az;rw[q9];exact az.symm
 have dC:=aa {s with heap:=h'} (cu e::us) bH.eX aw;rw[q9]at dC;refine pQ (qm (F.run _ X.stack _ _ ⟨cu e::us,[]⟩ (cu e::us) _ _ sz (ao.make C us []) (bH.G7.make C us []) dC dh a8) λnL s' qA=>?_);cases nL with
 |error x=>exact iU qA
 |ok ft=>
  cases ft with
  |ret u=>
   obtain⟨v,H',cZ,cf,ev,af,bK,c8⟩:=bH.after qA;subst ev;exact⟨cf,e,af,H',rfl,mk.new,cZ,bK,c8⟩
  |next=>exact iU qA
  |brk=>exact iU qA
  |cont=>exact iU qA
end
section
variable{prog:cG}{w:bS}{A:du}{E:cc}{s:aK}{env:Env}{K:aY}{mg:cw}{y:Str}{C R:Addr}
theorem afM{x:Sem Value}{Q:Flow->aK->Prop}(j2:qe K mg y C R)(dr:A.handled=none)(h:aL (aX prog w) A x (λv d2=>∃e af t sl,v=.ref e/\K.In d2.heap/\d2.heap.get? e=some ⟨.ref C,some af,.fields #[.ref t,.none,.none,.none,.bool false,.none],sl⟩/\E (.ref e) d2) E s):
  aL (aX prog w) A (Í env (some x) none) Q E s:=by
 unfold Í;refine au (gi h (λv d2 O3=>?_) λ_ _ x=>x);obtain⟨e,af,t,sl,rfl,X,he,i2⟩:=O3;obtain⟨nm,gs,N,bs,dA,sn,sub,ab,col,l1,k0,k1,k2,k3,k5,ey,T⟩:=j2.obj X;have N9:(cu C::dA).contains (.type "BaseException")=true:=by rw[abQ,T.hasType (b:=true) (by decide),ŝ]
 obtain⟨aN,g,d,a5,os⟩:=d2
 repeat (first|with_reducible refine j1 he ?_|with_reducible refine j1 ey ?_|(with_reducible refine Se ey ?_;rw[N9])|wp_step)
 exact wpAny_raiseNew_none dr i2
noncomputable def Va(h:Heap)(a4:Addr)(cV:Option Addr):Prop:=∀af,cV=some af->∃o,h.get? a4=some o/\o.dict=some af
end
noncomputable def m'(P:cG)(w:bS):pW:=λfr H s E e s'=>∃(a4:Addr)(cls a0:Value)(H':ae)(B:Heap)(cV:Option Addr),e=.ref a4/\om P w fr H s a4 cls a0 H' B s'/\Va s'.heap a4 cV/\E cls cV H'
noncomputable def del(H:ae)(a:Addr):ae:=λb=>if b=a then none else H b
theorem Sk:del H a a=none:=by unfold del;rw[bB rfl]
theorem tH{H:ae}(h:b≠a):del H a b=H b:=by unfold del;rw[bp h]
section
variable{P:cG}{w:bS}{K:aY}{mg:cw}{base:Heap}{N:cb}{qual:Str}{scope:Scope}{f:Addr}{cdv:Value}{A:du}{outer:List Env}{s:aK}{H:ae}{E:bX}
noncomputable abbrev jN(P:cG)(w:bS)(K:aY)(mg:cw)(base:Heap)(N:cb)(qual:Str)(scope:Scope)(f:Addr)(cdv:Value)(A:du)(outer:List Env)(s:aK)(H:ae)(E:bX):bo:=
 jB (m' P w) P w K mg base N qual scope f cdv A outer s H E
theorem ap0(I:Inv (jN P w K mg base N qual scope f cdv A outer s H E) pins σ H1 s1):Inv (fZ P w K mg base N qual scope f cdv A outer s H E) pins σ H1 s1:=I.nR _
theorem ř{H1:ae}(I:Inv (jN P w K mg base N qual scope f cdv A outer s H E) pins σ H1 s1)(av:H1 a4=some (mO a4 C af))(hold:s.heap.get? a4=none)(i2:E (.ref C) (some af) (del H1 a4)):(jN P w K mg base N qual scope f cdv A outer s H E).dZ (.ref a4) s1:=by
 obtain⟨⟨t,sl,qy⟩,_,_⟩:=(show eI P w H1 s1.heap a4 (mO a4 C af)from I.bf a4 _ av)
 obtain⟨S,c4⟩:∃S,S=fu (jN P w K mg base N qual scope f cdv A outer s H E).stack:=⟨_,rfl⟩
 have og:∀env∈(jN P w K mg base N qual scope f cdv A outer s H E).stack,∀b,env.frame=some b->b∈a4::S:=λenv he b aa=>by rw[c4];exact ng _ (Ls.mpr ⟨env,he,aa⟩)
 have Dw:∀b o,H1 b=some o->b∉S:=λb o e z=>by rw[c4]at z;rw[I.Jv b z]at e;cases e
 have ll:∀b o,s1.heap.get? b=some o->b≠a4->b∉S->(wX s1.heap (a4::S)).get? b=some o:=λb o e n m=>V7 _ e λz=>by
  rcases dv.mp z with z|z
  .exact n z
  .exact m z
 have IH:∀b o,s.heap.get? b=some o->b≠a4:=λb o e z=>by rw[z,hold]at e;cases e
 have r4:∀b o,s.heap.get? b=some o->b∉fu outer->b∉S:=λb o e aa=>by rw[c4];exact A1 (ap0 I) e aa
 have AL:∀{b:Addr}{u:f_},H1 b=some u->(∀m8,u≠.ext m8)->b≠a4:=λ{b u}q n z=>by subst z;rw[av]at q;exact n _ (gV q).symm
 have Zi:(wX s1.heap (a4::S)).get? a4=none:=ad6 _ (.head _);refine gi (D_ Ø (wpAny_leaving_firstW (base:=wX s1.heap (a4::S)) (a0:=.ref t) (Q:=λ_ s'=>∃h',s'={s1 with heap:=h'}/\Heap.LeftW (wX s1.heap (a4::S)) _ a4 (.ref C) (.ref t) s1.heap h') (E:=λ_ _=>False)
  I.ok.frames (ad5 I.stack og) rfl qy (λb o q=>V' _ q) Zi rfl rfl rfl λh' gp=>⟨h',rfl,gp⟩)) (λ_ s'⟨⟨h',es,gp⟩,dO⟩=>?_) λ_ _ z=>z.1.elim
 subst es;obtain⟨k1,⟨_,_,k2⟩,k3,oM⟩:=gp;have e4:ue (wX s1.heap (a4::S)) outer a4 (.ref C) (.ref t) h':=⟨k1,Zi,k2,k3⟩
 refine⟨a4,.ref C,.ref t,del H1 a4,_,some af,rfl,⟨e4,I.os,I.bare,λb ob e=>?_,⟨λb o e n aa fB=>?_,λb o e n aa fB=>?_,λb o e n fB=>?_,λb o e fB=>?_,λb xs q=>?_,λb o u q=>?_,λb ps q=>?_⟩,λb o e aa=>?_⟩,?_,i2⟩
 .have aa:b≠a4:=λz=>by rw[z,Sk]at e;cases e
  rw[tH aa]at e;refine(I.bf b ob e).nM (λc u aq q=>?_) (λc r=>by rw[tH (AL r (by intro m8 z;cases z))];exact r) λc xs r=>by rw[tH (AL r (by intro m8 z;cases z))];exact r
  rcases aq with rfl|aq
  .exact ll c u q aa (Dw c _ e)
  .exact ll c u q (AL aq (by intro m8 z;cases z)) (Dw c _ aq)
 .exact e4.1 b o (ll b o (I.base.keep b o e n aa fB) (IH b o e) (r4 b o e aa))
 .obtain⟨kp,z⟩:=I.base.slot b o e n aa fB;obtain⟨_,ob,bJ,gr⟩:=I.kD.mem aa;rw[z]at bJ;cases bJ;obtain⟨Er,dk⟩:=oM b _ z gr;exact⟨Er,dk⟩
 .rw[tH (IH b o e)];exact I.base.free b o e n fB
 .obtain⟨cB,z⟩:=I.base.there b o e fB;by_cases aa:b∈fu outer
  .obtain⟨_,ob,bJ,gr⟩:=I.kD.mem aa;obtain⟨kp,dk⟩:=oM b _ bJ gr;exact⟨_,dk⟩
  .exact⟨cB,e4.1 b cB (ll b cB z (IH b o e) (r4 b o e aa))⟩
 .have r:=I.base.ij b xs q;rw[tH (AL r (by intro m8 z;cases z))];exact r
 .have r:=I.base.jr b o u q;rw[tH (AL r (by intro m8 z;cases z))];exact r
 .obtain⟨m,r⟩:=I.base.j0 b ps q;exact⟨m,by rw[tH (AL r (by intro m8 z;cases z))];exact r⟩
 .obtain⟨cB,z⟩:=I.base.there b o e (by simp[jN,jB]);refine⟨cB,ll b cB z (IH b o e) (r4 b o e aa),λn=>?_⟩;have bu:=I.base.keep b o e n aa (by simp[jN,jB]);rw[z]at bu;exact gV bu
 .intro iI dp;cases dp;obtain⟨ob,oi,_⟩:=e4.there;exact⟨ob,oi,dO.dict qy oi⟩
noncomputable def afN(C:Addr)(sp:kU)(E:bX)(bQ:fP):e':=λ_ σ H=>bQ σ H λvs H1=>vs.length<=sizeLine/\∀e,H1 e=none->sp (.ref e::vs) (upd H1 e (mP e C)) (λv ah=>v=.bc/\∃af,ah e=some (mO e C af)/\E (.ref C) (some af) (del ah e)) sz
theorem RL{k:Nat}{fz:Pos}{cD:Expr}{es:hF}{bQ:fP}(j2:qe K mg y C R)(hm:mg x=some (.ref C))(amG:mw K (.ref C)=true)(ak:cJ K (.ref C) "__init__"=some (some (.ref n8)))(hf:sQ K (.ref n8)=true)(F:aS P w K mg base bh k n8 fd ps sp)(ao:gC (k+1) (jN P w K mg base N qual scope f cdv A outer s H E).A)(aa:Binds K fd ps [])(bE:jd (jN P w K mg base N qual scope f cdv A outer s H E) x)(aF:gw (jN P w K mg base N qual scope f cdv A outer s H E) (cD::es) bQ)(jx:(x==("__debug__":Str))=false:=by decide)(he:dY (cD::es) (jN P w K mg base N qual scope f cdv A outer s H E).env=(false,eval cD (jN P w K mg base N qual scope f cdv A outer s H E).env)::dY es (jN P w K mg base N qual scope f cdv A outer s H E).env:=by rfl)(fH:(hp fz (dY es (jN P w K mg base N qual scope f cdv A outer s H E).env)).any (·.1)=false:=by rfl):
  gI (jN P w K mg base N qual scope f cdv A outer s H E) (.Raise (some (.Call (.Name x np) (cD::es) [] fz)) none pos) (afN C sp E bQ):=by
 intro pins s1 σ H1 D I h;rw[arm_exec_Raise];refine au (ER ?_);show aL _ _ (Í _ (some (do
  let v <-eval (.Call (.Name x np) (cD::es) [] fz) (jN P w K mg base N qual scope f cdv A outer s H E).env
  tU pos
  pure v)) none) _ _ _
 refine afM j2 (I.ok.hd rfl) (au (yR (vD I bE hm ?_ jx)));refine Gh (h₀:=base) I.ok.mod.vB amG (bD (aF fz pins s1 σ H1 _ I h) λus s2⟨vs,ah,bH,r,hz,q⟩=>⟨bH.eX,?_⟩) he fH;refine bD (ady (X:=jN P w K mg base N qual scope f cdv A outer s H E) (Rr:=λe af ah=>E (.ref C) (some af) (del ah e)) j2 ak hf F ao aa bH r hz q) λu s3 hz=>?_;obtain⟨e,af,aZ,jo,amQ,cZ,bK,i2⟩:=hz;subst jo;obtain⟨⟨t,sl,qy⟩,_,_⟩:=(show eI P w aZ s3.heap e (mO e C af)from cZ.bf e _ bK)
 refine au (ER (aT ⟨e,af,t,sl,rfl,cZ.eX,qy,ř cZ bK ?_ i2⟩));cases rN:s.heap.get? e with
 |none=>rfl
 |some o=>
  obtain⟨cB,z⟩:=bH.base.there e o rN (by simp[jN,jB]);rw[amQ]at z;cases z
theorem Ql{st:Stmt}{ps:cb}{k:Nat}{sp:kU}(F:cC K x qual st f fd)(S:c3 N ps (cn st))(xF:∀(cdv:Value)(A:du)(outer:List Env)(s:aK)(H:ae)(vs:aW)(Q:a')(E:bX),gC k (A.deeper (o_ qual (cn st) s.heap.objs.size f cdv))->sp vs H Q E->
   ∃t,g6 (jN P w K mg base N qual (cn st) f cdv A outer s H E) (k_ st) t/\t {b1:=λ_ H'=>Q .bc H',rW:=Q} (start N vs) H)(len:∀vs H Q E,sp vs H Q E->vs.length=ps.length:=by intro _ _ _ _ h;first|(cases h;subst_vars;rfl)|((repeat obtain⟨_,h⟩:=h);subst_vars;rfl)):aS P w K mg base (m' P w) (k+1) f fd ps sp:=by obtain⟨km,cV,c9,doc,pm,an,cdv,eL,l_,rfl,lk,lg⟩:=F.ex;exact LC lk lg S len λA outer s H vs Q E ao pg=>xF cdv A outer s H vs Q E ao pg
end
noncomputable def Ms(X:bo)(pins:dP)(σ:ar.St)(E:bX)(e:Value)(s':aK):Prop:=
 ∃(b':ae)(sc:aK)(a4:Addr)(cls a0:Value)(H':ae)(B:Heap)(cV:Option Addr),e=.ref a4/\Inv X pins σ b' sc/\om X.prog X.w X.stack b' sc a4 cls a0 H' B s'/\Va s'.heap a4 cV/\E cls cV H'
noncomputable def VO(X:bo)(e:Expr)(t:Gp):Prop:=
 ∀(pins:dP)(s:aK)(σ:ar.St)(H:ae)(Q:a')(E:bX),Inv X pins σ H s->t E σ H Q->aL (aX X.prog X.w) X.A (eval e X.env) (iC X pins σ Q) (Ms X pins σ E) s
noncomputable def VP(X:bo)(st:Stmt)(t:Gr):Prop:=
 ∀(pins:dP)(s:aK)(σ:ar.St)(H:ae)(D:Ends)(E:ar.St->bX),Inv X pins σ H s->t D E σ H->aL (aX X.prog X.w) X.A (exec st X.env) (wY X pins D) (λe s'=>∃a9,Ms X pins a9 (E a9) e s') s
section
variable{X:bo}{e o:Expr}{es:hF}{pos fq p:Pos}{k:Nat}{f C:Addr}{fd:m_}{ps:cb}{sp:kU}{bQ:TE}{t:fP}{m x:Str}
theorem afO(F:aS X.prog X.w X.K X.mg X.base (m' X.prog X.w) k f fd ps sp)(ao:gC k X.A)(aa:Binds X.K fd ps [])(I:Inv X pins σ H s)(r:cN vs us)(h:sp vs H Q E):aL (aX X.prog X.w) X.A (call (.ref f) us) (iC X pins σ Q) (Ms X pins σ E) s:=by
 have aw:(us++[]).length=ps.length:=by rw[q9,<-r.length];exact F.len _ _ _ _ h
 have dC:=aa s us I.eX aw;rw[q9]at dC;refine pQ (qm (F.run X.A X.stack s H ⟨us,[]⟩ us vs Q E ao I.G7 dC r h) λr s' a8=>?_);cases r with
 |error e=>
  obtain⟨a4,cls,a0,H',B,cV,rfl,T,lk,i2⟩:=a8;exact⟨H,s,a4,cls,a0,H',B,cV,rfl,I,T,lk,i2⟩
 |ok ft=>
  cases ft with
  |ret u=>exact I.after a8
  |next=>exact iU a8
  |brk=>exact iU a8
  |cont=>exact iU a8
theorem adz{b6:Gp}(he:VO X e b6)(hs:A_ e none pos.line X.env=pure false:=by rfl):VP X (.Expr e pos) (ahd b6):=by intro pins s σ H D E I h;exact aqs (gi (he pins s σ H _ _ I h) (λv s1⟨x,H1,aR,b3,bz⟩=>⟨σ,H1,aR,bz⟩) λe s' q=>⟨σ,q⟩) I.quiet hs
end
section
variable{M:mu}{A:du}{E:cc}{s:aK}{B:Heap}{e L:Addr}{cls a0:Value}{Q:Unit->aK->Prop}{env:Env}{outer l:List Env}
theorem afP(Dp:A.frames=some (env::outer))(hf:env.frame=some L)(Ol:ue B (env::outer) e cls a0 s.heap)(d8:∀h',T6 B (env::outer) e cls a0 L h'->s.heap.UpToSlots h'->h9 s.heap h'->Q () {s with heap:=h'}):aL M A (Qc (.ref e) env) Q E s:=
 gi (D_ ĥ (wpAny_looks_onW (Q:=λ_ s'=>∃h',s'={s with heap:=h'}/\T6 B (env::outer) e cls a0 L h'/\s.heap.UpToSlots h') (E:=λ_ _=>False) Dp hf Ol λh' a b=>⟨h',rfl,a,b⟩)) (λ_ s'⟨⟨h',es,a,b⟩,dO⟩=>by subst es;exact d8 h' a b dO) λ_ _ z=>z.1.elim
theorem afQ(dr:T6 B l e cls a0 L s.heap)(d8:∀h',ue B l e cls a0 h'->s.heap.UpToSlots h'->h9 s.heap h'->Q () {s with heap:=h'}):aL M A (Q3 (.ref e) none) Q E s:=
 gi (D_ PB (wpAny_landsW (Q:=λ_ s'=>∃h',s'={s with heap:=h'}/\ue B l e cls a0 h'/\s.heap.UpToSlots h') (E:=λ_ _=>False) dr λh' a b=>⟨h',rfl,a,b⟩)) (λ_ s'⟨⟨h',es,a,b⟩,dO⟩=>by subst es;exact d8 h' a b dO) λ_ _ z=>z.1.elim
theorem afR(dr:ue B l e cls a0 s.heap)(d8:∀h',ue B l e cls a0 h'->s.heap.UpToSlots h'->h9 s.heap h'->Q () {s with heap:=h'}):aL M A (Q3 (.ref e) none) Q E s:=
 gi (D_ PB (lands_againW (Q:=λ_ s'=>∃h',s'={s with heap:=h'}/\ue B l e cls a0 h'/\s.heap.UpToSlots h') (E:=λ_ _=>False) dr λh' a b=>⟨h',rfl,a,b⟩)) (λ_ s'⟨⟨h',es,a,b⟩,dO⟩=>by subst es;exact d8 h' a b dO) λ_ _ z=>z.1.elim
end
noncomputable def aiE(K:aY)(c_:Gr)(i:Nat)(R:Addr)(ts:e'):e':=λD σ H=>c_ D (λa9 cls cV H'=>∃C af,cls=.ref C/\cV=some af/\tG K C R=true/\∀a4,H' a4=none->
 ts {b1:=λgH ah=>D.b1 (gH.set i none) ah,rW:=D.rW,hq:=λgH ah=>D.hq (gH.set i none) ah,eL:=λgH ah=>D.eL (gH.set i none) ah} (a9.set i (some (.ref a4))) (upd H' a4 (pa a4 C af))) σ H
theorem afS{X:bo}{st j9:Stmt}{Eu:List Stmt}{c_:Gr}{i:Nat}(HJ:X.stack=X.env::X.outer)(amv:X.env.frame=some X.env.locals)(aa:VP X st c_)(eW:X.N.Nodup)(ak:X.N[i]?=some n)(aw:X.env.scope.names.lookup n=some .local)(bE:jd X x)(hm:X.mg x=some (.ref R))(cK:tG X.K R R=true)(am8:∀a4,g6 (A2 X a4) (j9::Eu) ts)(jx:(x==("__debug__":Str))=false:=by decide):gI X (.Try [st] [.ExceptHandler (some (.Name x np)) (some n) (j9::Eu) am2] [] [] pos) (aiE X.K c_ i R ts):=by
 intro pins s σ H D I h;refine wpAny_Try_except (ď (gi (aa pins s σ H D _ I h) (λf s1 q=>?_) λe s1 q=>?_))
 .cases f with
  |next=>exact EN (EN q)
  |ret v=>exact q
  |brk=>exact q
  |cont=>exact q
 .obtain⟨t9,b',sc,a4,cls,a0,H',B,cV,rfl,Ue,T,lk,C,af,rfl,rfl,ph,k⟩:=q;obtain⟨o0,amR,amj⟩:=lk af rfl;have Dp:X.A.frames=some (X.env::X.outer):=by rw[<-HJ];exact I.ok.frames
  have Yy:=T.ft;rw[HJ]at Yy;refine afP Dp amv Yy λc8 amr yI apA=>afQ amr λdX NA aqe apB=>?_;have Yz:=NA;rw[<-HJ]at Yz;have CO:=T.move Yz (yI.trans aqe);have ks:Inv X pins t9 H' {s1 with heap:=dX}:=Ue.MV (s':={s1 with heap:=dX}) (ch:=[]) CO.os CO.un CO.bf CO.bare (λb z=>bx z (by simp));obtain⟨ob,oi,amT⟩:=NA.there;refine wpAny_handleBy_cons (codeAny_handlers_test (vD (X:=A2 X a4) (cH.Inv.Eu ks a4) bE hm (afr ks.eX ph cK oi amT ?_) jx)) (by intro q;cases q);refine codeAny_handlers_suite_as (afR NA λjv YA aqf apC=>?_);have YB:=YA;rw[<-HJ]at YB;have rj:=CO.move YB aqf;obtain⟨Qh,v6,ZE,Y',Zj,_⟩:=YA.first;have Zd:Qh.dict=some af:=(((apA.trans apB).trans apC).dict amR ZE).trans amj;have OB:jv.get? a4=some ⟨.ref C,some af,.fields v6,Qh.slots⟩:=by rw[ZE];obtain⟨c,d,nu,sl⟩:=Qh;dsimp only at Y' Zj Zd;rw[Y',Zj,Zd]
  have old:∀b o,sc.heap.get? b=some o->b≠a4:=λb o e=>T.aoy e;have iy:=T.new;have sC:Inv X pins t9 (upd H' a4 (pa a4 C af)) {s1 with heap:=jv}:=by
   refine Ue.MV (s':={s1 with heap:=jv}) (ch:=[]) rj.os ⟨rj.un.keep,rj.un.slot,λb o e i' av=>by rw[aD (old b o e)];exact rj.un.free b o e i' av,rj.un.there,λb xs e=>?_,λb o u e=>?_,λb ps e=>?_⟩ ?_ rj.bare (λb z=>bx z (by simp))
   .have:=rj.un.ij b xs e;rw[aD (cA this iy)];exact this
   .have:=rj.un.jr b o u e;rw[aD (cA this iy)];exact this
   .obtain⟨m,this⟩:=rj.un.j0 b ps e;exact⟨m,by rw[aD (cA this iy)];exact this⟩
   .intro b u e;by_cases dC:b=a4
    .subst dC;rw[aQ]at e;cases e;exact agN OB
    .rw[aD dC]at e;exact(rj.bf b u e).nM (λc v _ q=>q) (λc q=>by rw[aD (cA q iy)];exact q) λc xs q=>by rw[aD (cA q iy)];exact q
  refine R_ (X:=A2 X a4) (cH.Inv.Eu sC a4) eW ak (.inl aw) (v:=.ref a4) rfl (λoE ku=>?_) (.inr aw);have aN:(X.env.scope.kind==.class||(X.env.scope.kind==.module&&X.env.locals !=X.env.globals))=false:=by rw[I.ok.kind];rfl
  have gone:∀{oP:ar.St}{gO:ae}{jZ:aK}{mx:aK->Prop},Inv (A2 X a4) pins oP gO jZ->(∀rZ,Inv X pins (oP.set i none) gO rZ->mx rZ)->
    aL (aX X.prog X.w) X.A (do bindName X.env n .none;unbindBehindTheSuite X.env n am2) (λ_ rZ=>mx rZ) X.dZ jZ:=λ{oP gO jZ mx}mq a8=>by
   have Ua:Inv X pins oP gO jZ:=Inv.aqc I.ok.hd mq;obtain⟨m,aM,_⟩:=id Ua.loc;refine wpAny_nameGoes_keeps aw aM aN λod v OG apy=>a8 _ (Inv.forget Ua eW ak apy λdc Hz=>?_);have em:dc=m:=by obtain⟨o,es,ep,az,aB,_,cX⟩:=aM;obtain⟨cB,kB,rp,uO,X6,_,akW⟩:=Hz;rw[az]at uO;cases uO;rw[aB]at X6;cases X6;funext y;rw[<-cX y,<-akW y]
   subst em;exact⟨v,OG⟩
  refine gi (am8 a4 pins oE _ _ _ ku (k a4 iy)) (λalx jZ tM=>?_) λ_ _ z=>iU z;cases alx with
  |next=>obtain⟨oP,gO,mq,q⟩:=tM;exact gone mq λrZ sD=>⟨_,gO,sD,q⟩
  |brk=>obtain⟨oP,gO,mq,q⟩:=tM;exact gone mq λrZ sD=>⟨_,gO,sD,q⟩
  |cont=>obtain⟨oP,gO,mq,q⟩:=tM;exact gone mq λrZ sD=>⟨_,gO,sD,q⟩
  |ret u=>obtain⟨RX,oP,gO,mq,QE,q⟩:=tM;exact gone mq λrZ sD=>⟨RX,_,gO,sD,QE,q⟩
section
variable{X:bo}
theorem Ħ:jV X (.builtin "isinstance") (λxs H Q=>∃(a4 C af:Addr)(b:Bool),H a4=some (pa a4 C af)/\oJ X.K C/\((∃R,xs=[.ref a4,.ref R]/\jI X.K (.ref C) (.ref R)=some b)\/∃T,xs=[.ref a4,.ty T]/\jI X.K (.ref C) (.type T)=some b)/\Q (.aA b) H):=by
 intro pins s σ H xs us Q I r h;obtain⟨a4,C,af,b,Hs,c,mV,q⟩:=h;obtain⟨⟨vs,sl,bE⟩,_,_⟩:=(show eI X.prog X.w H s.heap a4 (pa a4 C af)from I.bf a4 _ Hs)
 have ty:sf s.heap a4 C:=⟨_,bE,rfl⟩
 rcases mV with⟨R,rfl,Pc⟩|⟨T,rfl,Pc⟩
 .obtain⟨u,eJ,rfl,ez,hy⟩:=vals2 r;cases ez;cases hy;exact o2 (S7 c) I.eX ty Pc (λz=>nomatch z) λa5=>⟨.aA b,H,I.tok a5,rfl,q⟩
 .obtain⟨u,eJ,rfl,ez,hy⟩:=vals2 r;cases ez;cases hy;exact o2 (S7 c) I.eX ty Pc (λz=>nomatch z) λa5=>⟨.aA b,H,I.tok a5,rfl,q⟩
theorem Sl{K:aY}{xs:aW}{g:fg}{c_:e'}{D:Ends}{H:ae}(Pv:Nat->ar.St->ae->Prop)(h0:Pv 0 σ H)(aw:∀i σ H,Pv i σ H->aC K H a xs)(hs:∀i x σ H p,xs[i]?=some x->Pv i σ H->H p=none->g (.ref p) σ (upd H p (.tup [.int i,x])) λgH ah=>c_ {D with b1:=Pv (i+1),eL:=Pv (i+1),hq:=D.b1} gH ah)(hd:∀σ H,Pv xs.length σ H->D.b1 σ H):
  ∃W:Nat->Nat->ar.St->ae->Prop,(∃m,W 0 m σ H)/\∀i m σ H,W i m σ H->
   ((uh K a).stop i H/\D.b1 σ H)\/((uh K a).go i H/\∃N:ar.St->ae->Prop,(∀a9 H',N a9 H'->∃dc,dc<m/\W (i+1) dc a9 H')/\∀x H',(uh K a).oO i H x H'->g x σ H' λgH ah=>c_ {D with b1:=N,eL:=N,hq:=D.b1} gH ah):=by
 refine⟨λi m σ H=>m=xs.length-i/\i<=xs.length/\Pv i σ H,⟨xs.length,by simp,eZ _,h0⟩,?_⟩;rintro i m σ H ⟨rfl,ak,p⟩;have q:=aw i σ H p;by_cases cz:i<xs.length
 .refine .inr ⟨⟨xs,xs[i],q,by simp[cz]⟩,Pv (i+1),λa9 H' hx=>⟨xs.length-(i+1),by omega,rfl,cz,hx⟩,λv H' y=>?_⟩;obtain⟨r,x,ao,rfl,av,rfl⟩:=y;exact hs i x σ H r (av xs q) p ao
 .have e:i=xs.length:=by omega
  subst e;exact .inl ⟨⟨xs,q,bU _⟩,hd σ H p⟩
end
end cH
namespace df
open PySem ar cH di
inductive ħ(vs:aW)(H:ae)(Q:a')(el:bX):Prop where
 |mk (c:Int) (m:Nat) (bM:vs=[.int c,.int m]) (bu:m<=12) (bW:∀(p:Addr)(H':ae),H p=none->aH H H'->H' p=some (.lst (de (tx c m)))->Q (.ref p) H')
theorem Ś{c:Int}{m:Nat}(h:m<=12):Good (tx c m):=⟨λx av=>by
 obtain⟨k,_,rfl⟩:=b7.mp av;exact agZ c k,aao h,by rw[Qt];exact h⟩
noncomputable def zk(c:Int)(k j:Nat):Int:=c/64+5*(0+(j:Int))*(0+(j:Int))+2*(0+(k:Int))*(if decide (V.int (0+(j:Int))=V.int (c/8%(1+c%8)))=true then 1 else 0)
theorem aiF(c:Int)(k j:Nat):97+(zk c k j%26).toNat=jw c k j:=by
 unfold zk jw;rw[afG c];by_cases h:j=fH c
 .subst h;rw[bB rfl,bB (cT (by rw[nc])),nc,nc]
 .rw[bp h,bp (by rw[dn (λz=>h (by have:=V.int.inj z;omega))];exact fU),nc,nc]
theorem Ω{α:Type}(f:Nat->α)(n:Nat):(dK (n+1)).map f=(dK n).map f++[f n]:=by rw[B7,fm];rfl
section
variable{P:cG}{w:bS}{K:aY}{mg:cw}{base:Heap}
noncomputable abbrev I6:Stmt:=top 56
theorem aj1:c3 zo zo (cn I6):={}
theorem aiG(F:cC K "_law_cell_at" "_law_cell_at" I6 f fd)(len:mg "len"=none):aS P w K mg base bh 1 f fd zo (Xr K):=by
 refine F.ok aj1 (λ_ A _ s H vs Q E ao h=>?_)
 .obtain⟨a,ns,k,rfl,c4,h0,q⟩:=h;refine⟨_,a_ (dQ (ej nH (U 1) (dj fQ (by rfl) len PySem.boot_len (aj (U 0) aE)) (dB _)) (bb (cp (bG e3 (U 0) (U 1) (λ_ _=>rfl)))) dW) (bb (cp aV)),?_⟩;refine⟨_,rfl,_,rfl,a,_,rfl,.inl c4,_,_,rfl,rfl,_,rfl,?_⟩;refine sd (λh=>?_) (λh=>?_)
  .have ag:=kL h;exact⟨_,rfl,_,rfl,a,_,k,_,rfl,rfl,c4,afi h0 ag,q⟩
  .have ag:¬k<((ns.map V.int).length:Int):=λz=>h (cT z);rw[bk]at ag;have e:ns.getD k.toNat 0=0:=by rw[eF,wB (by omega)];rfl
   rw[e]at q;exact q
noncomputable abbrev JA:Stmt:=top 57
noncomputable abbrev adA:List Str:=["_law_cell","_law_many","_law_letters","_law_size","_law_at","_law_names","_law_k","_law_name","_law_j","_law_place"]
theorem rB:c3 adA Cd (cn JA):={}
theorem aaq(F:cC K "_law_houses" "_law_houses" JA f fd)(B:fk mg):aS P w K mg base bh 1 f fd Cd ħ:=by
 refine F.ok rB (λ_ A _ s H vs Q E ao h=>?_)
 .obtain⟨c,m,rfl,hm,q⟩:=h;refine⟨_,(a_ (dI (i:=2) rB.aI rfl (cR rfl) g8)
   (a_ (dI (i:=3) rB.aI rfl (cR rfl) (cq i1 aV (cq g_ (U 0) aV)))
   (a_ (dI (i:=4) rB.aI rfl (cR rfl) (cq g_ (cq jO (U 0) aV) (U 3)))
   (a_ (dI (i:=5) rB.aI rfl (cR rfl) (h7 aE))
   (a_ (jR j6 rfl (tq rfl B.range (aj (U 1) aE)) (eu (i:=6) rB.aI rfl (cR rfl))
    (a_ (dI (i:=7) rB.aI rfl (cR rfl) g8)
   (a_ (jR j6 rfl (tq rfl B.range (aj (U 3) aE)) (eu (i:=8) rB.aI rfl (cR rfl))
    (a_ (dI (i:=9) rB.aI rfl (cR rfl) (cq i1 (cq i1 (cq jO (U 0) aV) (cq vO (cq vO aV (U 8)) (U 8))) (cq vO (cq vO aV (U 6)) (n9 Ļ (by rfl) B.int E9 (aj (ke jW (U 8) (U 4) (dB _)) aE)))))
   (bb (dI (i:=7) rB.aI rfl (cR rfl) (cq aaw (U 7) (bG ag4 (U 2) (cq g_ (U 9) aV) (λ_ _=>rfl)))))))
   (bb (gK (tQ uv wU wV tr (U 5) (aj (U 7) aE)))))))
   (bb (cp (U 5)))))))),?_⟩
  have bM:=VU c;have bu:=afF c;refine⟨_,rfl,_,_,rfl,rfl,(by show(0:Int)<8;decide),_,_,rfl,rfl,?_⟩;refine⟨_,rfl,_,_,rfl,rfl,⟨by decide,by decide⟩,_,rfl,_,_,rfl,rfl,(by show(0:Int)<1+c%8;omega),?_⟩;refine⟨eZ _,λp np=>⟨_,rfl,_,rfl,(by omega),(by omega),?_⟩⟩;refine IZ (lo:=0) (n:=m) (λk σ ah=>ah=upd H p (.lst (de (tx c k)))/\∃a1 a2 ik kX,σ=[some (.int c),some (.int m),some (.str (e8 "abcdefghijklmnopqrstuvwxyz")),some (.int (1+c%8)),some (.int (c/8%(1+c%8))),some (.ref p),a1,a2,ik,kX]) ⟨rfl,none,none,none,none,rfl⟩ ?_ ?_
  .rintro k σ ah aP ⟨rfl,a1,a2,ik,kX,rfl⟩;refine⟨_,rfl,_,rfl,(by omega),(by omega),?_⟩;refine IZ (lo:=0) (n:=hsz c) (λj σ aZ=>aZ=upd H p (.lst (de (tx c k)))/\∃e5 eT,σ=[some (.int c),some (.int m),some (.str (e8 "abcdefghijklmnopqrstuvwxyz")),some (.int (1+c%8)),some (.int (c/8%(1+c%8))),some (.ref p),some (.int (0+(k:Int))),some (.str (S ((dK j).map (jw c k)))),e5,eT]) ⟨rfl,ik,kX,rfl⟩ ?_ ?_
   .rintro j σ aZ bg ⟨rfl,e5,eT,rfl⟩;refine⟨_,rfl,_,_,rfl,rfl,⟨by decide,by decide⟩,_,rfl,_,_,rfl,rfl,.inl ⟨by decide,by decide⟩,_,rfl,_,_,rfl,rfl,.inr ⟨by show -(2 ^ 64)<0+(j:Int);omega,by show 0+(j:Int)<2 ^ 64;omega⟩,_,_,rfl,rfl,_,rfl,_,_,rfl,rfl,.inl ⟨by decide,by decide⟩,_,rfl,_,rfl,rfl,.inr ⟨_,rfl,_,_,rfl,rfl,.inl ⟨by show -(2 ^ 64)<2*(0+(k:Int));omega,by show 2*(0+(k:Int))<2 ^ 64;omega⟩,_,_,rfl,rfl,?_⟩⟩;have k1:0<=zk c k j%26:=lQ _ (by decide);have k2:zk c k j%26<26:=p1 _ (by decide);have dF:(⟨#[97+(zk c k j%26).toNat]⟩:Str).length=1:=rfl;refine⟨_,rfl,_,rfl,_,rfl,_,_,rfl,rfl,(by show(0:Int)<26;decide),_,_,_,rfl,rfl,(by decide+kernel),adj k1 k2,_,_,rfl,rfl,?_,rfl,some (.int (0+(j:Int))),some (.int (zk c k j)),?_⟩
    .rw[BP,bk,iD];show j+1<=sizeLine;exact q' (fF (by omega))
    .rw[Ω,<-aiA,<-aiF];rfl
   .rintro σ aZ ⟨rfl,e5,eT,rfl⟩;refine⟨_,rfl,.inl ⟨rfl,_,aC.of aQ⟩,_,rfl,p,_,_,rfl,rfl,aQ,fF (by rw[JV,Qt];omega),?_,_,_,_,_,rfl⟩;rw[Et];unfold tx;rw[Ω];unfold de;rw[fm];rfl
  .rintro σ ah ⟨rfl,a1,a2,ik,kX,rfl⟩;exact⟨_,rfl,q p _ np (b8 np) aQ⟩
noncomputable abbrev yl:Stmt:=top 9
noncomputable abbrev AS:Stmt:=top 10
noncomputable abbrev ym:Stmt:=top 11
noncomputable abbrev ya:Stmt:=top 12
noncomputable abbrev FL:Stmt:=top 42
noncomputable abbrev FN:Stmt:=top 43
noncomputable abbrev FO:Stmt:=top 44
noncomputable abbrev FP:Stmt:=top 45
theorem UU:c3 hY hY (cn yl):={}
theorem adB(F:cC K "is_whole" "is_whole" yl f fd)(B:fk mg)(KT:U3 K):aS P w K mg base bh 1 f fd hY Ki:=by
 refine F.ok UU (λ_ A _ s H vs Q E ao h=>?_)
 .obtain⟨i,rfl,q⟩:=h;refine⟨_,(bb (cp (hM (dj oc (by rfl) B.isinstance jJ (aj (U 0) (aj (nC (by rfl) B.int E9) aE))) (l5 (Vv (dj oc (by rfl) B.isinstance jJ (aj (U 0) (aj (nC (by rfl) B.bool UP) aE)))))))),?_⟩;refine⟨_,rfl,_,_,_,_,_,rfl,⟨rfl,.int _,Bh _ _⟩,_,rfl,gD ?_⟩;exact⟨_,rfl,_,_,_,_,_,rfl,⟨rfl,.int _,KT.O6⟩,_,rfl,q⟩
theorem Ta:c3 sM sM (cn AS):={}
theorem acf(F:cC K "is_whole_within" "is_whole_within" AS f fd)(h3:cY K mg "is_whole" yl hY Nk Nr)(rr:aS P w K mg base bh 1 Nk Nr hY Ki):aS P w K mg base bh 2 f fd sM S8:=by
 refine F.ok Ta (λ_ A _ s H vs Q E ao h=>?_)
 .obtain⟨i,a,b,rfl,ag,ai,q⟩:=h;refine⟨_,(bb (cp (hM (ec rr ao.mono (by rfl) h3.at_ h3.fn.cI h3.bd .nil cm (aj (U 0) aE)) (l5 (Sa kG kG (U 1) (U 0) (U 2)))))),?_⟩;refine⟨_,rfl,_,rfl,_,rfl,gD ?_⟩;exact⟨_,rfl,_,rfl,_,_,rfl,rfl,_,rfl,eQ (cT ag) ⟨_,rfl,_,_,rfl,rfl,rR (cT ai) q⟩⟩
theorem UW:c3 p4 p4 (cn ym):={}
theorem PP(F:cC K "is_tuple_of" "is_tuple_of" ym f fd)(B:fk mg):aS P w K mg base bh 1 f fd p4 Kj:=by
 refine F.ok UW (λ_ A _ s H vs Q E ao h=>?_)
 .obtain⟨r,xs,n,rfl,ag,ai,q⟩:=h;refine⟨_,(bb (cp (hM (dj oc (by rfl) B.isinstance jJ (aj (U 0) (aj (nC (by rfl) B.tuple AI) aE))) (l5 (ke jW (dj fQ (by rfl) B.len fG (aj (U 0) aE)) (U 1) (dB _)))))),?_⟩;refine⟨_,rfl,_,_,_,_,_,rfl,⟨rfl,.tup ag,Bh _ _⟩,_,rfl,gD ?_⟩;exact⟨_,rfl,r,_,rfl,.inr (bI.of ag),_,rfl,rfl,rR (cT (ht V.int ai)) q⟩
theorem Tw:c3 p5 p5 (cn ya):={}
theorem acg(F:cC K "are_unlike_houses" "are_unlike_houses" ya f fd):aS P w K mg base bh 1 f fd p5 (S9 K):=by
 refine F.ok Tw (λ_ A _ s H vs Q E ao h=>?_)
 .obtain⟨a,ys,x,y,rfl,c4,av,cM,ne,q⟩:=h;refine⟨_,(bb (cp (hM (ke Ņ (U 1) (U 0) (by rfl)) (hM (ke Ņ (U 2) (U 0) (by rfl)) (l5 (ke BD (U 1) (U 2) (dB _))))))),?_⟩;refine⟨_,rfl,_,rfl,a,_,rfl,.inl c4,rfl,RI ys,_,rfl,eQ (Kk av) ?_⟩;refine⟨_,rfl,_,rfl,a,_,rfl,.inl c4,rfl,RI ys,_,rfl,eQ (Kk cM) ?_⟩;refine⟨_,rfl,_,rfl,rfl,rR ?_ q⟩;rw[dn (λz=>ne (V.str.inj z))];rfl
theorem agP:c3 hY hY (cn FL):={}
theorem afT(F:cC K "is_name" "is_name" FL f fd)(B:fk mg)(nW:Cp mg):aS P w K mg base bh 1 f fd hY VC:=by
 refine F.ok agP (λ_ A _ s H vs Q E ao h=>?_)
 .obtain⟨l,rfl,eW,q⟩:=h;refine⟨_,(a_ (dQ (h1.pt (lq (g9 (ip (dj oc (by rfl) B.isinstance jJ (aj (U 0) (aj (nC (by rfl) B.str agS) aE))))) (pw (g9 (vz kG kG aV (dj ō (by rfl) B.len fG (aj (U 0) aE)) (vA (by rfl) nW.acD)))))) (bb (cp iq)) dW)
   (bb (cp (dj (D9 rfl) (by rfl) B.CS EF (aj (rQ (N':=["sign"]) (cs:=[none]) rfl (ag9 (U 0)) rfl (by decide+kernel) rfl (by decide+kernel) (ju (λp aN=>bx aN (eo))) rfl
    (.own .nil)
    (λC s3 aZ bR eC=>⟨(eu (i:=0) (by show(["sign"]:cb).Nodup;decide+kernel) rfl (.inl rfl)),mX,(Sa Ň Ň g8 (U 0) g8)⟩)) aE))))),?_⟩
  have aw:=BP l;have hz:(S l).length<=sizeLine:=q' (fF (by rw[aw];have:=eW.2.1;omega));have ag:(1:Int)<=((S l).length:Int):=by have:=eW.1;omega
  have mS:((S l).length:Int)<=8:=by have:=eW.2.1;omega
  refine⟨_,rfl,_,_,_,_,_,rfl,⟨rfl,.str _,Bh _ _⟩,_,rfl,fI ?_⟩;refine⟨_,rfl,_,rfl,hz,_,_,rfl,rfl,_,rfl,eQ (cT ag) ⟨_,_,rfl,rfl,_,rfl,yN mS ?_⟩⟩;dsimp only[wa,zc,Fy,qV,pB];refine vG (J:=Fx (S l)) (H1:=H) (xs:=signs (S l)) (rest:=[]) (λR h=>⟨_,rfl,_,rfl,h⟩) rfl (ag8 _) (fF ?_) (λ_=>.aA true) (λi x ah R ex ax cK=>?_) (λD H' ag ai bK=>?_)
  .rw[UQ,bk];have:=eW.2.1;omega
  .rw[UQ]at ex;obtain⟨k,aP,rfl⟩:=b7.mp (dV ex);have Zq:=eW.2.2 k aP;have az:(!decide ((S [k]).cps.toList<(e8 "a").cps.toList))=true:=by rw[apv];exact(VK k 97).trans (cT Zq.1)
   have aB:(!decide ((e8 "z").cps.toList<(S [k]).cps.toList))=true:=by rw[apw];exact(VK 122 k).trans (cT Zq.2)
   exact⟨_,rfl,_,_,rfl,rfl,_,rfl,eQ az ⟨_,_,rfl,rfl,rR aB (cK ah (aH.refl _))⟩⟩
  .exact⟨D,B8 (signs (S l)).length true,rfl,aC.of (by rw[ai,Sq]),rR (Sv _) (q H' bK)⟩
theorem agQ:c3 ["things"] ["things"] (cn FN):={}
theorem afU(F:cC K "are_houses" "are_houses" FN f fd)(B:fk mg)(nW:Cp mg)(vm:cY K mg "is_name" FL hY Nj Nq)(RM:aS P w K mg base bh 1 Nj Nq hY VC):
  aS P w K mg base bh 2 f fd ["things"] VD:=by
 refine F.ok agQ (λ_ A _ s H vs Q E ao h=>?_)
 .obtain⟨a,hs,rfl,aF,tb,q⟩:=h;refine⟨_,(a_ (dQ (h1.pt (lq (g9 (ip (dj oc (by rfl) B.isinstance jJ (aj (U 0) (aj (nC (by rfl) B.list qC) aE))))) (pw (ej qM (dj fQ (by rfl) B.len fG (aj (U 0) aE)) (vA (by rfl) nW.acz) (dB _))))) (bb (cp iq)) dW)
   (bb (cp (hM (dj (D9 rfl) (by rfl) B.CS EF (aj (rQ (N':=hY) (cs:=[none]) rfl (kb (U 0)) rfl (by decide+kernel) rfl (by decide+kernel) (ju (λp aN=>bx aN (eo))) rfl
    (.own .nil)
    (λC s3 aZ bR eC=>⟨(eu (i:=0) (by show(hY:cb).Nodup;decide+kernel) rfl (.inl rfl)),mX,(ec RM ao.mono (by rfl) vm.at_ vm.fn.cI vm.bd .nil cm (aj (U 0) aE))⟩)) aE)) (l5 (ke jW (dj aqP (by rfl) B.len fG (aj (n9 (ado rfl) (by rfl) B.Ý VH (aj (U 0) aE)) aE)) (dj fQ (by rfl) B.len fG (aj (U 0) aE)) (dB _))))))),?_⟩
  have aw:=JV hs;have hf:=tb.c6;refine⟨_,rfl,_,_,_,_,_,rfl,⟨rfl,.lst aF,Bh _ _⟩,_,rfl,fI ?_⟩;refine⟨_,rfl,a,_,rfl,.inl (aC.of aF),_,_,rfl,rfl,_,rfl,dw (dn (by omega)) ?_⟩;dsimp only[wa,zc,Fy,qV,pB];refine vG (J:=iW K a) (H1:=H) (xs:=de hs) (rest:=[]) (λR h=>⟨_,rfl,a,rfl,⟨_,aC.of aF⟩,h⟩) rfl (nA (aC.of aF)) (fF (by omega)) (λ_=>.aA true) (λi x ah R ex ax cK=>?_) (λD H' ag ai bK=>?_)
  .obtain⟨l,Oy,rfl⟩:=b7.mp (dV ex);exact⟨_,rfl,l,rfl,tb.nm l Oy,λH' pI=>cK H' pI⟩
  .refine⟨D,B8 (de hs).length true,rfl,aC.of (by rw[ai,Sq]),_,rfl,eQ (Sv _) ?_⟩;have u3:=bK _ _ aF;refine⟨_,rfl,a,hs.map S,rfl,aC.of (by rw[u3,Kg]),(by rw[bk];omega),λp aN=>?_⟩;have s2:aH H' (upd H' p (Gv P w p (ut (λi=>(hs.map S).getD i o4) (hs.map S).length))):=b8 aN;refine⟨p,_,rfl,aQ,_,rfl,a,_,rfl,.inl (aC.of (s2 _ _ u3)),rfl,rR (cT ?_) (q _ (bK.trans s2))⟩;rw[Ti _ _ (afb tb.aI),bk,aw]
theorem ahy:c3 oW oW (cn FO):={}
theorem afV(F:cC K "is_road" "is_road" FO f fd)(nW:Cp mg)(j':cY K mg "is_tuple_of" ym p4 f1 dJ)(uR:aS P w K mg base bh 1 f1 dJ p4 Kj)(j8:cY K mg "are_unlike_houses" ya p5 f2 eV)(xb:aS P w K mg base bh 1 f2 eV p5 (S9 K))(kY:cY K mg "is_whole_within" AS sM cU h8)(zV:aS P w K mg base bh 2 cU h8 sM S8):
  aS P w K mg base bh 3 f fd oW (VE K):=by
 refine F.ok ahy (λ_ A _ s H vs Q E ao h=>?_)
 .obtain⟨a,r,hs,d,rfl,c4,aI,ok,gX,q⟩:=h;refine⟨_,(bb (cp (hM (ec uR ao.mono (by rfl) j'.at_ j'.fn.cI j'.bd .nil cm (aj (U 1) (aj aV aE))) (hM (ec xb ao.mono (by rfl) j8.at_ j8.fn.cI j8.bd .nil cm (aj (U 0) (aj (bG c1 (U 1) aV (λ_ _=>rfl)) (aj (bG c1 (U 1) aV (λ_ _=>rfl)) aE)))) (hM (ec zV ao.mono (by rfl) kY.at_ kY.fn.cI kY.bd .nil cm (aj (bG c1 (U 1) aV (λ_ _=>rfl)) (aj aV (aj (vA (by rfl) nW.acF) aE)))) (l5 (ec zV ao.mono (by rfl) kY.at_ kY.fn.cI kY.bd .nil cm (aj (bG c1 (U 1) aV (λ_ _=>rfl)) (aj aV (aj (vA (by rfl) nW.acC) aE)))))))))),?_⟩;have tc:aC K H a ((hs.map S).map V.str):=by rw[<-Kg];exact c4
  refine⟨_,rfl,r,_,_,rfl,gX,rfl,_,rfl,gD ?_⟩;refine⟨_,rfl,_,rfl,r,_,_,_,rfl,rfl,bI.of gX,rfl,_,rfl,r,_,_,_,rfl,rfl,bI.of gX,rfl,a,hs.map S,_,_,rfl,tc,Bi ok.a,Bi ok.b,aiB aI ok.a ok.b ok.ne,_,rfl,gD ?_⟩;refine⟨_,rfl,r,_,_,_,rfl,rfl,bI.of gX,rfl,_,_,_,rfl,ok.t.1,ok.t.2,_,rfl,gD ?_⟩;exact⟨_,rfl,r,_,_,_,rfl,rfl,bI.of gX,rfl,_,_,_,rfl,ok.m.1,ok.m.2,q⟩
theorem ahz:c3 zr zr (cn FP):={}
theorem afW(F:cC K "are_roads" "are_roads" FP f fd)(B:fk mg)(nW:Cp mg)(vn:cY K mg "is_road" FO oW Nj Nq)(RN:aS P w K mg base bh 3 Nj Nq oW (VE K)):
  aS P w K mg base bh 4 f fd zr (VF K):=by
 refine F.ok ahz (λ_ A _ s H vs Q E ao h=>?_)
 .obtain⟨a,b,hs,rs,ds,rfl,aF,aI,aa,cK,c6,q⟩:=h;refine⟨_,(a_ (dQ (h1.pt (lq (g9 (ip (dj oc (by rfl) B.isinstance jJ (aj (U 1) (aj (nC (by rfl) B.list qC) aE))))) (pw (ej qM (dj fQ (by rfl) B.len fG (aj (U 1) aE)) (vA (by rfl) nW.acB) (dB _))))) (bb (cp iq)) dW)
   (bb (cp (dj (D9 rfl) (by rfl) B.CS EF (aj (rQ (N':=["thing","houses"]) (cs:=[none,some 0]) rfl (kb (U 1)) rfl (by decide+kernel) rfl (by decide+kernel) (ju (kv.mpr ⟨rfl,(λp aN=>bx aN (eo))⟩)) rfl
    (.own (.jk rfl (.inl rfl) (.inl rfl) rfl .nil))
    (λC s3 aZ bR eC=>⟨(eu (i:=0) (by show(["thing","houses"]:cb).Nodup;decide+kernel) rfl (.inl rfl)),mX,(ec RN ao.mono (by rfl) vn.at_ vn.fn.cI vn.bd .nil cm (aj (U 1) (aj (U 0) aE)))⟩)) aE))))),?_⟩
  have aw:=d6 rs;refine⟨_,rfl,_,_,_,_,_,rfl,⟨rfl,.lst aa,Bh _ _⟩,_,rfl,fI ?_⟩;refine⟨_,rfl,b,_,rfl,.inl (aC.of aa),_,_,rfl,rfl,_,rfl,dw (dn (by omega)) ?_⟩;dsimp only[wa,zc,Fy,qV,pB];refine vG (J:=iW K b) (H1:=H) (xs:=aG rs) (rest:=[some (.ref a)]) (λR h=>⟨_,rfl,b,rfl,⟨_,aC.of aa⟩,h⟩) rfl (nA (aC.of aa)) (fF (by omega)) (λ_=>.aA true) (λi x ah R ex ax l4=>?_) (λD H' ag ai bK=>?_)
  .unfold aG at ex;rw[cx]at ex;obtain⟨r,fh,rfl⟩:=e0.mp ex;obtain⟨d,_,ok,hd⟩:=cK.get fh;exact⟨_,rfl,_,rfl,a,r,hs,d,rfl,ax.seq aF,aI,ok,ax _ _ hd,l4 ah (aH.refl _)⟩
  .exact⟨D,B8 (aG rs).length true,rfl,aC.of (by rw[ai,Sq]),rR (Sv _) (q H' bK)⟩
noncomputable abbrev FQ:Stmt:=fT (top 48) 0
noncomputable abbrev AJ:Stmt:=fT (top 48) 1
noncomputable abbrev Ex:Stmt:=fT (top 48) 2
theorem ahA:c3 zm zm (cn FQ):={}
theorem afX(F:cC K "__init__" "Net.__init__" FQ f fd)(B:fk mg)(fW:ua K C)(u1:cY K mg "are_houses" FN ["things"] alf alk)(Qj:aS P w K mg base bh 2 alf alk ["things"] VD)(ve:cY K mg "are_roads" FP zr alg alm)(Qu:aS P w K mg base bh 4 alg alm zr (VF K)):
  aS P w K mg base bh 5 f fd zm (VG K C):=by
 refine F.ok ahA (λ_ A _ s H vs Q E ao h=>?_)
 .obtain⟨x,af,a,b,hs,rs,ds,rfl,av,aF,tb,aa,cK,c6,q⟩:=h;refine⟨_,(a_ (dQ (g9 (ip (ec Qj ao.mono (by rfl) u1.at_ u1.fn.cI u1.bd .nil cm (aj (U 1) aE)))) (bb I_) dW)
   (a_ (dQ (g9 (ip (ec Qu ao.mono (by rfl) ve.at_ ve.fn.cI ve.bd .nil cm (aj (U 1) (aj (U 2) aE))))) (bb I_) dW)
   (a_ (jt (U 0) (n9 u0 (by rfl) B.list qC (aj (U 1) aE)) rfl)
   (bb (jt (U 0) (n9 u0 (by rfl) B.list qC (aj (U 2) aE)) rfl))))),?_⟩
  refine⟨_,rfl,a,hs,rfl,aF,tb,λH1 s1=>⟨_,rfl,fI ?_⟩⟩;refine⟨_,rfl,_,rfl,a,b,hs,rs,ds,rfl,aC.of (s1 _ _ aF),tb.aI,s1 _ _ aa,cK.same s1,c6,λah s2=>⟨_,rfl,fI ?_⟩⟩;have ih:=s1.trans s2;refine⟨_,rfl,a,_,rfl,.inl (aC.of (ih _ _ aF)),λbL u3=>?_⟩;have s3:aH ah (upd ah bL (.lst (de hs))):=b8 u3;have oC:=ih.trans s3;have b1:x≠bL:=cA (ih _ _ av) u3;refine⟨_,rfl,x,C,af,_,rfl,oC _ _ av,fW.cl,fW.vJ,(by decide),?_⟩;have amf:b≠x:=λe=>by rw[e,av]at aa;cases aa
  have N2:upd (upd ah bL (.lst (de hs))) x (.ins C af (kl "kept_houses" (.ref bL) [])) b=some (.lst (aG rs)):=by rw[aD amf];exact oC _ _ aa
  refine⟨_,rfl,b,_,rfl,.inl (aC.of N2),λbr dC=>?_⟩;have Qg:br≠x:=λe=>by rw[e,aQ]at dC;cases dC
  have nb:br≠bL:=λe=>by rw[e,aD b1.symm,aQ]at dC;cases dC
  refine⟨_,rfl,x,C,af,_,rfl,(by rw[aD Qg.symm,aQ]),fW.cl,fW.jD,(by show 1<1000;decide),?_⟩;refine q _ bL br (λc o aq lb=>?_) (by rw[aQ];rfl) ?_ ?_ ?_ ?_
  .rw[aD aq];have:c≠br:=λe=>by rw[<-e,aD aq,oC _ _ lb]at dC;cases dC
   rw[aD this,aD aq];exact oC _ _ lb
  .rw[aD b1.symm,aD nb.symm,aD b1.symm,aQ]
  .rw[aD Qg,aQ]
  .exact ih.free u3
  .rw[aD Qg,aD nb]at dC;exact ih.free dC
theorem ach:c3 eA eA (cn AJ):={}
theorem adC:c3 eA eA (cn Ex):={}
theorem aak(F:cC K "houses" "Net.houses" AJ f fd)(B:fk mg)(fW:ua K C):aS P w K mg base bh 1 f fd eA (I0 C):=by
 refine F.ok ach (λ_ A _ s H vs Q E ao h=>?_)
 .obtain⟨x,bL,br,xs,ys,rfl,n,q⟩:=h;obtain⟨af,av⟩:=n.ins;refine⟨_,(bb (cp (n9 u0 (by rfl) B.list qC (aj (ed (U 0) (by rfl)) aE)))),?_⟩;exact⟨_,rfl,x,C,af,_,_,rfl,av,fW.cl,fW.vJ,rfl,bL,_,rfl,.inl (aC.of n.ry),q⟩
theorem aci(F:cC K "roads" "Net.roads" Ex f fd)(B:fk mg)(fW:ua K C):aS P w K mg base bh 1 f fd eA (Sx C):=by
 refine F.ok adC (λ_ A _ s H vs Q E ao h=>?_)
 .obtain⟨x,bL,br,xs,ys,rfl,n,q⟩:=h;obtain⟨af,av⟩:=n.ins;refine⟨_,(bb (cp (n9 u0 (by rfl) B.list qC (aj (ed (U 0) (by rfl)) aE)))),?_⟩;exact⟨_,rfl,x,C,af,_,_,rfl,av,fW.cl,fW.jD,rfl,br,_,rfl,.inl (aC.of n.rV),q⟩
end
theorem LV{X:bo}:qG (m' P w) X sz:=λ_ _ _ _ _ _ _ h=>by obtain⟨_,_,_,_,_,_,_,_,_,h⟩:=h;exact h.elim
theorem afY{wi:TI}{b6:TE}{rest:ar.St}{H1:ae}{Q:a'}{J:fe}{xs:aW}(hw:∀R:fe->ae->Prop,R J H1->wi σ H R)(gd:hc cs σ=none::rest)(b2:mF J H1 xs)(aw:xs.length<sizeLine)(f:ar.V->List ar.V)(elt:∀(i:Nat)(x:ar.V)(ah:ae)(R:a'),xs[i]?=some x->aH H1 ah->(∀r ba,aH ah ba->ba r=some (.tup (f x))->R (.ref r) ba)->b6 (some x::rest) ah R)(fin:∀(D:Addr)(H':ae)(rs:cj),H1 D=none->H' D=some (.lst (aG rs))->fa H' rs (xs.map f)->aH H1 H'->Q (.ref D) H'):mf wi cs (ha 0) q0 b6 σ H Q:=by
 refine hw _ λD bl=>?_;refine⟨λi m ys a9 H'=>m=xs.length-i/\i<=xs.length/\(∃rs,ys=aG rs/\fa H' rs ((xs.take i).map f))/\(∃o,a9=o::rest)/\aH H1 H'/\H' D=some (.lst ys),⟨xs.length,by simp,eZ _,⟨[],rfl,.nil⟩,⟨none,gd⟩,λb o e=>?_,aQ⟩,?_⟩
 .rw[aD (cA e bl)];exact e
 .rintro i m ys a9 H' ⟨rfl,ak,⟨rs,rfl,bV⟩,⟨o,rfl⟩,ax,eM⟩;obtain⟨gF,g4,gv⟩:=b2 H' ax;have ln:=bV.len;rw[bk,lS,Vs ak]at ln;refine⟨eM,oZ (by rw[d6];omega) aw,?_⟩;by_cases cz:i<xs.length
  .refine .inr ⟨g4 i cz,λx ah y=>?_⟩;obtain⟨rfl,ex⟩:=gv i x ah cz y;have a5:xs.take (i+1)=xs.take i++[x]:=by rw[oT,ex];rfl
   show b6 (some x::rest) ah _;refine elt i x ah _ ex ax λr ba s5 ao=>⟨s5 _ _ eM,xs.length-(i+1),by omega,rfl,cz,⟨rs++[r],Ax rs r,?_⟩,⟨_,rfl⟩,λb ob e=>?_,aQ⟩
   .rw[a5,fm];exact fa.upd (Paired.snoc (F:=λr d=>ba r=some (.tup d)) ao (bV.same s5)) (s5 _ _ eM) (by intro d z;cases z)
   .rw[aD (cA e bl)];exact s5 _ _ (ax _ _ e)
  .have e:i=xs.length:=by omega
   subst e;rw[oU]at bV;exact .inl ⟨gF,fin D H' rs bl eM bV ax⟩
theorem UX(x y:Str):hn (.str x) (.str y)=decide (x=y):=by
 by_cases h:x=y
 .subst h;rw[cT rfl];simp[hn]
 .rw[dn h];simp[hn,h]
theorem Ku{hs:bF}{k:Nat}(h:k<hs.length):inD (.str (S (hs.getD k []))) (bl hs)=true:=by
 unfold inD bl;rw[q8];have hm:hs.getD k []∈hs:=by rw[eF,cF h];exact sG h
 exact⟨_,b7.mpr ⟨_,b7.mpr ⟨_,hm,rfl⟩,rfl⟩,by rw[UX];exact cT rfl⟩
theorem LR{ds:gx}{n:Nat}(h:∀d∈ds,d.depth<=n):(p9 ds).depth<=n+1:=LH (IU h)
theorem Kv{wi:TI}{b6:TE}{rest:ar.St}{H1:ae}{Q:a'}{J:fe}{xs:aW}(hw:∀R:fe->ae->Prop,R J H1->wi σ H R)(gd:hc cs σ=none::rest)(b2:mF J H1 xs)(aw:xs.length<sizeLine)(f:Nat->ar.V)(elt:∀(i:Nat)(x:ar.V)(ah:ae)(R:a'),xs[i]?=some x->aH H1 ah->(∀ba,aH ah ba->R (f i) ba)->b6 (some x::rest) ah R)(fin:∀(D:Addr)(H':ae),H1 D=none->H' D=some (.lst ((dK xs.length).map f))->aH H1 H'->Q (.ref D) H'):mf wi cs (ha 0) q0 b6 σ H Q:=by
 refine hw _ λD bl=>?_;refine⟨λi m ys a9 H'=>m=xs.length-i/\i<=xs.length/\ys=(dK i).map f/\(∃o,a9=o::rest)/\aH H1 H'/\H' D=some (.lst ys),⟨xs.length,by simp,eZ _,rfl,⟨none,by rw[gd]⟩,λb o e=>?_,aQ⟩,?_⟩
 .rw[aD (cA e bl)];exact e
 .rintro i m ys a9 H' ⟨rfl,ak,rfl,⟨o,rfl⟩,ax,eM⟩;obtain⟨gF,g4,gv⟩:=b2 H' ax;refine⟨eM,oZ (by rw[bk,iD];omega) aw,?_⟩;by_cases cz:i<xs.length
  .refine .inr ⟨g4 i cz,λx ah y=>?_⟩;obtain⟨rfl,ex⟩:=gv i x ah cz y;show b6 (some x::rest) ah _;refine elt i x ah _ ex ax λba s5=>⟨s5 _ _ eM,xs.length-(i+1),by omega,rfl,cz,?_,⟨_,rfl⟩,λb ob e=>?_,aQ⟩
   .rw[B7,fm];rfl
   .rw[aD (cA e bl)];exact s5 _ _ (ax _ _ e)
  .have e:i=xs.length:=by omega
   subst e;exact .inl ⟨gF,fin D H' bl eM ax⟩
end df
namespace cH
open PySem PySem.Spec PyProof.Rows ar
theorem Wn{K:aY}(h:bI K H1 a xs)(k:∀H',aH H1 H'->bI K H' a xs):mF (ui K a) H1 xs:=λH' ax=>
 ⟨⟨xs,k H' ax,bU _⟩,λi ak=>⟨xs,xs[i],k H' ax,by simp[ak]⟩,λi x ah _ y=>⟨y.1,y.2 xs (k H' ax)⟩⟩
section
variable{X:bo}{e:Expr}{b6:TE}{pos d_:Pos}{lo ak:Option Expr}{dA pJ:w0}
theorem H8(is:fp):∀j,IS (λi=>is.getD i 0) j=(is.take j).sum
 |0=>rfl
 |j+1=>by
  show IS _ j+is.getD j 0=_;rw[H8 is j,oT,ab9];congr 1;rw[eF];cases is[j]? with
  |none=>rfl
  |some x=>show x=x+0;omega
theorem ahB:iG "sum"=some (.builtin "sum"):=by decide+kernel
theorem aiH:iG "min"=some (.builtin "min"):=by decide+kernel
theorem aet(aq:X.calm=true):jV X (.builtin "sum") (λxs H Q=>∃(p:Addr)(is:fp),xs=[.ref p]/\aC X.K H p (is.map V.int)/\(∀x∈is,0<=x)/\is.sum<2 ^ 63/\Q (.int is.sum) H):=by
 intro pins s σ H xs us Q I r h;obtain⟨p,is,rfl,a8,h0,hm,q⟩:=h;obtain⟨u,rfl,ez⟩:=vals1 r;cases ez;obtain⟨its,cf,pl,hz⟩:=I.list a8;have hlen:is.length=its.length:=by have:=cf.length;rwa [bk]at this
 obtain⟨o,n,zY,_⟩:=id pl;have i3:p≠s.heap.objs.size:=dR (c5 zY);have dr:X.A.in1.handled=none:=I.ok.hd aq;have Ä:∀(l:fp),(∀x∈l,0<=x)->0<=l.sum:=λl=>by
  induction l with
  |nil=>intro _;exact oR _
  |cons a r a3=>
   intro h;rw[Ly];have:=h a (.head _);have:=a3 λx av=>h x (.tail _ av);omega
 have ó:∀j,0<=(is.take j).sum/\(is.take j).sum<=is.sum:=λj=>by
  have e:is.sum=(is.take j).sum+(is.drop j).sum:=by rw[<-ab9,Lz]
  have:=Ä (is.take j) λx av=>h0 x (Vi av);have:=Ä (is.drop j) λx av=>h0 x (ab7 av);omega
 refine call_sum_walk (Bu pl.isList ?_);refine⟨s.heap.objs.size,[s.heap.objs.size,p],[s.heap.objs.size],its.toArray.size,_,_,λi=>is.getD i 0,rfl,CQ dr _ p i3 its.toArray,⟨⟨_,fM _ rfl,rfl,rfl⟩,pl.isList.push _⟩,?_,?_,?_,λh' a5 t' k=>?_⟩
 .intro b aa;have dF:p<s.heap.objs.size:=c5 zY;have d9:(s.heap.push ({cls:=.type "list_iterator",data:=.fields #[cu p,jE 0]}:Obj)).objs.size=s.heap.objs.size+1:=by simp[Heap.push]
  simp only[dv,eo,or_false]at aa;have nE:b<s.heap.objs.size+1:=by
   rcases aa with h|h<;>rw[h]
   .exact ur _
   .exact sN dF
  refine Nat.lt_of_lt_of_eq nE ?_;simp[Heap.push]
 .intro i v f6;have Dh:its[i]?=some v:=by simpa using f6
  have ak:i<its.length:=(eb.mp Dh).1;have aa:(is.map V.int)[i]?=some (V.int (is.getD i 0)):=by rw[cx,cF (by omega:i<is.length)];simp[eF,hlen▸ak]
  obtain⟨u',bJ,b9⟩:=cf.get aa;rw[Dh]at bJ;cases bJ;exact b9
 .intro j bg;rw[fN,<-hlen]at bg;have t1:=ó j;have dU:=ó (j+1);have az:=H8 is j;have aB:=H8 is (j+1);have cX:IS (λi=>is.getD i 0) (j+1)=IS (λi=>is.getD i 0) j+is.getD j 0:=rfl;have ag:0<=is.getD j 0:=by rw[eF,cF bg];exact h0 _ (sG bg)
  refine⟨⟨?_,?_⟩,?_,?_⟩
  .show -(2 ^ 63)<=is.getD j 0;omega
  .show is.getD j 0<2 ^ 63;omega
  .rw[aB];omega
  .rw[aB];omega
 .have e:IS (λi=>is.getD i 0) its.toArray.size=is.sum:=by rw[H8,fN,<-hlen,oU]
  rw[e];exact⟨.int is.sum,H,I.kept λb ob z=>k b ob (by simpa using dR (c5 z)) (dm _ z),⟨_,rfl⟩,q⟩
end
end cH
namespace df
open PySem ar cH di
theorem Wo{wi:TI}{tt:TT}{b6:TE}{rest:ar.St}{H1:ae}{Q:a'}{J:fe}{xs:aW}(hw:∀R:fe->ae->Prop,R J H1->wi σ H R)(gd:hc cs σ=none::rest)(b2:mF J H1 xs)(aw:xs.length<sizeLine)(p:Nat->Bool)(f:Nat->ar.V)(test:∀(i:Nat)(x:ar.V)(ah:ae)(R:Bool->ae->Prop),xs[i]?=some x->aH H1 ah->(∀ba,aH ah ba->R (p i) ba)->tt (some x::rest) ah R)(elt:∀(i:Nat)(x:ar.V)(ah:ae)(R:a'),xs[i]?=some x->p i=true->aH H1 ah->(∀ba,aH ah ba->R (f i) ba)->b6 (some x::rest) ah R)(fin:∀(D:Addr)(H':ae),H1 D=none->H' D=some (.lst (((dK xs.length).filter p).map f))->aH H1 H'->Q (.ref D) H'):mf wi cs (ha 0) tt b6 σ H Q:=by
 refine hw _ λD bl=>?_;refine⟨λi m ys a9 H'=>m=xs.length-i/\i<=xs.length/\ys=((dK i).filter p).map f/\(∃o,a9=o::rest)/\aH H1 H'/\H' D=some (.lst ys),⟨xs.length,by simp,eZ _,rfl,⟨none,by rw[gd]⟩,λb o e=>?_,aQ⟩,?_⟩
 .rw[aD (cA e bl)];exact e
 .rintro i m ys a9 H' ⟨rfl,ak,rfl,⟨o,rfl⟩,ax,eM⟩;obtain⟨gF,g4,gv⟩:=b2 H' ax;refine⟨eM,oZ ?_ aw,?_⟩
  .rw[bk];refine eP (nf _ _) ?_;rw[iD];exact ak
  by_cases cz:i<xs.length
  .refine .inr ⟨g4 i cz,λx ah y=>?_⟩;obtain⟨rfl,ex⟩:=gv i x ah cz y;show tt (some x::rest) ah _;refine test i x ah _ ex ax λdE s4=>?_;cases aN:p i with
   |true=>
    refine gD ?_;refine elt i x dE _ ex aN (ax.trans s4) λba s5=>⟨s5 _ _ (s4 _ _ eM),xs.length-(i+1),by omega,rfl,cz,?_,⟨_,rfl⟩,λb ob e=>?_,aQ⟩
    .rw[B7,p2,fm];simp[aN]
    .rw[aD (cA e bl)];exact s5 _ _ (s4 _ _ (ax _ _ e))
   |false=>
    refine fI ⟨xs.length-(i+1),by omega,rfl,cz,?_,⟨_,rfl⟩,ax.trans s4,s4 _ _ eM⟩;rw[B7,p2,fm];simp[aN]
  .have e:i=xs.length:=by omega
   subst e;exact .inl ⟨gF,fin D H' bl eM ax⟩
theorem lx{α:Type}{l:List α}{i:Nat}{x d:α}(e:l[i]?=some x):l.getD i d=x:=by rw[eF,e];rfl
theorem ap7{α β:Type}(q:α->Bool)(g:α->β)(e6:α)(ls:List α):(((dK ls.length).filter λi=>q (ls.getD i e6)).map λi=>g (ls.getD i e6))=(ls.filter q).map g:=by
 have h:ls=(dK ls.length).map λi=>ls.getD i e6:=by
  apply F6
  .simp
  .intro i ag ai;simp[eF,ag]
 have e:(ls.filter q).map g=(((dK ls.length).map λi=>ls.getD i e6).filter q).map g:=by rw[<-h]
 rw[e,zg,gU];rfl
theorem range_getD{α β:Type}(g:α->β)(e6:α)(ls:List α):((dK ls.length).map λi=>g (ls.getD i e6))=ls.map g:=by
 apply F6
 .simp
 .intro i ag ai;simp only[bk,iD]at ag;simp[eF,ag]
structure Step where
 left:Int
 MS:Option Int
 gq:Str
 due:Int
abbrev eK:= List (List Step)
noncomputable def GV:Option Int->ar.V
 |none=>.bc
 |some i=>.int i
noncomputable def r3(s:Step):List ar.V:=[.int s.left,GV s.MS,.str s.gq,.int s.due]
noncomputable def EU(n g st:Addr):List (Str×ar.V):=[("net",.ref n),("goals",.ref g),("steps",.ref st)]
noncomputable def g7(H:ae)(l:Addr)(ss:List Step):Prop:=∃ts,H l=some (.lst (aG ts))/\fa H ts (ss.map r3)
structure WalkAt(C:Addr)(H:ae)(x n g st:Addr)(bT:cb)(ls:cj)(ay:eK):Prop where
 ins:∃af,H x=some (.ins C af (EU n g st))
 goals:H g=some (.lst (bT.map V.str))
 steps:H st=some (.lst (aG ls))
 each:bO (g7 H) ls ay
structure pC(K:aY)(C:Addr):Prop where
 cl:eh K C
 nn:cJ K (.ref C) "net"=some none
 hi:cJ K (.ref C) "goals"=some none
 ns:cJ K (.ref C) "steps"=some none
inductive Wq(C:Addr)(vs:aW)(H:ae)(Q:a')(el:bX):Prop where
 |mk (x n g st:Addr) (bT:cb) (ls:cj) (ay:eK) (k:Nat) (y:Str) (bM:vs=[.ref x,.int k]) (bu:WalkAt C H x n g st bT ls ay) (bW:bT[k]?=some y) (cW:Q (.str y) H)
inductive JW(C:Addr)(vs:aW)(H:ae)(Q:a')(el:bX):Prop where
 |mk (x n g st:Addr) (bT:cb) (ls:cj) (ay:eK) (k:Nat) (ss:List Step) (s:Step) (bM:vs=[.ref x,.int k]) (bu:WalkAt C H x n g st bT ls ay) (bW:ay[k]?=some (ss++[s])) (cW:Q (.str s.gq) H)
inductive JX(C:Addr)(vs:aW)(H:ae)(Q:a')(el:bX):Prop where
 |mk (x n g st:Addr) (bT:cb) (ls:cj) (ay:eK) (k:Nat) (ss:List Step) (s:Step) (bM:vs=[.ref x,.int k]) (bu:WalkAt C H x n g st bT ls ay) (bW:ay[k]?=some (ss++[s])) (cW:Q (.int s.due) H)
theorem RO{xs:aW}:ar.gn (xs++[v]) (-1)=some v:=by
 unfold ar.gn ar.rE;rw[hD,bp (by decide),bB (by show -((xs.length+1:Nat):Int)<=-1;omega)];show(xs++[v])[((-1:Int)+((xs.length+1:Nat):Int)).toNat]?=_;have e:((-1:Int)+((xs.length+1:Nat):Int)).toNat=xs.length:=by omega
 rw[e];simp
section
variable{P:cG}{w:bS}{K:aY}{mg:cw}{base:Heap}
noncomputable abbrev Bj:Stmt:=fT (top 27) 4
theorem afZ:c3 dg dg (cn Bj):={}
theorem UY{H:ae}{st:Addr}{ls:cj}{ay:eK}{k:Nat}{ss:List Step}{s:Step}(W:WalkAt C H x n g st bT ls ay)(e:ay[k]?=some (ss++[s])):
  ∃l ts t,ls[k]?=some l/\H l=some (.lst (aG (ts++[t])))/\H t=some (.tup (r3 s)):=by
 have ln:=gW W.each;obtain⟨aP,_⟩:=eb.mp e;obtain⟨l,gQ⟩:∃l,ls[k]?=some l:=⟨_,cF (by omega)⟩
 obtain⟨qU,es,ts,aw,bV⟩:=bO.get W.each gQ;rw[e]at es;cases es;have lt:=bV.len;rw[bk,hD]at lt;simp only[lR,B6]at lt;obtain⟨t,C3⟩:∃t,ts[ss.length]?=some t:=⟨_,cF (by omega)⟩
 obtain⟨d,dp,hd⟩:=bO.get bV C3;rw[fm,sE (by rw[bk];omega),bk,Gb]at dp;cases dp;refine⟨l,ts.take ss.length,t,gQ,?_,hd⟩;have aB:ts=ts.take ss.length++[t]:=by
  have this:=(Lz ss.length ts).symm;have hd2:ts.drop ss.length=[t]:=by rw[F5 (by omega:ss.length<ts.length)];rw[cF (by omega:ss.length<ts.length)]at C3;cases C3;rw[List.drop_eq_nil_of_le (by omega)]
  rw[hd2]at this;exact this
 rw[<-aB];exact aw
theorem aeu(F:cC K "last_house" "Walk.last_house" Bj f fd)(c0:pC K C):aS P w K mg base bh 1 f fd dg (JW C):=by
 refine F.ok afZ (λ_ A _ s H vs Q E ao h=>?_)
 .obtain⟨x,n,g,st,bT,ls,ay,k,ss,s',rfl,W,es,q⟩:=h;obtain⟨af,av⟩:=W.ins;obtain⟨l,ts,t,gQ,aw,dM⟩:=UY W es;refine⟨_,(bb (cp (bG c1 (bG e3 (bG e3 (ed (U 0) (by rfl)) (U 1) (λ_ _=>rfl)) (BN EJ aV) (λ_ _=>rfl)) aV (λ_ _=>rfl)))),?_⟩;have ag:ar.gn (aG (ts++[t])) (-1)=some (.ref t):=by unfold aG;rw[fm];exact RO
  exact⟨_,rfl,x,C,af,_,_,rfl,av,c0.cl,c0.ns,rfl,_,rfl,st,_,_,_,rfl,rfl,aC.of W.steps,il (by unfold aG;rw[cx,gQ];rfl),_,rfl,l,_,_,_,rfl,rfl,aC.of aw,ag,t,_,_,_,rfl,rfl,bI.of dM,rfl,q⟩
noncomputable abbrev Bk:Stmt:=fT (top 27) 5
theorem af0:c3 dg dg (cn Bk):={}
theorem aev(F:cC K "last_turn" "Walk.last_turn" Bk f fd)(c0:pC K C):aS P w K mg base bh 1 f fd dg (JX C):=by
 refine F.ok af0 (λ_ A _ s H vs Q E ao h=>?_)
 .obtain⟨x,n,g,st,bT,ls,ay,k,ss,s',rfl,W,es,q⟩:=h;obtain⟨af,av⟩:=W.ins;obtain⟨l,ts,t,gQ,aw,dM⟩:=UY W es;refine⟨_,(bb (cp (bG c1 (bG e3 (bG e3 (ed (U 0) (by rfl)) (U 1) (λ_ _=>rfl)) (BN EJ aV) (λ_ _=>rfl)) aV (λ_ _=>rfl)))),?_⟩;have ag:ar.gn (aG (ts++[t])) (-1)=some (.ref t):=by unfold aG;rw[fm];exact RO
  exact⟨_,rfl,x,C,af,_,_,rfl,av,c0.cl,c0.ns,rfl,_,rfl,st,_,_,_,rfl,rfl,aC.of W.steps,il (by unfold aG;rw[cx,gQ];rfl),_,rfl,l,_,_,_,rfl,rfl,aC.of aw,ag,t,_,_,_,rfl,rfl,bI.of dM,rfl,q⟩
noncomputable def yU(s:Step)(g:Str):ar.V:=if s.gq=g then .int s.due else .bc
inductive Kw(C:Addr)(vs:aW)(H:ae)(Q:a')(el:bX):Prop where
 |mk (x n g st:Addr) (bT:cb) (ls:cj) (ay:eK) (k:Nat) (ss:List Step) (s:Step) (y:Str) (bM:vs=[.ref x,.int k]) (bu:WalkAt C H x n g st bT ls ay) (bW:ay[k]?=some (ss++[s])) (cW:bT[k]?=some y) (dD:Q (yU s y) H)
noncomputable abbrev EV:Stmt:=fT (top 27) 6
theorem afA:c3 dg dg (cn EV):={}
theorem aew(F:cC K "home_turn" "Walk.home_turn" EV f fd)(c0:pC K C)(mI:cS K C "last_house" "Walk.last_house" Bj dg f1 dJ)(C_:aS P w K mg base bh 1 f1 dJ dg (JW C))(mG:cS K C "last_turn" "Walk.last_turn" Bk dg f2 eV)(Dc:aS P w K mg base bh 1 f2 eV dg (JX C)):aS P w K mg base bh 2 f fd dg (Kw C):=by
 have gc:=c0.cl;refine F.ok afA (λ_ A _ s H vs Q E ao h=>?_)
 .obtain⟨x,n,g,st,bT,ls,ay,k,ss,s',y,rfl,W,es,da,q⟩:=h;obtain⟨af,av⟩:=W.ins;refine⟨_,(a_ (dQ (ej BD (fx (U 0) gc mI.d1 C_ ao.mono mI.bd .nil cm (aj (U 1) aE)) (bG e3 (ed (U 0) (by rfl)) (U 1) (λ_ _=>rfl)) (dB _)) (bb (cp hL)) dW)
   (bb (cp (fx (U 0) gc mG.d1 Dc ao.mono mG.bd .nil cm (aj (U 1) aE))))),?_⟩
  have MM:ar.gn (bT.map V.str) (k:Int)=some (.str y):=il (by rw[cx,da];rfl);refine⟨_,rfl,x,af,_,rfl,av,rfl,_,rfl,x,n,g,st,bT,ls,ay,k,ss,s',rfl,W,es,?_⟩;refine⟨_,rfl,x,C,af,_,_,rfl,av,c0.cl,c0.hi,rfl,_,rfl,g,_,_,_,rfl,rfl,aC.of W.goals,MM,rfl,_,rfl,?_⟩;unfold yU at q;by_cases he:s'.gq=y
  .rw[bB he]at q;exact dw (by rw[he];simp) ⟨_,rfl,x,af,_,rfl,av,rfl,_,rfl,x,n,g,st,bT,ls,ay,k,ss,s',rfl,W,es,q⟩
  .rw[bp he]at q;exact eQ (by simp[he]) q
noncomputable def lA(d:w2):List ar.V:=[.str d.1,.int d.2.1,.str d.2.2]
noncomputable def jT(d:w2):List Step:=[⟨d.2.1,none,d.1,d.2.1⟩]
inductive L7(C:Addr)(vs:aW)(H:ae)(Q:a')(el:bX):Prop where
 |mk (x af n er:Addr) (rs:cj) (ds:qd) (bM:vs=[.ref x,.ref n,.ref er]) (bu:H x=some (.ins C af [])) (bW:H er=some (.lst (aG rs))) (cW:fa H rs (ds.map lA)) (dD:rs.length<=100) (eS:∀(H':ae)(g st:Addr)(hh:cj),SameBut x H H'->WalkAt C H' x n g st (ds.map λd=>d.2.2) hh (ds.map jT)->H g=none->H st=none->hh.Nodup->(∀l∈hh,H l=none/\l≠st/\l≠g)->g≠st->Q .bc H')
noncomputable abbrev CD:Stmt:=fT (top 27) 0
inductive KX(C:Addr)(vs:aW)(H:ae)(Q:a')(el:bX):Prop where
 |mk (x af n g st r:Addr) (bT:cb) (ls:cj) (d:w2) (bM:vs=[.ref x,.ref r]) (bu:H x=some (.ins C af (EU n g st))) (bW:H g=some (.lst (bT.map V.str))) (cW:H st=some (.lst (aG ls))) (dD:g≠st) (eS:H r=some (.tup (lA d))) (hB:bT.length<=100) (lN:ls.length<=100) (nT:∀(H':ae)(l t:Addr),(∀b o,b≠g->b≠st->H b=some o->H' b=some o)->H' g=some (.lst ((bT++[d.2.2]).map V.str))->H' st=some (.lst (aG (ls++[l])))->H l=none->H t=none->H' l=some (.lst [.ref t])->H' t=some (.tup (r3 ⟨d.2.1,none,d.1,d.2.1⟩))->Q .bc H')
noncomputable abbrev BS:Stmt:=fT (top 27) 1
theorem ahC:c3 uq uq (cn BS):={}
theorem afB(F:cC K "take_in" "Walk.take_in" BS f fd)(c0:pC K C):aS P w K mg base bh 1 f fd uq (KX C):=by
 refine F.ok ahC (λ_ A _ s H vs Q E ao h=>?_)
 .obtain⟨x,af,n,g,st,r,bT,ls,d,rfl,av,bE,iM,Ir,hd,z2,ft,q⟩:=h;refine⟨_,(a_ (gK (tQ uv wU wV tr (ed (U 0) (by rfl)) (aj (bG c1 (U 1) aV (λ_ _=>rfl)) aE)))
   (bb (gK (tQ uv wU wV tr (ed (U 0) (by rfl)) (aj (h7 (aj (kF (aj (bG c1 (U 1) aV (λ_ _=>rfl)) (aj hL (aj (bG c1 (U 1) aV (λ_ _=>rfl)) (aj (bG c1 (U 1) aV (λ_ _=>rfl)) aE))))) aE)) aE))))),?_⟩
  have x5:x≠g:=gE av bE (by intro z;cases z);have AN:x≠st:=gE av iM (by intro z;cases z);have aon:r≠g:=gE hd bE (by intro z;cases z);have avs:r≠st:=gE hd iM (by intro z;cases z);refine⟨_,rfl,x,C,af,_,_,rfl,av,c0.cl,c0.hi,rfl,.inl ⟨rfl,_,aC.of bE⟩,_,rfl,r,_,_,_,rfl,rfl,bI.of hd,rfl,g,_,_,rfl,rfl,bE,fF (by rw[bk];omega),?_⟩;have DB:upd H g (.lst (bT.map V.str++[V.str d.2.2])) x=_:=(aD x5).trans av;have xK:upd H g (.lst (bT.map V.str++[V.str d.2.2])) st=_:=(aD Ir.symm).trans iM;have Od:upd H g (.lst (bT.map V.str++[V.str d.2.2])) r=_:=(aD aon).trans hd;refine⟨_,rfl,x,C,af,_,_,rfl,DB,c0.cl,c0.ns,rfl,.inl ⟨rfl,_,aC.of xK⟩,?_⟩;refine⟨_,rfl,r,_,_,_,rfl,rfl,bI.of Od,rfl,_,rfl,r,_,_,_,rfl,rfl,bI.of Od,rfl,_,rfl,r,_,_,_,rfl,rfl,bI.of Od,rfl,(by show 4<=sizeLine;decide),λt eB=>⟨(by show 1<=sizeLine;decide),λl nl=>?_⟩⟩;have Ha:∀{b},upd H g (.lst (bT.map V.str++[V.str d.2.2])) b=none->H b=none/\b≠g:=λ{b}e=>by
   have nb:b≠g:=λz=>by rw[z,aQ]at e;cases e
   rw[aD nb]at e;exact⟨e,nb⟩
  have Ι:l≠t:=λz=>by rw[z,aQ]at nl;cases nl
  have m1:=nl;rw[aD Ι]at m1;have jy:=(b8 (o:=.lst [.ref t]) nl) _ _ ((b8 (o:=.tup (r3 ⟨d.2.1,none,d.1,d.2.1⟩)) eB) _ _ xK);have nJ:t≠st:=λz=>by rw[z,xK]at eB;cases eB
  have kK:l≠st:=λz=>by rw[z,xK]at m1;cases m1
  refine⟨st,_,_,rfl,rfl,jy,fF (by rw[d6];omega),?_⟩;refine q _ l t (λb o ag ai e=>?_) ?_ ?_ (Ha m1).1 (Ha eB).1 ?_ ?_
  .have az:upd H g (.lst (bT.map V.str++[V.str d.2.2])) b=some o:=by rw[aD ag];exact e
   rw[aD ai];exact(b8 nl) _ _ ((b8 eB) _ _ az)
  .rw[aD Ir,aD (Ha m1).2.symm,aD (Ha eB).2.symm,aQ,fm];rfl
  .rw[aQ,Ax]
  .rw[aD kK,aQ]
  .rw[aD nJ,aD Ι.symm,aQ];rfl
theorem W6:c3 ["self","net","letters","letter"] wH (cn CD):={}
theorem ahD(F:cC K "__init__" "Walk.__init__" CD f fd)(c0:pC K C)(qh:cS K C "take_in" "Walk.take_in" BS uq f1 dJ)(PC:aS P w K mg base bh 1 f1 dJ uq (KX C)):aS P w K mg base bh 2 f fd wH (L7 C):=by
 have gc:=c0.cl;refine F.ok W6 (λ_ A _ s H vs Q E ao h=>?_)
 .obtain⟨x,af,n,er,rs,ds,rfl,av,jU,bV,c6,q⟩:=h;refine⟨_,(a_ (jt (U 0) (U 1) rfl)
   (a_ (jt (U 0) (h7 aE) rfl)
   (a_ (jt (U 0) (h7 aE) rfl)
   (bb (jR j6 rfl (kb (U 2)) (eu (i:=3) W6.aI rfl (cR rfl))
    (bb (gK (fx (U 0) gc qh.d1 PC ao.mono qh.bd .nil cm (aj (U 3) aE))))))))),?_⟩
  refine⟨_,rfl,_,rfl,x,C,af,_,rfl,av,c0.cl,c0.nn,(by show 0<1000;decide),?_⟩;have AK:er≠x:=gE jU av (by intro z;cases z);refine⟨(by show 0<=sizeLine;decide),λg hi=>?_⟩;have x5:g≠x:=λz=>by rw[z,aQ]at hi;cases hi
  have DU:=hi;rw[aD x5]at DU;refine⟨_,rfl,x,C,af,_,rfl,(by rw[aD x5.symm,aQ]),c0.cl,c0.hi,(by show 1<1000;decide),(by show 0<=sizeLine;decide),λst nJ=>?_⟩;have AN:st≠x:=λz=>by rw[z,aQ]at nJ;cases nJ
  rw[aD AN]at nJ;have Iz:st≠g:=λz=>by rw[z,aQ]at nJ;cases nJ
  rw[aD Iz,aD AN]at nJ;refine⟨_,rfl,x,C,af,_,rfl,(by rw[aD AN.symm,aQ]),c0.cl,c0.ns,(by show 2<1000;decide),?_⟩;refine⟨_,rfl,er,rfl,⟨_,aC.of (xs:=aG rs) ?_⟩,?_⟩
  .rw[aD AK,aD (cA jU nJ),aD AK,aD (cA jU DU),aD AK];exact jU
  have kH:=d6 rs;have anN:rs.length=ds.length:=by have:=gW bV;rw[bk]at this;exact this
  refine vy (K:=K) (a:=er) (xs:=aG rs) (λj σ dG=>∃lK hh,σ=[some (.ref x),some (.ref n),some (.ref er),lK]/\(∀b o,b≠x->H b=some o->dG b=some o)/\dG x=some (.ins C af (EU n g st))/\dG g=some (.lst (((ds.take j).map λd=>d.2.2).map V.str))/\dG st=some (.lst (aG hh))/\bO (g7 dG) hh ((ds.take j).map jT)/\hh.Nodup/\(∀l∈hh,H l=none/\l≠st/\l≠g))
   ⟨none,[],rfl,λb o nb e=>?_,aQ,?_,?_,.nil,uo,λl aw=>bx aw eo⟩ (λj σ dG _⟨_,_,_,h,_⟩=>aC.of (h _ _ AK jU)) ?_ ?_
  .rw[aD nb,aD (cA e nJ),aD nb,aD (cA e DU),aD nb];exact e
  .rw[aD x5,aD Iz.symm,aD x5,aQ];rfl
  .rw[aD AN,aQ];rfl
  .rintro j z σ dG ee ⟨lK,hh,rfl,g0,pj,xH,rA,dy,aI,fr⟩;unfold aG at ee;rw[cx]at ee;obtain⟨r,fh,rfl⟩:=e0.mp ee;obtain⟨y,da,cM⟩:=bO.get bV fh;rw[cx]at da;obtain⟨d,dp,rfl⟩:=e0.mp da;have au8:=(eb.mp dp).1;have AE:=gW dy;rw[bk,lS]at AE;have a5:ds.take (j+1)=ds.take j++[d]:=by rw[oT,dp];rfl
   refine⟨_,rfl,x,af,_,rfl,pj,rfl,_,rfl,x,af,n,g,st,r,_,hh,d,rfl,pj,xH,rA,Iz.symm,g0 _ _ (gE cM av (by intro z;cases z)) cM,(by rw[bk,lS];omega),(by omega),?_⟩;intro H' l t b4 amw tk nl eB Oy ana;have aom:∀{o},dG l=some o->False:=λ{o}e=>by rw[nl]at e;cases e
   have free:∀{b},dG b=none->H b=none:=λ{b}e=>by
    by_cases aa:b=x
    .rw[aa,pj]at e;cases e
    .cases aB:H b with
     |none=>rfl
     |some o=>rw[g0 _ _ aa aB]at e;cases e
   refine⟨_,hh++[l],rfl,λb o nb e=>?_,b4 _ _ x5.symm AN.symm pj,?_,tk,?_,?_,?_⟩
   .exact b4 _ _ (λz=>by rw[z,DU]at e;cases e) (λz=>by rw[z,nJ]at e;cases e) (g0 _ _ nb e)
   .rw[amw,a5];simp only[fm,hE,Lq]
   .rw[a5,fm];refine Paired.snoc ⟨[t],Oy,.cons ana .nil⟩ ?_;have go:∀{ms:cj}{yB:eK},bO (g7 dG) ms yB->(∀l∈ms,l≠st/\l≠g)->bO (g7 H') ms yB:=λ{ms yB}p=>by
     induction p with
     |nil=>exactλ_=>.nil
     |cons r t a3=>
      refineλh=>.cons ?_ (a3 λl aw=>h l (.tail _ aw))
      obtain⟨ts,ag,ai⟩:=r;refine⟨ts,b4 _ _ (h _ (.head _)).2 (h _ (.head _)).1 ag,bO.gL ai λa b e=>b4 _ _ (gE e xH (by intro z;cases z)) (gE e rA (by intro z;cases z)) e⟩
    exact go dy λl aw=>(fr l aw).2
   .rw[F9];refine⟨aI,iE.mpr ⟨eo,uo⟩,λa aF b aa=>?_⟩;rw[g5]at aa;subst aa;rintro rfl;obtain⟨i,ak,e⟩:=mr aF;obtain⟨_,_,ts,ag,_⟩:=bO.get dy (eb.mpr ⟨ak,e⟩);exact aom ag
   .intro d9 iK;rw[hl,g5]at iK;rcases iK with h|rfl
    .exact fr _ h
    .exact⟨free nl,λz=>(by rw[z]at nl;rw[nl]at rA;cases rA),λz=>(by rw[z]at nl;rw[nl]at xH;cases xH)⟩
  .rintro σ dG ⟨lK,hh,rfl,g0,pj,xH,rA,dy,aI,fr⟩;rw[kH,anN,oU]at xH dy;exact q dG g st hh (λb o nb e=>g0 b o nb e) ⟨⟨af,pj⟩,xH,rA,dy⟩ DU nJ aI fr Iz.symm
noncomputable abbrev yn:Stmt:=fT (top 48) 3
theorem UZ:c3 dg dg (cn yn):={}
theorem aex(F:cC K "road" "Net.road" yn f fd)(B:fk mg)(fW:ua K C)(RP:y7 Ks gY vh bm)(Ay:Exc K mg "NoRoad" R bm gY):
  aS P w K mg base (f9 P w) 1 f fd dg (UR C R):=by
 refine pE F UZ (λ_ A _ s H vs Q E ao h=>?_)
 .obtain⟨x,bL,br,xs,ys,k,rfl,n,q,hU⟩:=h;obtain⟨af,av⟩:=n.ins;refine⟨_,(a_ (dQ (g9 (vz kG nH aV (U 1) (dj fQ (by rfl) B.len fG (aj (ed (U 0) (by rfl)) aE)))) (bb (Jm RP Ay rfl (aj g8 aE))) dW)
   (bb (cp (bG e3 (ed (U 0) (by rfl)) (U 1) (λ_ _=>rfl))))),?_⟩
  refine⟨_,rfl,_,_,rfl,rfl,_,rfl,?_⟩;by_cases h0:0<=k
  .refine eQ (cT h0) ⟨_,rfl,x,C,af,_,_,rfl,av,fW.cl,fW.jD,rfl,br,_,rfl,.inl (aC.of n.rV),_,_,rfl,rfl,_,rfl,?_⟩;by_cases ag:k<ys.length
   .obtain⟨v,bj,apf⟩:=q ⟨h0,ag⟩;refine yN ag ?_;exact⟨_,rfl,x,C,af,_,_,rfl,av,fW.cl,fW.jD,rfl,_,rfl,br,_,_,_,rfl,rfl,aC.of n.rV,bj,apf⟩
   .refine eQ (by rw[dn ag];rfl) ?_;exact⟨by show 1<=sizeLine;decide,hU λz=>ag z.2⟩
  .refine dw (dn h0) ⟨_,rfl,?_⟩;exact gD ⟨by show 1<=sizeLine;decide,hU λz=>h0 z.1⟩
end
end df
namespace cH
open PySem PySem.Spec PyProof.Rows ar PySem.W
noncomputable def hv{α:Type}(lt:hG):KasT α->α
 |.ret a=>a
 |.ask i j k=>hv lt (k (lt i j))
noncomputable def lp{α:Type}(n:Nat)(P:α->Prop):KasT α->Prop
 |.ret a=>P a
 |.ask i j k=>i<n/\j<n/\∀b,lp n P (k b)
theorem AU{α β:Type}{n:Nat}{P:α->Prop}{R:β->Prop}{f:α->KasT β}(hf:∀a,P a->lp n R (f a)):∀t:KasT α,lp n P t->lp n R (t.bind f)
 |.ret a,h=>hf a h
 |.ask i j k,h=>⟨h.1,h.2.1,λb=>AU hf (k b) (h.2.2 b)⟩
theorem qO{α:Type}{n:Nat}{P:α->Prop}{c:Prop}[Decidable c]{s t:KasT α}(ag:c->lp n P s)(ai:¬c->lp n P t):lp n P (if c then s else t):=by
 by_cases h:c
 .rw[bB h];exact ag h
 .rw[bp h];exact ai h
theorem U0{α:Type}{cmp:Nat->Nat->(Bool->aK->Prop)->aK->Prop}{lt:hG}{n:Nat}{P:α->Prop}{Q:α->aK->Prop}(aq:∀i j C,i<n->j<n->C (lt i j) s->cmp i j C s):
  ∀t:KasT α,lp n P t->(P (hv lt t)->Q (hv lt t) s)->t.kasWp cmp Q s
 |.ret a,p,h=>h p
 |.ask i j k,p,h=>aq i j _ p.1 p.2.1 (U0 aq (k (lt i j)) (p.2.2 _) h)
theorem JB{α:Type}{lt:hG}{n:Nat}{P:α->Prop}:∀t:KasT α,lp n P t->P (hv lt t)
 |.ret _,p=>p
 |.ask i j k,p=>JB (k (lt i j)) (p.2.2 _)
noncomputable def eE(n:Nat)(p:jh):Prop:=p.Perm (zj (dK n))
theorem eE.lt{n:Nat}{p:jh}(h:eE n p){x:Nat}(av:x∈p):x<n:=by
 have:=h.mem_iff.mp av;have:x∈dK n:=by simpa using this
 exact j5.mp this
theorem eE.list{n:Nat}{p:jh}(h:eE n p):p.toList.Perm (dK n):=by have:=Array.perm_iff_toList_perm.mp h;simpa using this
theorem eE.at{n:Nat}{p:jh}(h:eE n p)(h0:0<n)(k:Nat):p.getD k 0<n:=by
 by_cases aP:k<p.size
 .have e:p.getD k 0=p[k]:=by simp[q5,aP]
  rw[e];exact h.lt (Array.getElem_mem aP)
 .have e:p.getD k 0=0:=by simp[q5,aP]
  rw[e];exact h0
theorem eE.perm{n:Nat}{q:jh}(h:eE n p)(e:q.Perm p):eE n q:=Array.Perm.trans e h
theorem eE.rev{n:Nat}(h:eE n p)(i j:Nat):eE n (DI p i j):=h.perm (mirror_perm ..)
theorem eE.XT{n:Nat}(h:eE n p)(i j:Nat):eE n (bubble p i j):=h.perm (bubble_perm ..)
section
variable{n:Nat}
theorem L8(h0:0<n)(h:eE n p):∀f k,lp n (λ_=>True) (kas_asc p f k)
 |0,_=>trivial
 |f+1,k=>⟨h.at h0 _,h.at h0 _,λb=>qO (λ_=>trivial) λ_=>L8 h0 h f (k+1)⟩
theorem Fd(h0:0<n):∀(f:Nat)(p:jh)(k q:Nat),eE n p->lp n (λr=>eE n r.1) (DH f p k q)
 |0,p,k,q,h=>h
 |f+1,p,k,q,h=>⟨h.at h0 _,h.at h0 _,λb=>qO (λ_=>qO (λ_=>Fd h0 f _ _ _ (h.rev _ _)) λ_=>Fd h0 f _ _ _ h)
   λ_=>⟨h.at h0 _,h.at h0 _,λb=>qO (λ_=>h) λ_=>Fd h0 f _ _ _ h⟩⟩
theorem Us(h0:0<n)(h:eE n p)(k m:Nat):lp n (λr=>eE n r.2) (DJ k m p):=by unfold DJ;refine AU (P:=λ_=>True) (λa _=>?_) _ (L8 h0 (h.rev _ _) _ _);exact h.rev _ _
theorem Ė(h0:0<n)(h:eE n p)(k m:Nat):lp n (λr=>eE n r.2) (ZY k m p):=
 AU (λr ao=>qO (λ_=>Us h0 (eE.rev ao _ _) _ _) λ_=>Us h0 ao _ _) _ (Fd h0 _ _ _ _ h)
theorem afC(h0:0<n)(h:eE n p)(m:Nat):lp n (λr=>eE n r.2) (Pe m p):=by unfold Pe;refine AU (P:=λ_=>True) (λk _=>?_) _ (L8 h0 h _ _);refine qO (λ_=>h) λ_=>qO (λ_=>⟨h.at h0 _,h.at h0 _,λb=>qO (λ_=>h) λ_=>Ė h0 (h.rev _ _) _ _⟩) λ_=>Ė h0 h _ _
theorem KA(h0:0<n)(h:eE n p)(k:Nat):∀f l r,lp n (λ_=>True) (Au p k f l r)
 |0,_,_=>trivial
 |f+1,l,r=>qO (λ_=>trivial) λ_=>⟨h.at h0 _,h.at h0 _,λb=>qO (λ_=>KA h0 h k f _ _) λ_=>KA h0 h k f _ _⟩
theorem L9(h0:0<n):∀(f:Nat)(p:jh)(k:Nat),eE n p->lp n (eE n) (Pd f p k)
 |0,p,k,h=>h
 |f+1,p,k,h=>AU (λl _=>L9 h0 f _ _ (h.XT _ _)) _ (KA h0 h k _ _ _)
theorem KY(h0:0<n):lp n (eE n) (Av n):=by have ao:eE n (zj (dK n)):=ő _;unfold Av;refine AU (P:=λr=>eE n r.2) (λr ai=>?_) _ (afC h0 ao n);exact qO (λ_=>L9 h0 _ _ _ ai) λ_=>ai
end
noncomputable def rS(lt:hG)(n:Nat):List Nat:=if n<2 then dK n else(hv lt (Av n)).toList
noncomputable def ia{α:Type}(d:α)(lt:hG)(xs:List α):List α:=(rS lt xs.length).map λi=>xs.getD i d
theorem Sm{lt:hG}{n i:Nat}(h:i∈rS lt n):i<n:=by
 unfold rS at h;split at h
 .exact j5.mp h
 .rename_i ai;exact eE.lt (JB (lt:=lt) (Av n) (KY (by omega))) (by simpa using h)
theorem ė(lt:hG)(n:Nat):(rS lt n).Perm (dK n):=by
 unfold rS;split
 .exact F2 _
 .exact eE.list (JB (lt:=lt) (Av n) (KY (by omega)))
theorem Ĩ{α:Type}(d:α)(lt:hG)(xs:List α):(ia d lt xs).Perm xs:=by
 have e:xs=(dK xs.length).map λi=>xs.getD i d:=by
  apply F6
  .simp
  .intro i ag ai;simp[eF,ag]
 have p:=(ė lt xs.length).map λi=>xs.getD i d;rw[<-e]at p;exact p
theorem JC{α:Type}(d:α)(lt:hG)(xs:List α):(ia d lt xs).length=xs.length:=(Ĩ d lt xs).length_eq
theorem IV{lt:hG}(h:cN xs us):cN (ia .bc lt xs) (ia .none lt us):=by
 unfold ia;rw[h.length];have:∀is:List Nat,(∀i∈is,i<xs.length)->cN (is.map λi=>xs.getD i .bc) (is.map λi=>us.getD i .none):=λis=>by
  induction is with
  |nil=>intro _;exact .nil
  |cons i r a3=>
   intro ak;refine .cons ?_ (a3 λj bg=>ak j (.tail _ bg));have cz:i<xs.length:=ak i (.head _);have az:xs[i]?=some xs[i]:=cF cz;obtain⟨u,aB,ez⟩:=h.get az;show RelV (xs[i]?.getD .bc) (us[i]?.getD .none);rw[az,aB];exact ez
 exact this _ λi ak=>by rw[h.length];exact Sm ak
theorem aey{α:Type}(d:α)(lt:hG){xs:List α}(h:xs.length<2):ia d lt xs=xs:=by
 unfold ia rS;rw[bB h];apply F6
 .simp
 .intro i ag ai;simp[eF,ai]
noncomputable def ub(a:Addr)(h h':Heap):Prop:=∀b o,b≠a->h.get? b=some o->h'.get? b=some o
section
variable{prog:cG}{w:bS}{A:du}{E:cc}{s:aK}{vs:c7}{κ:zM}{lt:hG}
theorem KC{e:Nat}{R:V2->aK->Prop}(aU:s.heap.get? a=some (iv "list" vs.toArray e))(rt:vs.length<64)(aP:2<=vs.length->∀s1:aK,ub a s.heap s1.heap->∀Q:zM->aK->Prop,Q κ s1->aL (aX prog w) A (Ph vs.toArray) Q (λ_ _=>False) s1)(aw:2<=vs.length->∀s1:aK,ub a s.heap s1.heap->∀i j C,i<vs.length->j<vs.length->C (lt i j) s1->DG prog w A κ vs i j C s1)(h:∀h' c,ub a s.heap h'->h'.get? a=some (iv "list" (zj (ia gm lt vs)) c)->R (.done (.ret .none)) {s with heap:=h'}):
  aL (aX prog w) A (Builtin.«list.sort» ⟨[.ref a],[]⟩) R E s:=by
 have emptied:=alL aU λ_=>(#[]:kV)
 obtain⟨az,Dx⟩:∃k,(s.heap.update a (nZ λ_=>(#[]:kV))).get? a=some (iv "list" #[] k):=⟨_,emptied⟩
 have e4:ub a s.heap (s.heap.update a (nZ λ_=>(#[]:kV))):=λb o aa q=>(T9 _ _ _ _ aa).trans q;have big:∀k,k<64->k<=sizeLine:=λk aP=>by rw[tR];omega
 rw[list_sort_plain];refine au (listItems_at aU rfl (au (listUpdate_at aU rfl ?_ (by rw[fN];exact big _ rt) (eZ _))));refine au (seqEpoch_at Dx rfl (au (aqA ?_ (big _ rt))));refine au (Sf (hA ?_) (eZ _));dsimp only;generalize lb:((s.heap.update a (nZ λ_=>(#[]:kV))).push (iv "tuple" vs.toArray 0)).push (iv "list" #[] 0)=ah;have Dy:ah.get? a=some (iv "list" #[] az):=by rw[<-lb];exact dm _ (dm _ Dx)
 have jF:ub a s.heap ah:=λb o aa q=>by rw[<-lb];exact dm _ (dm _ (e4 b o aa q))
 have tail:∀(x:Unit×SortSt)(out:c7),(arrOf x.2).map (·.2)=out.toArray->failedOf x.2=none->out.length<64->out=ia gm lt vs->
   aL (aX prog w) A (do
    let now <-seqEpoch a
    arc (.ref a) λ_=>(arrOf x.2).map (·.2)
    match failedOf x.2 with
    |some fh=>do
     rule "list.sort.comparison-raised"
     throw fh
     if(now !=az)=true then do
      rule "list.sort.modified"
      apl "ValueError" "list modified during sort"
      ret gm
     else ret gm
    |_=>
     if(now !=az)=true then do
      rule "list.sort.modified"
      apl "ValueError" "list modified during sort"
      ret gm
     else ret gm) R E {s with heap:=ah}:=λx out aB cX HX zY=>by
  refine au (seqEpoch_at Dy rfl (au (listUpdate_at Dy rfl ?_ (eZ _) ?_)))
  .rw[cX];dsimp only;rw[bp (by simp)];obtain⟨c,aq⟩:∃c,(ah.update a (nZ λ_=>(arrOf x.2).map (·.2))).get? a=some (iv "list" ((arrOf x.2).map (·.2)) c):=⟨_,alL Dy λ_=>(arrOf x.2).map (·.2)⟩
   refine aT (h _ c (λb o aa q=>(T9 _ _ _ _ aa).trans (jF b o aa q)) ?_);rw[aq,aB,zY]
  .rw[aB,fN];have:=big _ HX;omega
 by_cases ai:(vs.toArray.size<2)
 .rw[bB ai,bB ai];have qu:vs.length<2:=by rw[fN]at ai;exact ai
  refine au (aT (au (aT ?_)));refine tail ((),SortSt.mk' general' (vs.toArray.zip vs.toArray) #[] 7 none) vs ?_ rfl rt (aey _ _ qu).symm;show(vs.toArray.zip vs.toArray).map (·.2)=vs.toArray;apply Array.toList_inj.mp;simp only[Array.toList_map,Array.toList_zip];exact List.map_snd_zip (bU _)
 .rw[bp ai,bp ai];have qu:2<=vs.length:=by rw[fN]at ai;omega
  refine au (gi (aP qu {s with heap:=ah} jF (λSN s'=>SN=κ/\s'={s with heap:=ah}) ⟨rfl,rfl⟩) ?_ λ_ _ x=>x.elim);rintro SN s' ⟨rfl,rfl⟩;refine au (gi (kat_run (κ:=SN) (Q:=λst s'=>s'={s with heap:=ah}/\(arrOf st).map (·.2)=zj (ia gm lt vs)/\failedOf st=none/\(ia gm lt vs).length=vs.length)
   (G:=λp s'=>s'={s with heap:=ah}/\p=hv lt (Av vs.length)) rfl qu rt (λp st s' a1 a2 ik kX=>?_) (U0 (λi j C ak bg ey=>aw qu _ jF i j C ak bg ey) _ (KY (by omega)) λ_=>⟨rfl,rfl⟩)) ?_ λ_ _ x=>x)
  .obtain⟨e5,eT⟩:=kX;have e:ia gm lt vs=p.toList.map λi=>vs.getD i gm:=by unfold ia rS;rw[bp (by omega),eT]
   refine⟨e5,?_,ik,?_⟩
   .rw[e];exact kat_snds rfl a2
   .rw[e,bk,nU,a1]
  .rintro⟨⟨⟩,st⟩ s' ⟨rfl,eT,ji,w7⟩;exact tail ((),st) _ eT ji (by omega) rfl
noncomputable def nN(h h':Heap):Prop:=∀b o,h.get? b=some o->h'.get? b=some o
theorem ĩ{Q:cc}(aw:s.heap.IsList l vs.toArray)(rt:vs.length<64)(aP:2<=vs.length->∀s1:aK,nN s.heap s1.heap->∀Q:zM->aK->Prop,Q κ s1->aL (aX prog w) A.in1.in1 (Ph vs.toArray) Q (λ_ _=>False) s1)(aF:2<=vs.length->∀s1:aK,nN s.heap s1.heap->∀i j C,i<vs.length->j<vs.length->C (lt i j) s1->DG prog w A.in1.in1 κ vs i j C s1)(h:∀D h' c,s.heap.objs.size<=D->nN s.heap h'->h'.get? D=some (iv "list" (zj (ia gm lt vs)) c)->Q (.ref D) {s with heap:=h'}):
  aL (aX prog w) A (call (.builtin "sorted") ([.ref l]:c7)) Q E s:=by
 have big:vs.length<=sizeLine:=by rw[tR];omega
 refine S4 Z0 Ã Yo (XP (.ref l)) ?_;unfold Builtin.«sorted»;refine au (m:=X0 "sorted" 1 1 _) (aT (au (collect_list aw ?_ big)));refine au (Sf ?_ big);generalize tb:(s.heap.push (iv "list" #[] 0)).update s.heap.objs.size (nZ (·++vs.toArray))=G;have bT:G.objs.size=s.heap.objs.size+1:=by rw[<-tb,Heap.size_update,size_push']
 have e4:nN s.heap G:=λb o q=>by have aa:=dR (c5 q);rw[<-tb,T9 _ _ _ _ aa];exact dm _ q
 show aL _ _ _ _ _ {s with heap:=G.push (iv "list" vs.toArray 0)};have bl:(G.push (iv "list" vs.toArray 0)).get? G.objs.size=some (iv "list" vs.toArray 0):=fM _ rfl;have jF:nN s.heap (G.push (iv "list" vs.toArray 0)):=λb o q=>dm _ (e4 b o q);have oL:∀h',ub G.objs.size (G.push (iv "list" vs.toArray 0)) h'->nN s.heap h':=λh' x b o q=>x b o (dR (by rw[bT];exact sN (c5 q))) (jF b o q);refine au (hA (nS â ⟨_,bl,rfl⟩ Yn ?_ (XO _)));refine KC (s:={s with heap:=G.push (iv "list" vs.toArray 0)}) (κ:=κ) (lt:=lt) bl rt (λai s1 x=>aP ai s1 (oL _ x)) (λai s1 x=>aF ai s1 (oL _ x)) λh' c x aq=>?_;exact⟨_,rfl,aT ⟨_,rfl,h _ h' c (by rw[bT];exact oY _) (oL _ x) aq⟩⟩
noncomputable def lexLt:List bA->List bA->Bool
 |.inl a::r,.inl b::q=>if a=b then lexLt r q else decide (a<b)
 |.inr a::r,.inr b::q=>if a=b then lexLt r q else decide (a.cps.toList<b.cps.toList)
 |_,_=>false
noncomputable def lr:List bA->List Bool:=List.map λk=>match k with
 |.inl _=>true
 |.inr _=>false
theorem aez(a b:Int):hn (.int a) (.int b)=decide (a=b):=by
 by_cases h:a=b
 .subst h;rw[cT rfl];simp[hn]
 .rw[dn h];simp[hn,h]
theorem Tx(x y:Str):hn (.str x) (.str y)=decide (x=y):=by
 by_cases h:x=y
 .subst h;rw[cT rfl];simp[hn]
 .rw[dn h];simp[hn,h]
end
section
variable{prog:cG}{w:bS}{A:du}{E:cc}{s:aK}
theorem Sn{Q:Bool->aK->Prop}:∀(d e:List bA)(us ws:c7)(i:Nat),cN (d.map c9) us->cN (e.map c9) ws->lr d=lr e->Q (lexLt d e) s->KatLex prog w A true false Q (us.zip ws) i s
 |[],e,us,ws,i,v1,v2,hs,h=>by
  cases v1;have cD:e=[]:=by
   cases e with
   |nil=>rfl
   |cons _ _=>cases hs
  subst cD;exact kat_nil h
 |.inl a::r,[],_,_,_,_,_,hs,_=>by cases hs
 |.inr a::r,[],_,_,_,_,_,hs,_=>by cases hs
 |.inl a::r,.inr b::q,_,_,_,_,_,hs,_=>by simp[lr]at hs
 |.inr a::r,.inl b::q,_,_,_,_,_,hs,_=>by simp[lr]at hs
 |.inl a::r,.inl b::q,_,_,i,.cons b3 t1,.cons dh dU,hs,h=>by
  obtain⟨t,rfl⟩:=b3;obtain⟨u,rfl⟩:=dh;have tk:lr r=lr q:=by simpa[lr]using hs
  unfold lexLt at h;refine kat_cons (keq_flat (d:=.int a) (e:=.int b) (λ_=>.int a t) (λ_=>.int b u) prog w _ _ ?_);rw[aez];by_cases e:a=b
  .rw[bB e]at h;rw[cT e];exact kat_yes (Sn r q _ _ _ t1 dU tk h)
  .rw[bp e]at h;rw[dn e];refine kat_no ?_;cases i with
   |zero=>exact oneLt_int h
   |succ i=>exact kat_one _ _ (lt_int h)
 |.inr a::r,.inr b::q,_,_,i,.cons b3 t1,.cons dh dU,hs,h=>by
  obtain⟨t,rfl⟩:=b3;obtain⟨u,rfl⟩:=dh;have tk:lr r=lr q:=by simpa[lr]using hs
  unfold lexLt at h;refine kat_cons (keq_flat (d:=.str a) (e:=.str b) (λ_=>.str a t) (λ_=>.str b u) prog w _ _ ?_);rw[Tx];by_cases e:a=b
  .rw[bB e]at h;rw[cT e];exact kat_yes (Sn r q _ _ _ t1 dU tk h)
  .rw[bp e]at h;rw[dn e];refine kat_no ?_;cases i with
   |zero=>exact oneLt_str h
   |succ i=>exact kat_one _ _ (lt_str h)
noncomputable def tA(ds:List (List bA))(i j:Nat):Bool:=lexLt (ds.getD i []) (ds.getD j [])
theorem Ī:∀{ts:cj}{us:c7},cN (ts.map V.ref) us->us=ts.map cu
 |[],_,.nil=>rfl
 |t::ts,_,.cons r q=>by cases r;rw[Ī q];rfl
noncomputable def ZU:bA->Bool
 |.inl _=>true
 |.inr _=>false
noncomputable def ö(b:Bool):Value:=if b=true then .type "int" else .type "str"
end
theorem Wr{H:ae}(ok:fE P w H h)(x:nN h ag){b:Bool}:∀{ts:cj}{ds:List (List bA)},bO (λr d=>H r=some (.tup (d.map c9))) ts ds->(∀d∈ds,∃r,lr d=b::r)->
  ∃fs,KatTups ag (ts.map cu) fs/\fs.length=ts.length/\∀v∈fs,∃k:bA,ZU k=b/\RelV (c9 k) v
 |[],[],_,_=>⟨[],KatTups.nil,rfl,λ_ h=>bx h eo⟩
 |t::ts,d::ds,.cons r q,hd=>by
  obtain⟨fs,k1,k2,k3⟩:=Wr ok x q λd' h'=>hd d' (.tail _ h');obtain⟨æ,hs⟩:=hd d (.head _);obtain⟨_,its,cf,o,aU,aq,n,pe⟩:=ok t _ r;cases d with
  |nil=>cases hs
  |cons k d=>
   cases cf with
   |cons vV nL=>
    rename_i f fr;refine⟨f::fs,KatTups.cons (x _ _ aU) aq pe (by simp) k1,by simp[k2],λv bj=>?_⟩;rcases dv.mp bj with rfl|ang
    .refine⟨k,?_,vV⟩;have:lr (k::d)=ZU k::lr d:=by cases k<;>rfl
     rw[this]at hs;exact(List.cons.inj hs).1
    .exact k3 v ang
 |[],d::ds,h,_=>nomatch h
 |t::ts,[],h,_=>nomatch h
section
variable{X:bo}
theorem IW:iG "sorted"=some (.builtin "sorted"):=by decide+kernel
theorem Ş:jV X (.builtin "sorted") (λxs H Q=>∃(p:Addr)(ts:cj)(ds:List (List bA))(b:Bool)(b5:List Bool),xs=[.ref p]/\aC X.K H p (ts.map V.ref)/\bO (λr d=>H r=some (.tup (d.map c9))) ts ds/\ts.length<64/\(∀d∈ds,lr d=b::b5)/\
  ∀l,H l=none->Q (.ref l) (upd H l (.lst (ia .bc (tA ds) (ts.map V.ref))))):=by
 intro pins s σ H xs us Q I r h;obtain⟨p,ts,ds,b,b5,rfl,a8,bV,rt,xM,q⟩:=h;obtain⟨u,rfl,ez⟩:=vals1 r;cases ez;obtain⟨its,cf,pl,hz⟩:=I.list a8;have hlen:=cf.length;rw[bk]at hlen;obtain rfl:=Ī cf;have atl:ts.length=ds.length:=gW bV;have at_:∀i,i<ts.length->∃d its,(ts.map cu).getD i gm=.ref ts[i]!/\ds.getD i []=d/\lr d=b::b5/\cN (d.map c9) its/\wx s.heap ts[i]! its.toArray:=λi ak=>by
  have az:ts[i]?=some ts[i]:=cF ak;have aB:ds[i]?=some ds[i]:=cF (by omega);have cX:ts[i]! =ts[i]:=by simp[ak]
  have aN:H ts[i]=some (.tup (ds[i].map c9)):=by
   have:∀{l:cj}{m:List (List bA)}{k:Nat}{x:Addr}{y:List bA},bO (λr d=>H r=some (.tup (d.map c9))) l m->l[k]?=some x->m[k]?=some y->H x=some (.tup (y.map c9)):=λ{l m k x y}P=>by
    induction P generalizing k with
    |nil=>intro h;simp at h
    |cons a t a3=>
     cases k with
     |zero=>intro ag ai;simp at ag ai;subst ag;subst ai;exact a
     |succ k=>intro ag ai;simp at ag ai;exact a3 ag ai
   exact this bV az aB
  obtain⟨_,its,v1,t1⟩:=I.bf _ _ aN;refine⟨ds[i],its,?_,?_,xM _ (sG _),v1,?_⟩
  .rw[eF,cx,az,cX];rfl
  .rw[eF,aB];rfl
  .rw[cX];exact t1
 refine ĩ (κ:=tuples' true) (lt:=tA ds) pl.isList (by rw[bk];exact rt) (λai s1 x mx d8=>?_) (λai s1 x i j C ak bg ey=>?_) λD h' c hle x aq=>?_
 .obtain⟨fs,k1,k2,k3⟩:=Wr I.bf x bV λd hd=>⟨b5,xM d hd⟩
  rw[bk]at ai;refine kat_kind (T:=ö b) k1 (by omega) (λv bj=>?_) (by cases b<;>decide+kernel) ?_
  .obtain⟨k,eU,vV⟩:=k3 v bj;subst eU;cases k with
   |inl i=>obtain⟨t,rfl⟩:=vV;exact Vk rfl
   |inr i=>obtain⟨t,rfl⟩:=vV;exact Vk rfl
  .have e:(ö b !=nk "tuple")=true:=by cases b<;>decide+kernel
   rw[e];exact d8
 .rw[bk]at ak bg;obtain⟨d,its,a1,a2,ik,kX,o,aU,_,n,pe⟩:=at_ i ak;obtain⟨d',its',e5,eT,ji,w7,cB,iL,_,i',amk⟩:=at_ j bg;unfold DG;rw[a1,e5];have dF:=kX.length;have d9:=w7.length;rw[bk]at dF d9;have nE:d.length=d'.length:=by have e:=ht F8 (ik.trans ji.symm);simpa[lr]using e
  refine kat_lt (b:=true) (x _ _ aU) pe (x _ _ iL) amk ?_;rw[dn (by rw[fN,fN];omega)];refine Sn d d' its its' 0 kX w7 (ik.trans ji.symm) ?_;have:tA ds i j=lexLt d d':=by unfold tA;rw[a2,eT]
  rw[<-this];exact ey
 .refine⟨.ref D,_,I.laid (a:=D) (o:=.lst (ia .bc (tA ds) (ts.map V.ref))) (t':=s.toks) (λb o q=>x b o q) hle ?_,rfl,q D (I.bf.fresh hle)⟩;refine⟨?_,_,c,IV cf,aq⟩;rw[JC,bk,tR];omega
noncomputable def pX(h:Heap)(d:Addr)(es:Array sy)(ep:Nat):Prop:=∃o,h.get? d=some o/\o.ExactDict/\o.data=.dict es ep
end
section
variable{X:bo}{pins:dP}{σ:ar.St}{H:ae}{s:aK}{a:Addr}{u u':f_}
theorem Ws(I:Inv X pins σ H s)(aF:H a=some u)(cE:∀xs,u≠.tup xs)(c':∀y,u≠.own y)(new:eI X.prog X.w (upd H a u') s.heap a u')(f1:∀xs,X.pZ a≠some (.tup xs))(f2:∀o v,X.pZ a≠some (.fi o v))(cU:∀ps,X.pZ a≠some (.r9 ps)):Inv X pins σ (upd H a u') s:=by
 have other:∀{b:Addr},H b=none->upd H a u' b=none:=λ{b}e=>by rw[aD (λz=>by rw[z,aF]at e;cases e)];exact e
 refine⟨I.ok,I.os,I.bare,⟨I.base.keep,I.base.slot,λb o e n av=>other (I.base.free b o e n av),I.base.there,λb xs e=>?_,λb o v e=>?_,λb ps e=>?_⟩,I.loc,I.cell,other I.free,λx c e=>other (I.mR x c e),λp aN=>?_,λb o e=>?_,I.len⟩
 .rw[aD (λz=>by rw[z]at e;exact f1 xs e)];exact I.base.ij b xs e
 .rw[aD (λz=>by rw[z]at e;exact f2 o v e)];exact I.base.jr b o v e
 .rw[aD (λz=>by rw[z]at e;exact cU ps e)];exact I.base.j0 b ps e
 .obtain⟨ag,ai,bK,c8,dX⟩:=I.pin p aN;exact⟨ag,other ai,bK,c8,dX⟩
 .by_cases aa:b=a
  .subst aa;rw[aQ]at e;cases e;exact new
  .rw[aD aa]at e;refine(I.bf b o e).nM (λc v _ q=>q) (λc q=>?_) λc xs q=>?_
   .rw[aD (λz=>by rw[z,aF]at q;exact c' _ (gV q))];exact q
   .rw[aD (λz=>by rw[z,aF]at q;exact cE _ (gV q))];exact q
end
section
variable{prog:cG}{w:bS}{A:du}{E:cc}{s:aK}{it d:Addr}{i ep:Nat}{es:Array sy}
theorem Wt{Q:Option Value->aK->Prop}(hit:s.heap.IsKeyIter it d i es.size ep)(hd:pX s.heap d es ep)(ak:i<es.size)(d8:∀h',h'.IsKeyIter it d (i+1) es.size ep->mn it s.heap h'->Q (some es[i].key) {s with heap:=h'}):aL (aX prog w) A (ig (.ref it)) Q E s:=by
 obtain⟨AO,lh,Hp,kh⟩:=id hit;obtain⟨o,aU,_,pe⟩:=hd;have T0:=hit.typeIs;have Qb:¬((cu d==gm)=true):=fU;have own:š "dict_keyiterator"=false:=by decide
 unfold ig;refine au (EM (J4 (name:=e8 "__next__") T0 F.slot_dict_keyiterator_next (nS F.slot_dict_keyiterator_next T0 F.entry_dict_keyiterator_next ?_ (F.args_dict_keyiterator_next_1 _))));refine au (aT (au (au ?_)))
 first
 |refine au (Si T0 (aT (au (EO lh kh ?_))))
 |refine au (Sj T0 (aT (au (EO lh kh ?_))))
 simp only[own,m9,if_false];change aL _ _ (ite ((cu d==gm)=true) _ _) _ _ s;rw[bp Qb];refine au (aT (au (J5 aU pe ?_)));rw[bp (by simp)];refine au (aT (au (Ď aU pe ?_)));rw[bp (by simp)];refine aT ?_;simp only[show¬((i:Int)<0)from by omega,if_false,kQ,y1 ak];refine au ?_
 first
 |refine au (Si T0 (aT (au (đ T0 ?_))))
 |refine au (Sj T0 (aT (au (đ T0 ?_))))
 change aL _ _ (A9 (.ref it) 1 (jE ((i:Int)+1)) >>=_) _ _ s;refine au (wd lh kh (by simp) ?_);have next:(s.heap.update it (sO (·.setIfInBounds 1 (jE ((i:Int)+1))))).IsKeyIter it d (i+1) es.size ep:=
  ⟨_,kr _ lh (Cq (p7 kh _)),(LM ..).trans Hp,by simp[p7 kh,jE]⟩
 refine au (hA (au (đ (s:={s with heap:=s.heap.update it (sO (·.setIfInBounds 1 (jE ((i:Int)+1))))}) next.typeIs ?_)));exact aT (aT ⟨_,rfl,aT (d8 _ next (oQ ..))⟩)
theorem Uu{Q:Option Value->aK->Prop}(dr:A.handled=none)(hit:s.heap.IsKeyIter it d i es.size ep)(hd:pX s.heap d es ep)(ak:es.size<=i)(d8:∀h',K_ it s.heap h'->Q none {s with heap:=h'}):
  aL (aX prog w) A (ig (cu it)) Q E s:=by
 obtain⟨AO,lh,Hp,kh⟩:=id hit;obtain⟨o,aU,_,pe⟩:=hd;have T0:=hit.typeIs;have Qb:¬((cu d==gm)=true):=fU;have own:š "dict_keyiterator"=false:=by decide
 unfold ig;refine au (EM (J4 (name:=e8 "__next__") T0 F.slot_dict_keyiterator_next (nS F.slot_dict_keyiterator_next T0 F.entry_dict_keyiterator_next ?_ (F.args_dict_keyiterator_next_1 _))));refine au (aT (au (au ?_)))
 first
 |refine au (Si T0 (aT (au (EO lh kh ?_))))
 |refine au (Sj T0 (aT (au (EO lh kh ?_))))
 simp only[own,m9,if_false];change aL _ _ (ite ((cu d==gm)=true) _ _) _ _ s;rw[bp Qb];refine au (aT (au (J5 aU pe ?_)));rw[bp (by simp)];refine au (aT (au (Ď aU pe ?_)));rw[bp (by simp)];refine aT ?_;simp only[show¬((i:Int)<0)from by omega,if_false,kQ,y2 ak];refine au ?_
 first
 |refine au (Si T0 (aT ?_))
 |refine au (Sj T0 (aT ?_))
 change aL _ _ (A9 (.ref it) 0 gm >>=_) _ _ s;refine au (wd lh kh (by simp) ?_);change aL _ _ (newExc (.type "StopIteration") [] >>=_) _ _ _;refine au ?_;simp only[newExc,newTuple];refine au (m7 ?_ (by size_fits));refine au (m:=Nx _ _) (yS (a:=gm) (by first|rfl|(simp only[Nx];rfl)) (m7 ?_ (by size_fits)));have og:A.in1.handled=none:=dr;simp only[raiseNew];refine au (wpAny_handled ?_);rw[og];refine au (aT (wpAny_throw ?_));refine au (J7 (b:=true) (T:="StopIteration") ⟨_,fM _ rfl,rfl⟩ anw ?_);exact aT (d8 _ (La (La (Lb (oQ ..)) _) _))
theorem Uv{Q:cc}(hs:(d==me)=false)(hd:pX s.heap d es ep)(d8:Q (.ref s.heap.objs.size) {s with heap:=s.heap.push {cls:=.type "dict_keyiterator",data:=.fields #[.ref d,.int 0 0,.int es.size 0,.int ep 0]}}):aL (aX prog w) A (AR (.ref d)) Q E s:=by
 obtain⟨o,aU,av,pe⟩:=hd;have T0:s.TypeIs (.ref d) "dict":=⟨o,aU,av.1⟩
 refine Sg T0 F.slot_dict_iter (nS F.slot_dict_iter T0 F.entry_dict_iter ?_ (F.args_dict_iter_1 _));unfold Builtin.«dict.__iter__» aq6;refine au (au (aqB T0 ?_));change aL _ _ (pure (cu d)) _ _ s;refine aT ?_;change aL _ _ (ş d >>=_) _ _ s;unfold ş;rw[bp (by rw[hs];exact fU)];refine au (aT (au (J5 aU pe (au (Ď aU pe ?_)))));refine au (m7 ?_);refine aT ⟨_,rfl,"dict_keyiterator",_,⟨_,fM _ rfl,rfl⟩,F.slot_dict_keyiterator_next.lookup,?_⟩;simpa[jE]using d8
noncomputable def sg{κ:Type}[DecidableEq κ](kvs:List (κ×V))(k:κ):List (κ×V):=kvs.filter λp=>decide (p.1≠k)
theorem ī{κ β:Type}[DecidableEq κ]{k:κ}:∀{l:List (κ×β)}{j:Nat}{v:β},(l.map (·.1)).Nodup->l[j]?=some (k,v)->l.eraseIdx j=l.filter λp=>decide (p.1≠k)
 |[],j,v,_,h=>by simp at h
 |p::r,0,v,aI,h=>by simp only[Lm,LQ]at h;subst h;rw[hE,iE]at aI;rw[List.eraseIdx_zero,List.tail_cons,p3];rw[bp (by simp)];symm;rw[F7];intro q a8;have i3:q.1≠k:=λz=>aI.1 (b7.mpr ⟨q,a8,z⟩);exact cT i3
 |p::r,j+1,v,aI,h=>by
  rw[hE,iE]at aI;have h':r[j]?=some (k,v):=by simpa using h
  rw[List.eraseIdx_cons_succ,p3,ī aI.2 h'];have i3:p.1≠k:=λz=>aI.1 (by rw[z];exact b7.mpr ⟨_,dV h',rfl⟩);rw[bB (cT i3)]
end
section
variable{prog:cG}{w:bS}{K:Type}[DecidableEq K]{knd:HeapKind prog w K}{A:du}{E:cc}{s:aK}
theorem aac{xs:List (K×Addr×Value)}{k:K}{Q:Option sy->aK->Prop}(b_:knd.room A)(va:knd.is s.heap k a)(hm:s.heap.DictOfH knd d xs)(hz:xs.length<=sizeLine)(HD:(∀(j:Nat)(p:Addr×Value),xs[j]?≠some (k,p))->Q none {s with toks:=s.toks+knd.draws k})(OU:∀(j:Nat)(p:Addr×Value),xs[j]?=some (k,p)->∀h',h'.DictOfH knd d (xs.eraseIdx j)->mn d s.heap h'->Q (some (Nd knd (k,p))) {s with heap:=h',toks:=s.toks+knd.draws k}):
  aL (aX prog w) A (Š d (.ref a)) Q E s:=by
 obtain⟨o,es,ep,aU,aq,hd,he,Ot,aM⟩:=hm;have hsz:es.size=xs.length:=apF he;unfold Š
 try with_reducible refine hA ?_
 refine au (knd.pyHash b_ va (au (wpAny_dictFind_heap (s:={s with toks:=s.toks+knd.draws k}) b_ va aU hd he Ot aM (λh0=>?_) λj p bg=>?_)))
 .exact aT (HD h0)
 .have cz:j<xs.length:=(eb.mp bg).1;have xm:es[j]?=some (Nd knd (k,p)):=by
   have az:es.toList[j]?=some (Nd knd (k,p)):=by rw[he,cx,bg];rfl
   simpa using az
  refine au (J5 (s:={s with toks:=s.toks+knd.draws k}) aU hd ?_);rw[xm];refine au (wpAny_updateDictKeys (hz:=by omega) (s:={s with toks:=s.toks+knd.draws k}) aU hd (aT (OU j p bg _ ⟨_,_,ep+1,kr _ aU (Obj.isFreed_of_dict (adk hd _)),aq.mapDictKeys _,adk hd _,?_,?_,?_⟩ (oQ ..))))
  .have aB:(es.eraseIdxIfInBounds j).toList=es.toList.eraseIdx j:=by obtain⟨l⟩:=es;simp
   rw[aB,he];apply zf;intro i;simp only[List.getElem?_eraseIdx,cx];split<;>rfl
  .intro x av;exact knd.keeps (Ot x (List.mem_of_mem_eraseIdx av)) aU hd (oQ ..)
  .exact List.Nodup.sublist ((List.eraseIdx_sublist xs j).map _) aM
theorem UV{xs:List (K×Addr×Value)}{k:K}{Q:cc}(hs:(d==me)=false)(b_:knd.room A.in1)(va:knd.is s.heap k a)(hm:s.heap.DictOfH knd d xs)(hz:xs.length<=sizeLine)(HD:(∀(j:Nat)(p:Addr×Value),xs[j]?≠some (k,p))->∀t,Q r {s with toks:=t})(OU:∀(j:Nat)(p:Addr×Value),xs[j]?=some (k,p)->∀h' t,h'.DictOfH knd d (xs.eraseIdx j)->mn d s.heap h'->Q p.2 {s with heap:=h',toks:=t}):
  aL (aX prog w) A (call (.builtin "dict.pop") [.ref d,.ref a,r]) Q E s:=by
 obtain⟨o,es,ep,aU,aq,hd,he,Ot,aM⟩:=id hm;have T0:s.TypeIs (.ref d) "dict":=⟨o,aU,aq.1⟩
 refine nS F.slot_dict_pop T0 F.entry_dict_pop ?_ (F.args_dict_pop_3 _ _ _);unfold Builtin.«dict.pop» aq7;refine au (au (aqB T0 ?_));change aL _ _ (pure (d,cu a,some r)) _ _ s;refine aT ?_;dsimp only;rw[bp (by simp[keyPart])];refine au (J5 aU hd (au (aT ?_)));have hsz:es.size=xs.length:=apF he;by_cases Oi:es.isEmpty=true
 .rw[bB Oi];have x0:xs=[]:=by
   have:es.size=0:=by simpa[Array.isEmpty]using Oi
   exact sH.mp (by omega)
  refine au (pS (au (aT ?_)));rw[bB (show(none:Option sy).isNone=true from rfl)];refine au (aqy hs (au (pS (aT ⟨_,rfl,?_⟩))));exact HD (λj p=>by rw[x0];simp) s.toks
 .rw[bp Oi];refine au (aac b_ va hm hz (λh0=>?_) λj p bg h' dd tl=>?_)
  .rw[bB (show(none:Option sy).isNone=true from rfl)];exact au (aqy hs (au (pS (aT ⟨_,rfl,HD h0 _⟩))))
  .rw[bp (by simp)];exact au (pR (aT ⟨_,rfl,OU j p bg h' _ dd tl⟩))
end
section
variable{X:bo}{o e f:Expr}{ek ty lJ:TE}{fq fz:Pos}
noncomputable def ahE(ek ty lJ:TE):TE:=λσ H Q=>ek σ H λx H1=>∃a,x=.ref a/\za H1 a/\ty σ H1 λy ah=>lJ σ ah λz aZ=>∃kvs k b,y=.ref b/\aZ a=some (.d4 kvs)/\aZ b=some (.tup (k.map c9))/\Q ((cy kvs k).getD z) (upd aZ a (.d4 (sg kvs k)))
theorem aeA(b_:X.A.units+1<cLine)(aU:bq X o ek)(he:bq X e ty)(hf:bq X f lJ)(m:M2 X o "pop" fq e f fz):bq X (.Call (.Attribute o "pop" fq) [e,f] [] fz) (ahE ek ty lJ):=by
 intro pins s σ H Q I h;refine Sd m.base m.c6 m.line LZ L0 adX (bD (aU pins s σ H _ I h) λu s1 hz=>?_);obtain⟨x,H1,aR,bt,a,ex,d,bz⟩:=hz;subst ex;obtain rfl:u=cu a:=bt;obtain⟨t1,dU,_⟩:=E8 aR d;refine⟨t1,dU,?_⟩;rw[m.trees];refine Fg rfl (BO (wk (bD (he pins s1 σ H1 _ aR bz) λi4 s2⟨y,ah,bH,bC,cv⟩=>wk (bD (hf pins s2 σ ah _ bH cv) λdq s3⟨z,aZ,cZ,rX,kvs,k,b,da,a4,dx,q⟩=>Fh ?_))));subst da;obtain rfl:i4=cu b:=bC;obtain⟨pT,hs,xs,rel,dd⟩:=W4 cZ.bf a4;have anq:xs.length<=sizeLine:=by rw[<-gW rel];exact pT
 have ot:kvs.map (·.1)=xs.map (·.1):=by
  have:∀{l:List (List bA×V)}{m:List (List bA×Addr×Value)},KT aZ l m->l.map (·.1)=m.map (·.1):=λ{l m}R=>by
   induction R with
   |nil=>rfl
   |cons a t a3=>rw[hE,hE,a3,a.1]
  exact this rel
 have aI:(kvs.map (·.1)).Nodup:=by obtain⟨_,_,_,_,_,_,_,_,aM⟩:=id dd;rw[ot];exact aM
 have pick:∀{l:List (List bA×V)}{m:List (List bA×Addr×Value)}{j:Nat}{q:List bA×Addr×Value},KT aZ l m->m[j]?=some q->∃p,l[j]?=some p/\p.1=q.1/\RelV p.2 q.2.2:=λ{l m j q}R=>by
  induction R generalizing j with
  |nil=>intro h;simp at h
  |cons a t a3=>
   cases j with
   |zero=>intro h;simp at h;subst h;exact⟨_,rfl,a.1,a.2.2⟩
   |succ j=>intro h;simp at h;simpa using a3 h
 refine UV (knd:=Ba (hI X.prog X.w)) hs (ED b_) (yk cZ.bf dx) dd anq (λh0 t=>?_) λj p bg h' t j_ tl=>?_
 .have v0:cy kvs k=none:=by
   have r0:=KT.val rel k;rw[atKey_none_of_get h0]at r0;cases ev:cy kvs k with
   |none=>rfl
   |some v=>rw[ev]at r0;exact r0.elim
  have D4:sg kvs k=kvs:=by
   unfold sg;rw[F7];intro p aN;have:(kvs.any λbZ=>decide (bZ.1=k))=false:=by rw[pk,v0];rfl
   have i3:p.1≠k:=λz=>by rw[abP]at this;exact this p aN (cT z)
   exact cT i3
  rw[v0,D4]at q;have cD:upd aZ a (.d4 kvs)=aZ:=by
   funext c;by_cases aq:c=a
   .rw[aq,aQ,a4]
   .rw[aD aq]
  rw[cD]at q;exact⟨z,aZ,cZ.tok t,rX,q⟩
 .obtain⟨hx,OL,eU,avB⟩:=pick rel bg;have aM:(xs.map (·.1)).Nodup:=ot▸aI;have b3:=KT.val rel k;rw[atKey_of_get aM bg]at b3;obtain⟨v1,ev,cf⟩:∃v1,cy kvs k=some v1/\RelV v1 p.2:=by
   cases ev:cy kvs k with
   |none=>rw[ev]at b3;exact b3.elim
   |some v1=>rw[ev]at b3;exact⟨v1,rfl,b3⟩
  have ep:sg kvs k=kvs.eraseIdx j:=(ī aI (v:=hx.2) (by rw[OL,show hx=(k,hx.2)from wN eU rfl])).symm;rw[ev,ep]at q;have fh:∀{l:List (List bA×V)}{m:List (List bA×Addr×Value)}(j:Nat),KT aZ l m->KT aZ (l.eraseIdx j) (m.eraseIdx j):=λ{l m}j R=>by
   induction R generalizing j with
   |nil=>exact .nil
   |cons a t a3=>
    cases j with
    |zero=>exact t
    |succ j=>exact .cons a (a3 j)
  obtain⟨ob,es,rp,ag,ai,bK,c8,_,dX⟩:=j_;refine⟨v1,_,x_ (t':=t) (ob:=.d4 (kvs.eraseIdx j)) cZ (by rw[a4];exact lW) tl ⟨ob,ag⟩ ⟨?_,hs,xs.eraseIdx j,bO.gL (fh j rel) λp q w=>⟨w.1,?_,w.2.2⟩,ob,es,rp,ag,ai,bK,c8,dX⟩,cf,q⟩
  .exact eP (List.length_eraseIdx_le ..) pT
  .have gF:=w.2.1;rw[aD (λy=>by rw[y,a4]at gF;cases gF)];exact gF
noncomputable def ahF(ek ty lJ:TE):TE:=λσ H Q=>ek σ H λx H1=>∃a,x=.ref a/\za H1 a/\ty σ H1 λy ah=>lJ σ ah λz aZ=>∃kvs k,y=c9 k/\aZ a=some (.bN kvs)/\kvs.length<sizeLine/\
 (∀v,cy kvs k=some v->Q v aZ)/\(cy kvs k=none->Q z (upd aZ a (.bN (eN kvs k z))))
theorem aeB(aU:bq X o ek)(he:bq X e ty)(hf:bq X f lJ)(m:M2 X o "setdefault" fq e f fz):bq X (.Call (.Attribute o "setdefault" fq) [e,f] [] fz) (ahF ek ty lJ):=by
 intro pins s σ H Q I h;refine Sd m.base m.c6 m.line LZ adU PySem.F.type_dict_setdefault (bD (aU pins s σ H _ I h) λu s1 hz=>?_);obtain⟨x,H1,aR,bt,a,ex,d,bz⟩:=hz;subst ex;obtain rfl:u=cu a:=bt;obtain⟨t1,dU,_⟩:=E8 aR d;refine⟨t1,dU,?_⟩;rw[m.trees];refine Fg rfl (BO (wk (bD (he pins s1 σ H1 _ aR bz) λi4 s2⟨y,ah,bH,bC,cv⟩=>wk (bD (hf pins s2 σ ah _ bH cv) λdq s3⟨z,aZ,cZ,rX,kvs,k,da,a4,lk,q,gs⟩=>Fh ?_))));subst da;obtain⟨pT,hs,vs,rel,dd⟩:=yP cZ.bf a4;have hz:vs.length<=sizeLine:=by rw[<-rel.length];exact pT
 have r0:=rel.val k;refine CV adU dd.typeIs PySem.F.entry_dict_setdefault (PySem.F.args_dict_setdefault_3 _ _ _) (kt_meets_setdefault (hI X.prog X.w) a (qN bC) hs dq) ⟨vs,dd,hz,λv bj=>?_,λaM h' j_ tl=>?_⟩
 .rw[bj]at r0;cases ev:cy kvs k with
  |none=>rw[ev]at r0;exact r0.elim
  |some v1=>
   rw[ev]at r0;exact⟨v1,aZ,cZ.tok _,r0,q v1 ev⟩
 .have v0:cy kvs k=none:=by
   rw[aM]at r0;cases ev:cy kvs k with
   |none=>rfl
   |some v=>rw[ev]at r0;exact r0.elim
  have aw:(eN kvs k z).length<=sizeLine:=by have:=H7 kvs k z;omega
  have Oh:∃q,h'.get? a=some q:=let⟨q,_,_,a8,_⟩:=j_;⟨q,a8⟩
  exact⟨z,_,x_ (ob:=.bN (eN kvs k z)) cZ (by rw[a4];exact lW) tl Oh (EK aw hs (rel.put k rX) j_),rX,gs v0⟩
end
section
variable{prog:cG}{w:bS}{A:du}{E:cc}{s:aK}{d:Addr}{ep:Nat}{es:Array sy}
theorem pX.lt{h:Heap}(x:pX h d es ep):d<h.objs.size:=let⟨_,aU,_⟩:=x;c5 aU
theorem pX.at'{h h':Heap}(x:pX h d es ep)(k:∀o,h.get? d=some o->h'.get? d=some o):pX h' d es ep:=let⟨o,aU,r⟩:=x;⟨o,k o aU,r⟩
theorem aal(dr:A.handled=none)(I:Addr)(i3:d≠I):sS prog w A I [I,d] [I] es.size (λi v=>∃e,es[i]?=some e/\v=e.key) (λi h=>h.IsKeyIter I d i es.size ep/\pX h d es ep)where
 sub:=λb aa=>by simp at aa;simp[aa]
 frame:=λ_ _ _ st aP=>⟨st.1.at λo e=>aP I (by simp) o e,st.2.at' λo e=>aP d (by simp) o e⟩
 item:=λi s Q E ak st d8=>by refine Wt st.1 st.2 ak λh' eR b4=>d8 _ h' s.toks ⟨es[i],by simp[ak],rfl⟩ ⟨eR,st.2.at' λo e=>(b4.2 d i3).trans e⟩ λb o aa e=>(b4.2 b (λz=>aa (by simp[z]))).trans e
 done:=λs Q E st d8=>Uu dr st.1 st.2 (bU _) λh' dx=>d8 h' s.toks λb o aa e=>dx b o (λz=>aa (by simp[z])) e
 self:=λ_ _ _ _ st d8=>wpAny_pyIter_keyiter st.1 d8
theorem aeC(lo:(d==me)=false):KdlSrc prog w "dict" d d es.size (λi v=>∃e,es[i]?=some e/\v=e.key) (λh=>pX h d es ep)where
 type:=λ_ hm=>let⟨o,aU,av,_⟩:=hm;⟨o,aU,av.1⟩
 there:=λ_ hm=>⟨hm.lt,hm.lt⟩
 keep:=λ_ _ hm aP=>hm.at' λo e=>aP d (.inl rfl) o e
 notList:=by decide
 notTuple:=by decide
 hint:=λ_ _ _ _ hm a8=>kdl_hint_dict (let⟨o,aU,av,_⟩:=hm;⟨o,aU,av.1⟩) a8
 iter:=λ_ s dr hm=>⟨_,_,(λ_ _ a8=>Uv lo hm a8),aal dr _ (dR hm.lt),⟨⟨_,fM _ rfl,rfl,rfl⟩,hm.at' λo e=>dm _ e⟩⟩
theorem aam{vs:c7}{κ:zM}{lt:hG}{Q:cc}(lo:(d==me)=false)(dr:A.handled=none)(hm:pX s.heap d es ep)(bj:vs=es.toList.map (·.key))(rt:vs.length<64)(aP:2<=vs.length->∀s1:aK,nN s.heap s1.heap->∀Q:zM->aK->Prop,Q κ s1->aL (aX prog w) A.in1.in1 (Ph vs.toArray) Q (λ_ _=>False) s1)(aF:2<=vs.length->∀s1:aK,nN s.heap s1.heap->∀i j C,i<vs.length->j<vs.length->C (lt i j) s1->DG prog w A.in1.in1 κ vs i j C s1)(h:∀ag D h' t c,nN s.heap ag->ag.objs.size<=D->nN ag h'->h'.get? D=some (iv "list" (zj (ia gm lt vs)) c)->Q (.ref D) {s with heap:=h',toks:=t}):
  aL (aX prog w) A (call (.builtin "sorted") ([.ref d]:c7)) Q E s:=by
 have big:vs.length<=sizeLine:=by rw[tR];omega
 have Oj:es.size=vs.length:=by rw[bj,bk,nU]
 refine S4 Z0 Ã Yo (XP (.ref d)) ?_;unfold Builtin.«sorted»;refine au (m:=X0 "sorted" 1 1 _) (aT ?_);refine au (kdu_collect (A:=A.in1) (aeC (ep:=ep) (es:=es) lo) dr hm (by rw[Oj];exact big) λag a5 acc e4 qx=>?_);have a4:acc.toList=vs:=by
  apply zf;intro j;rw[bj,cx];by_cases bg:j<es.size
  .have Dq:j<acc.size:=by rw[qx.1];exact bg
   obtain⟨e,az,aB⟩:=qx.2 j acc[j] (by simp[Dq]);rw[sr,sr,az,y1 Dq];exact ht some aB
  .rw[sr,sr,y2 (by rw[qx.1];omega),y2 (by omega)];rfl
 rw[a4];refine au (Sf ?_ big);have bl:(ag.push (iv "list" vs.toArray 0)).get? ag.objs.size=some (iv "list" vs.toArray 0):=fM _ rfl;have jF:nN s.heap (ag.push (iv "list" vs.toArray 0)):=λb o q=>dm _ (e4 b o q);have oL:∀h',ub ag.objs.size (ag.push (iv "list" vs.toArray 0)) h'->nN s.heap h':=λh' x b o q=>x b o (dR (c5 (e4 b o q))) (jF b o q);have oM:∀h',ub ag.objs.size (ag.push (iv "list" vs.toArray 0)) h'->nN ag h':=λh' x b o q=>x b o (dR (c5 q)) (dm _ q);refine au (hA (nS â ⟨_,bl,rfl⟩ Yn ?_ (XO _)));refine KC (s:={s with heap:=ag.push (iv "list" vs.toArray 0),toks:=a5}) (κ:=κ) (lt:=lt) bl rt (λai s1 x=>aP ai s1 (oL _ x)) (λai s1 x=>aF ai s1 (oL _ x)) λh' c x aq=>?_;exact⟨_,rfl,aT ⟨_,rfl,h ag _ h' _ c e4 (bU _) (oM _ x) aq⟩⟩
end
section
variable{prog:cG}{w:bS}{A:du}{E:cc}{s:aK}
theorem afD{hu iN hS i5:Int}{Q:cc}(av:wx s.heap a #[.int hu t1,.int iN dU])(cM:wx s.heap b #[.int hS iz,.int i5 iA])(b_:A.units<cLine)(h:Q (.bool (if hu=hS then decide (iN<=i5)else decide (hu<=hS))) s):aL (aX prog w) A (gA .LtE (.ref a) (.ref b)) Q E s:=by
 obtain⟨tJ,ti,Oa,na,xG⟩:=av;obtain⟨ob,oi,Ob,nb,jx⟩:=cM;have mD:s.TypeIs (.ref a) "tuple":=⟨tJ,ti,Oa⟩
 have qc:s.TypeIs (.ref b) "tuple":=⟨ob,oi,Ob⟩
 show aL _ _ (I3 .LtE (.ref a) (.ref b)) _ _ _;refine aqF (op:=.LtE) mD qc F.slot_tuple_le (nS F.slot_tuple_le mD F.entry_tuple_le ?_ (F.args_tuple_le_2 _ _)) b_;show aL _ _ (vi (.ref b) (.type "tuple") >>=_) _ _ s;refine au (J7 qc anx ?_);simp only[BJ,m9,if_false];refine au (Sh ti xG ?_);refine au (Sh oi jx ?_);refine au ?_;simp only[acb,acd,abV,abW];refine au (au (J6 ?_));by_cases az:hu=hS
 .rw[bB az]at h;have e5:(hu==hS)=true:=by simp[az]
  rw[e5];simp only[BJ,m9,if_false];refine aT (au (au (J6 ?_)));by_cases aB:iN=i5
  .have eT:(iN==i5)=true:=by simp[aB]
   rw[eT];simp only[BJ,m9,if_false];refine aT (aT ?_);refine aT ⟨_,rfl,(λz=>nomatch z),?_⟩;rw[cT (by omega)]at h;exact h
  .have eT:(iN==i5)=false:=by simp[aB]
   rw[eT];simp only[Kz,if_true];refine au (pS (au ?_));show aL _ _ (gA .LtE (iF iN dU) (iF i5 iA)) _ _ _;exact le_int (au (aT (aT (aT (aT ⟨_,rfl,(λz=>nomatch z),h⟩)))))
 .rw[bp az]at h;have e5:(hu==hS)=false:=by simp[az]
  rw[e5];simp only[Kz,if_true];refine au (pS (au ?_));show aL _ _ (gA .LtE (iF hu t1) (iF hS iz)) _ _ _;exact le_int (au (aT (aT (aT (aT ⟨_,rfl,(λz=>nomatch z),h⟩)))))
end
section
variable{X:bo}
theorem ahG(b_:X.A.units<cLine):fO X (gA .LtE) (λx y H Q=>∃a b hu iN hS i5,x=.ref a/\y=.ref b/\bI X.K H a [.int hu,.int iN]/\bI X.K H b [.int hS,.int i5]/\Q (.aA (if hu=hS then decide (iN<=i5)else decide (hu<=hS))) H):=by
 intro pins s σ H x y v u Q I bt bC h;obtain⟨a,b,hu,iN,hS,i5,rfl,rfl,aF,aa,q⟩:=h;cases bt;cases bC;obtain⟨xs,b3,t1,_⟩:=I.tuple aF;obtain⟨ys,dh,dU,_⟩:=I.tuple aa;cases b3 with
 |cons dz b3=>
  cases b3 with
  |cons d_ b3=>
   cases b3;cases dh with
   |cons bz dh=>
    cases dh with
    |cons cv dh=>
     cases dh;obtain⟨_,rfl⟩:=dz;obtain⟨_,rfl⟩:=d_;obtain⟨_,rfl⟩:=bz;obtain⟨_,rfl⟩:=cv;exact afD t1 dU b_ (fY I q rfl)
end
end cH
namespace df
open PySem ar cH di
noncomputable abbrev eO:=Int×Nat
abbrev j7:= List (eO×List Nat)
noncomputable def qS:di.gJ:=⟨0,0,0,0⟩
noncomputable def oG(hs:bF)(ds:ck)(r:Nat):Str:=S (hs.getD (ds.getD r qS).a [])
noncomputable def q2(hs:bF)(ds:ck)(r:Nat):Str:=S (hs.getD (ds.getD r qS).b [])
noncomputable def tN(ds:ck)(r:Nat):Int:=(ds.getD r qS).t
noncomputable def md(ds:ck)(r:Nat):Int:=(ds.getD r qS).m
noncomputable def stepK(hs:bF)(ds:ck)(k:eO):Step:=⟨k.1,some k.2,q2 hs ds k.2,k.1+tN ds k.2⟩
noncomputable def jz(st:Step)(ns:dN)(ay:eK):List (List Step):=ay.mapIdx λi ss=>if i∈ns then ss++[st]else ss
theorem qt(st:Step)(ns:dN)(ay:eK):(jz st ns ay).length=ay.length:=by unfold jz;rw[List.length_mapIdx]
theorem pb(st:Step)(ns:dN)(ay:eK)(i:Nat):(jz st ns ay)[i]?=(ay[i]?).map λss=>if i∈ns then ss++[st]else ss:=by unfold jz;rw[List.getElem?_mapIdx]
theorem Ĭ(st:Step)(ay:eK):jz st [] ay=ay:=by apply zf;intro i;rw[pb];simp
theorem Ę(st:Step){ns:dN}{n:Nat}(h:n∉ns){ay:eK}{ss:List Step}(e:ay[n]?=some ss):jz st (ns++[n]) ay=(jz st ns ay).set n (ss++[st]):=by
 apply zf;intro i;rw[pb,List.getElem?_set,pb,qt];by_cases ak:n=i
 .subst ak;have aw:=(eb.mp e).1;rw[bB rfl,bB aw,e];simp
 .rw[bp ak];have:(i∈ns++[n])↔i∈ns:=by rw[hl,g5];exact⟨λz=>z.elim id λw=>bx w.symm ak,.inl⟩
  simp only[this]
noncomputable def mask(H:ae)(ts:cj):ae:=λb=>if b∈ts then none else H b
theorem kc{H:ae}{ts:cj}{b:Addr}(e:H b=some o)(n:b∉ts):mask H ts b=some o:=by unfold mask;rw[bp n];exact e
theorem yb{ts:cj}{b:Addr}(h:b∈ts):mask H ts b=none:=bB h
theorem Az(H:ae)(ts:cj):aH (mask H ts) H:=λb o e=>by
 unfold mask at e;split at e
 .cases e
 .exact e
noncomputable def i7(H:ae)(a:Addr)(b:eO×List Nat):Prop:=∃c,H a=some (.tup [.int b.1.1,.int b.1.2,.ref c])/\H c=some (.tup (b.2.map λn:Nat=>V.int n))
theorem i7.same{b:eO×List Nat}(h:i7 H a b)(ax:aH H H'):i7 H' a b:=let⟨c,ag,ai⟩:=h;⟨c,ax _ _ ag,ax _ _ ai⟩
structure yV(C:Addr)(H:ae)(x n g st:Addr)(bT:cb)(ls:cj):Prop where
 ins:∃af,H x=some (.ins C af (EU n g st))
 goals:H g=some (.lst (bT.map V.str))
 steps:H st=some (.lst (aG ls))
theorem yV.same{st:Addr}(h:yV C H x n g st bT ls)(ax:aH H H'):yV C H' x n g st bT ls:=
 let⟨af,e⟩:=h.ins;⟨⟨af,ax _ _ e⟩,ax _ _ h.goals,ax _ _ h.steps⟩
theorem yV.at_{st:Addr}(h:yV C H x n g st bT ls)(e:bO (g7 H) ls ay):WalkAt C H x n g st bT ls ay:=⟨h.ins,h.goals,h.steps,e⟩
theorem g7.same{ss:List Step}(h:g7 H l ss)(ax:aH H H'):g7 H' l ss:=let⟨ts,a,b⟩:=h;⟨ts,ax _ _ a,b.same ax⟩
theorem IX(h:bO (g7 H) ls ay)(ax:aH H H'):bO (g7 H') ls ay:=bO.gL h λ_ _ e=>e.same ax
theorem WalkAt.same{st:Addr}(h:WalkAt C H x n g st bT ls ay)(ax:aH H H'):WalkAt C H' x n g st bT ls ay:=
 let⟨af,e⟩:=h.ins;⟨⟨af,ax _ _ e⟩,ax _ _ h.goals,ax _ _ h.steps,IX h.each ax⟩
theorem Tz{qU:List Step}(new:g7 H' l qU)(old:∀pv ss,pv≠l->g7 H pv ss->g7 H' pv ss):∀{ls:cj}{ay:eK}{n:Nat},bO (g7 H) ls ay->ls.Nodup->ls[n]?=some l->bO (g7 H') ls (ay.set n qU)
 |_,_,n,.nil,_,e=>by simp at e
 |a::ls,s0::ay,0,.cons r t,aI,e=>by
  simp only[Lm,LQ]at e;subst e;rw[iE]at aI;refine .cons new ?_;have:∀{ms:cj}{yB:eK},bO (g7 H) ms yB->a∉ms->bO (g7 H') ms yB:=λ{ms yB}p=>by
   induction p with
   |nil=>exactλ_=>.nil
   |cons r t a3=>exactλh=>.cons (old _ _ (λz=>h (by rw[z];exact .head _)) r) (a3 λz=>h (.tail _ z))
  exact this t aI.1
 |a::ls,s0::ay,n+1,.cons r t,aI,e=>by
  rw[iE]at aI;have bJ:ls[n]?=some l:=by simpa using e
  exact .cons (old _ _ (λz=>aI.1 (by rw[z];exact dV bJ)) r) (Tz new old t aI.2 bJ)
section
variable{P:cG}{w:bS}{K:aY}{mg:cw}{base:Heap}
inductive KD(C:Addr)(vs:aW)(H:ae)(Q:a')(el:bX):Prop where
 |mk (x bL br:Addr) (xs ys:aW) (k:Int) (v:ar.V) (bM:vs=[.ref x,.int k]) (bu:i6 C H x bL br xs ys) (bW:0<=k) (cW:k<ys.length) (dD:ar.gn ys k=some v) (eS:Q v H)
theorem aem(F:cC K "road" "Net.road" yn f fd)(B:fk mg)(fW:ua K C):aS P w K mg base bh 1 f fd dg (KD C):=by
 refine F.ok UZ (λ_ A _ s H vs Q E ao h=>?_)
 .obtain⟨x,bL,br,xs,ys,k,v,rfl,n,h0,ag,bj,q⟩:=h;obtain⟨af,av⟩:=n.ins;refine⟨_,(a_ (dQ (g9 (vz kG nH aV (U 1) (dj fQ (by rfl) B.len fG (aj (ed (U 0) (by rfl)) aE)))) (bb I_) dW)
   (bb (cp (bG e3 (ed (U 0) (by rfl)) (U 1) (λ_ _=>rfl))))),?_⟩
  refine⟨_,rfl,_,_,rfl,rfl,_,rfl,?_⟩;refine eQ (cT h0) ⟨_,rfl,x,C,af,_,_,rfl,av,fW.cl,fW.jD,rfl,br,_,rfl,.inl (aC.of n.rV),_,_,rfl,rfl,_,rfl,?_⟩;refine yN ag ?_;exact⟨_,rfl,x,C,af,_,_,rfl,av,fW.cl,fW.jD,rfl,_,rfl,br,_,_,_,rfl,rfl,aC.of n.rV,bj,q⟩
inductive KZ(C aO:Addr)(vs:aW)(H:ae)(Q:a')(el:bX):Prop where
 |mk (a7:ae) (x n g st bL br dS:Addr) (bT:cb) (ls rs:cj) (ay:eK) (hs:bF) (ds:ck) (b:eO×List Nat) (bM:vs=[.ref x,.ref dS]) (bu:aH a7 H) (bW:yV C a7 x n g st bT ls) (cW:bO (g7 H) ls ay) (dD:ls.Nodup) (eS:(∀l∈ls,a7 l=none)) (hB:i6 aO a7 n bL br (de hs) (aG rs)) (lN:hr a7 hs rs ds) (nT:i7 a7 dS b) (sh:b.1.2<ds.length) (we:b.2.Nodup) (E5:(∀i∈b.2,i<ay.length)) (Ĥ:(∀ss∈ay,ss.length<=100)) (aq5:∀H',aH a7 H'->bO (g7 H') ls (jz (stepK hs ds b.1) b.2 ay)->Q .bc H')
noncomputable abbrev BU:Stmt:=fT (top 27) 2
theorem K0:c3 ["self","bag","road","number"] wJ (cn BU):={}
theorem afw(F:cC K "send" "Walk.send" BU f fd)(c0:pC K C)(gz:eh K aO)(lZ:cS K aO "road" "Net.road" yn dg f1 dJ)(DO:aS P w K mg base bh 1 f1 dJ dg (KD aO)):
  aS P w K mg base bh 2 f fd wJ (KZ C aO):=by
 refine F.ok K0 (λ_ A _ s H vs Q E ao h=>?_)
 .obtain⟨a7,x,n,g,st,bL,br,dS,bT,ls,rs,ay,hs,ds,b,rfl,b4,W,each,aI,fr,N,R,mT,l4,DT,cz,c6,q⟩:=h;obtain⟨af,av⟩:=W.ins;obtain⟨h6,aM⟩:=N.ins;obtain⟨c,hP,fS⟩:=mT;have fb:=R.len;refine⟨_,(a_ (dI (i:=2) K0.aI rfl (cR rfl) (fx (ed (U 0) (by rfl)) gz lZ.d1 DO ao.mono lZ.bd .nil cm (aj (bG c1 (U 1) aV (λ_ _=>rfl)) aE)))
   (bb (jR j6 rfl (EH (bG c1 (U 1) aV (λ_ _=>rfl))) (eu (i:=3) K0.aI rfl (cR rfl))
    (bb (gK (tQ uv wU wV tr (bG e3 (ed (U 0) (by rfl)) (U 3) (λ_ _=>rfl)) (aj (kF (aj (bG c1 (U 1) aV (λ_ _=>rfl)) (aj (bG c1 (U 1) aV (λ_ _=>rfl)) (aj (bG c1 (U 2) aV (λ_ _=>rfl)) (aj (cq i1 (bG c1 (U 1) aV (λ_ _=>rfl)) (bG c1 (U 2) aV (λ_ _=>rfl))) aE))))) aE))))))),?_⟩
  obtain⟨r,fh⟩:∃r,rs[b.1.2]?=some r:=⟨_,cF (by omega)⟩
  obtain⟨d,dp,_,hd⟩:=R.get fh;have cD:ds.getD b.1.2 qS=d:=lx dp;refine⟨_,rfl,x,C,af,_,_,rfl,b4 _ _ av,c0.cl,c0.nn,rfl,n,h6,_,rfl,b4 _ _ aM,rfl,_,rfl,dS,_,_,_,rfl,rfl,bI.of (b4 _ _ hP),rfl,n,bL,br,_,_,_,_,rfl,N.same b4,(by omega),(by have:=d6 rs;omega),(il (by unfold aG;rw[cx,fh];rfl)),?_⟩;refine⟨_,rfl,dS,_,_,_,rfl,rfl,bI.of (b4 _ _ hP),rfl,c,rfl,?_⟩;refine⟨⟨_,bI.of (b4 _ _ fS)⟩,?_⟩;have C2:m4 hs d=[.str (oG hs ds b.1.2),.str (q2 hs ds b.1.2),.int (tN ds b.1.2),.int (md ds b.1.2)]:=by unfold m4 oG q2 tN md;rw[cD]
  rw[C2]at hd;refine Kc (K:=K) (a:=c) (xs:=b.2.map λn:Nat=>V.int n) (λj σ dG=>∃lK,σ=[some (.ref x),some (.ref dS),some (.ref r),lK]/\aH a7 dG/\bO (g7 dG) ls (jz (stepK hs ds b.1) (b.2.take j) ay))
   ⟨none,rfl,b4,by rw[Ga,Ĭ];exact each⟩ (λj σ dG _⟨_,_,h,_⟩=>bI.of (h _ _ fS)) ?_ ?_
  .rintro j z σ dG ee ⟨lK,rfl,g0,dy⟩;rw[cx]at ee;obtain⟨i,d7,rfl⟩:=e0.mp ee;have ak:=cz i (dV d7);obtain⟨ss,es⟩:∃ss,ay[i]?=some ss:=⟨_,cF ak⟩
   have DV:i∉b.2.take j:=λz=>by
    have bg:=(eb.mp d7).1;have aB:=Lz j b.2;rw[F5 bg]at aB;rw[<-aB,F9]at DT;have cX:b.2[j]=i:=by rw[cF bg]at d7;exact gV d7
    exact DT.2.2 i z i (by rw[cX];exact .head _) rfl
   have ga:(jz (stepK hs ds b.1) (b.2.take j) ay)[i]?=some ss:=by rw[pb,es];simp[DV]
   have ln:=gW dy;obtain⟨l,gQ⟩:∃l,ls[i]?=some l:=⟨_,cF (by rw[qt]at ln;omega)⟩
   obtain⟨ç,s6,ts,aw,bV⟩:=bO.get dy gQ;rw[ga]at s6;cases s6;have N1:=bI.of (K:=K) (g0 _ _ hP);have z':=bI.of (K:=K) (g0 _ _ hd);have dA:=bV.len;rw[bk]at dA;have fs:=c6 ss (dV es);have ft:(aG ts).length<sizeLine:=fF (by rw[d6];omega);refine⟨_,rfl,x,C,af,_,_,rfl,g0 _ _ av,c0.cl,c0.ns,rfl,_,rfl,st,_,_,_,rfl,rfl,aC.of (g0 _ _ W.steps),(show ar.gn (aG ls) (i:Int)=some (.ref l)from il (by unfold aG;rw[cx,gQ];rfl)),.inl ⟨rfl,_,aC.of aw⟩,?_⟩;refine⟨_,rfl,dS,_,_,_,rfl,rfl,N1,rfl,_,rfl,dS,_,_,_,rfl,rfl,N1,rfl,_,rfl,r,_,_,_,rfl,rfl,z',rfl,_,rfl,dS,_,_,_,rfl,rfl,N1,rfl,_,rfl,r,_,_,_,rfl,rfl,z',rfl,_,_,rfl,rfl,(by show 4<=sizeLine;decide),λt eB=>?_⟩;have Ep:=b8 (o:=.tup [V.int b.1.1,V.int b.1.2,V.str (q2 hs ds b.1.2),V.int (b.1.1+tN ds b.1.2)]) eB;have iK:=Ep _ _ aw;refine⟨l,_,_,rfl,rfl,iK,ft,_,rfl,?_,?_⟩
   .exact k7 (fr l (dV gQ)) (g0.trans Ep)
   .have a5:b.2.take (j+1)=b.2.take j++[i]:=by rw[oT,d7];rfl
    rw[a5,Ę _ DV es];refine Tz ?_ (λpv qU nl h=>?_) dy aI gQ
    .refine⟨ts++[t],by rw[aQ];unfold aG;rw[fm];rfl,?_⟩;rw[fm];refine Paired.snoc ?_ ((bV.same Ep).upd iK (by intro d z;cases z));show upd _ l _ t=some (.tup (r3 (stepK hs ds b.1)));rw[aD (cA aw eB).symm,aQ];rfl
    .obtain⟨oF,ag,ai⟩:=h;exact⟨oF,by rw[aD nl];exact Ep _ _ ag,(ai.same Ep).upd iK (by intro d z;cases z)⟩
  .rintro σ dG ⟨lK,rfl,g0,dy⟩;refine q dG g0 ?_;rw[bk,oU]at dy;exact dy
noncomputable abbrev FE:Stmt:=fT (top 27) 3
theorem ahH:c3 dg dg (cn FE):={}
theorem afx(F:cC K "goal" "Walk.goal" FE f fd)(c0:pC K C):aS P w K mg base bh 1 f fd dg (Wq C):=by
 refine F.ok ahH (λ_ A _ s H vs Q E ao h=>?_)
 .obtain⟨x,n,g,st,bT,ls,ay,k,y,rfl,W,da,q⟩:=h;obtain⟨af,av⟩:=W.ins;refine⟨_,(bb (cp (bG e3 (ed (U 0) (by rfl)) (U 1) (λ_ _=>rfl)))),?_⟩;exact⟨_,rfl,x,C,af,_,_,rfl,av,c0.cl,c0.hi,rfl,_,rfl,g,_,_,_,rfl,rfl,aC.of W.goals,il (by rw[cx,da];rfl),q⟩
theorem Uw{wi:TI}{b6:TE}{rest:ar.St}{H1:ae}{Q:a'}{J:fe}{xs:aW}(hw:∀R:fe->ae->Prop,R J H1->wi σ H R)(gd:hc cs σ=none::rest)(b2:mF J H1 xs)(aw:xs.length<sizeLine)(F:Nat->ar.V->ae->Prop)(st:∀i v ah aZ,aH ah aZ->F i v ah->F i v aZ)(sl:∀i v ah D ys zs,ah D=some (.lst ys)->F i v ah->F i v (upd ah D (.lst zs)))(elt:∀(i:Nat)(x:ar.V)(ah:ae)(R:a'),xs[i]?=some x->aH H1 ah->(∀v ba,aH ah ba->F i v ba->R v ba)->b6 (some x::rest) ah R)(fin:∀(D:Addr)(H':ae)(vs:aW),H1 D=none->H' D=some (.lst vs)->vs.length=xs.length->(∀i v,vs[i]?=some v->F i v H')->aH H1 H'->Q (.ref D) H'):mf wi cs (ha 0) q0 b6 σ H Q:=by
 refine hw _ λD bl=>?_;refine⟨λi m ys a9 H'=>m=xs.length-i/\i<=xs.length/\(ys.length=i/\∀j v,ys[j]?=some v->F j v H')/\(∃o,a9=o::rest)/\aH H1 H'/\H' D=some (.lst ys),⟨xs.length,by simp,eZ _,⟨rfl,λj v e=>by simp at e⟩,⟨none,by rw[gd]⟩,λb o e=>?_,aQ⟩,?_⟩
 .rw[aD (cA e bl)];exact e
 .rintro i m ys a9 H' ⟨rfl,ak,⟨y0,cM⟩,⟨o,rfl⟩,ax,eM⟩;obtain⟨gF,g4,gv⟩:=b2 H' ax;refine⟨eM,oZ (by omega) aw,?_⟩;by_cases cz:i<xs.length
  .refine .inr ⟨g4 i cz,λx ah y=>?_⟩;obtain⟨rfl,ex⟩:=gv i x ah cz y;show b6 (some x::rest) ah _;refine elt i x ah _ ex ax λv ba s5 bj=>⟨s5 _ _ eM,xs.length-(i+1),by omega,rfl,cz,⟨by rw[hD,y0];rfl,λj u e=>?_⟩,⟨_,rfl⟩,λb ob e=>?_,aQ⟩
   .refine sl j u ba D ys _ (s5 _ _ eM) ?_;by_cases bg:j<ys.length
    .rw[wA bg]at e;exact st j u _ _ s5 (cM j u e)
    .rw[sE (by omega)]at e;have dy:j=i:=by
      by_cases hz:j-ys.length=0
      .omega
      .rw[wB (by simp;omega)]at e;cases e
     subst dy;rw[y0,Gb]at e;cases e;exact bj
   .rw[aD (cA e bl)];exact s5 _ _ (ax _ _ e)
  .have e:i=xs.length:=by omega
   subst e;exact .inl ⟨gF,fin D H' ys bl eM y0 cM ax⟩
end
end df
namespace di
noncomputable def kM(c:Int):Int:=c*1099087573%10000000000037
noncomputable def nO(n:Nat)(c:Int):Int:=kM c%n
noncomputable def rI(n:Nat)(c:Int):Int:=(nO n c+1+kM c/n%((n:Int)-1))%n
noncomputable def tW(c:Int):Int:=if kM c/27000%5=0 then 1+kM c/135000%10 ^ 9 else 1+kM c/9000%3
noncomputable def H_(n:Nat)(c:Int):gJ:=⟨(nO n c).toNat,(rI n c).toNat,1+kM c/1000%9,tW c⟩
theorem ahI{n:Nat}(h:1<n)(c:Int):(H_ n c).Ok n:=by
 have e5:0<=nO n c:=lQ _ (by omega);have eT:nO n c<n:=p1 _ (by omega);have az:0<=rI n c:=lQ _ (by omega);have aB:rI n c<n:=p1 _ (by omega);have hK:0<=kM c/n%((n:Int)-1):=lQ _ (by omega);have kA:kM c/n%((n:Int)-1)<(n:Int)-1:=p1 _ (by omega);have ne:nO n c≠rI n c:=by
  intro z;have cX:rI n c=(nO n c+1+kM c/n%((n:Int)-1))%n:=rfl;generalize kM c/n%((n:Int)-1)=x at hK kA cX;by_cases cz:nO n c+1+x<n
  .rw[Ug (by omega) cz]at cX;omega
  .have dX:(nO n c+1+x)%(n:Int)=(nO n c+1+x-n)%(n:Int):=by rw[Int.sub_emod_right]
   rw[dX,Ug (by omega) (by omega)]at cX;omega
 have t1:0<=kM c/1000%9:=lQ _ (by decide);have dU:kM c/1000%9<9:=p1 _ (by decide);have m:1<=tW c/\tW c<=1000000000:=by
  unfold tW;split
  .have aoY:(10:Int) ^ 9=1000000000:=by decide
   rw[aoY];omega
  .omega
 exact⟨by show(nO n c).toNat < n;omega,by show(rI n c).toNat < n;omega,by show(nO n c).toNat≠(rI n c).toNat;omega,by show 1<=1+_/\1+_<=9;omega,m⟩
end di
namespace df
open PySem ar cH di
inductive W7(vs:aW)(H:ae)(Q:a')(el:bX):Prop where
 |mk (c:Int) (a:Addr) (hs:bF) (bM:vs=[.int c,.ref a]) (bu:H a=some (.lst (de hs))) (bW:2<=hs.length) (cW:hs.length<=12) (dD:∀r,H r=none->Q (.ref r) (upd H r (.tup (m4 hs (H_ hs.length c)))))
theorem Ux{t:e'}{D:Ends}(P:Ends->Prop)(ag:P D)(ai:∀cQ,P cQ->t cQ σ H):t D σ H:=ai D ag
section
variable{P:cG}{w:bS}{K:aY}{mg:cw}{base:Heap}
noncomputable abbrev Gw:Stmt:=top 58
noncomputable abbrev aj2:List Str:=["_law_cell","_law_names","_law_n","_law_many","_law_first","_law_last","_law_room"]
theorem yW:c3 aj2 wG (cn Gw):={}
theorem ahJ(F:cC K "_law_road" "_law_road" Gw f fd)(B:fk mg):aS P w K mg base bh 1 f fd wG W7:=by
 refine F.ok yW (λ_ A _ s H vs Q E ao h=>?_)
 .obtain⟨c,a,hs,rfl,aF,ai,xC,q⟩:=h;refine⟨_,(a_ (dI (i:=2) yW.aI rfl (cR rfl) (cq g_ (cq vO (U 0) aV) aV))
   (a_ (dI (i:=3) yW.aI rfl (cR rfl) (dj fQ (by rfl) B.len fG (aj (U 1) aE)))
   (a_ (dI (i:=4) yW.aI rfl (cR rfl) (cq g_ (U 2) (U 3)))
   (a_ (dI (i:=5) yW.aI rfl (cR rfl) (cq g_ (cq i1 (cq i1 (U 4) aV) (cq g_ (cq jO (U 2) (U 3)) (cq rL (U 3) aV))) (U 3)))
   (a_ (dI (i:=6) yW.aI rfl (cR rfl) (cq i1 aV (cq g_ (cq jO (U 2) aV) aV)))
   (a_ (dQ (ej jW (cq g_ (cq jO (U 2) aV) aV) aV (dB _)) (bb (dI (i:=6) yW.aI rfl (cR rfl) (cq i1 aV (cq g_ (cq jO (U 2) aV) (cq Vy aV aV))))) dW)
   (bb (cp (kF (aj (bG e3 (U 1) (U 4) (λ_ _=>rfl)) (aj (bG e3 (U 1) (U 5) (λ_ _=>rfl)) (aj (cq i1 aV (cq g_ (cq jO (U 2) aV) aV)) (aj (U 6) aE))))))))))))),?_⟩
  have aw:=JV hs;have e5:0<=nO hs.length c:=lQ _ (by omega);have eT:nO hs.length c<hs.length:=p1 _ (by omega);have az:0<=rI hs.length c:=lQ _ (by omega);have aB:rI hs.length c<hs.length:=p1 _ (by omega);refine⟨_,rfl,_,_,rfl,rfl,.inr ⟨by decide,by decide⟩,_,_,rfl,rfl,(by show(0:Int)<10000000000037;decide),?_⟩;refine⟨_,rfl,a,_,rfl,.inl (aC.of aF),?_⟩;rw[aw];refine⟨_,rfl,_,rfl,_,_,rfl,rfl,(by show(0:Int)<(hs.length:Int);omega),?_⟩;refine⟨_,rfl,_,_,rfl,rfl,_,rfl,_,rfl,_,_,rfl,rfl,⟨by show(0:Int)<(hs.length:Int);omega,by show(hs.length:Int)<1073741824;omega⟩,_,rfl,_,_,rfl,rfl,_,_,rfl,rfl,(by show(0:Int)<(hs.length:Int)-1;omega),_,_,rfl,rfl,_,rfl,_,_,rfl,rfl,(by show(0:Int)<(hs.length:Int);omega),?_⟩;refine⟨_,rfl,_,_,rfl,rfl,⟨by decide,by decide⟩,_,_,rfl,rfl,(by show(0:Int)<3;decide),_,_,rfl,rfl,?_⟩;dsimp only[ha,iQ];refine Ux (t:=sb _ _ _) (λcQ=>cQ.b1 [some (.int c),some (.ref a),some (.int (kM c)),some (.int hs.length),some (.int (nO hs.length c)),some (.int (rI hs.length c)),some (.int (tW c))] H) ?_ λcQ rest=>?_
  .refine⟨_,rfl,_,rfl,a,_,_,_,rfl,rfl,aC.of aF,VB e5 eT,_,rfl,_,rfl,a,_,_,_,rfl,rfl,aC.of aF,VB az aB,_,rfl,_,_,rfl,rfl,⟨by decide,by decide⟩,_,_,rfl,rfl,(by show(0:Int)<9;decide),_,_,rfl,rfl,_,rfl,(by show 4<=sizeLine;decide),q⟩
  .refine⟨_,rfl,_,_,rfl,rfl,⟨by decide,by decide⟩,_,_,rfl,rfl,(by show(0:Int)<5;decide),rfl,_,rfl,?_⟩;by_cases dX:kM c/27000%5=0
   .refine eQ (by show decide (V.int (kM c/27000%5)=V.int 0)=true;rw[dX];decide) ?_;refine⟨_,rfl,_,_,rfl,rfl,⟨by decide,by decide⟩,_,_,rfl,rfl,⟨by decide,by decide,by decide⟩,_,_,rfl,rfl,(by show(0:Int)<10 ^ (9:Int).toNat;decide),_,_,rfl,rfl,?_⟩;have qq:tW c=1+kM c/135000%10 ^ (9:Int).toNat:=by unfold tW;rw[bB dX];rfl
    rw[qq]at rest;exact rest
   .refine dw (by show decide (V.int (kM c/27000%5)=V.int 0)=false;exact dn λz=>dX (V.int.inj z)) ?_;have qq:tW c=1+kM c/9000%3:=by unfold tW;rw[bp dX]
    rw[qq]at rest;exact rest
theorem JR(i j:Int):decide (V.int i=V.int j)=decide (i=j):=by
 by_cases h:i=j
 .rw[cT h,cT (ht V.int h)]
 .rw[dn h,dn λz=>h (V.int.inj z)]
noncomputable def aj3(n:Int):PyData->Bool
 |.tuple ds=>decide ((ds.length:Int)=n)
 |_=>false
inductive TA(vs:aW)(H:ae)(Q:a')(el:bX):Prop where
 |mk (v:ar.V) (d:PyData) (bM:vs=[v]) (bu:dH H v d) (bW:Q (.aA (adE d)) H)
inductive ĭ(vs:aW)(H:ae)(Q:a')(el:bX):Prop where
 |mk (v:ar.V) (d:PyData) (lo ak:Int) (bM:vs=[v,.int lo,.int ak]) (bu:dH H v d) (bW:Q (.aA (Em lo ak d)) H)
inductive TB(vs:aW)(H:ae)(Q:a')(el:bX):Prop where
 |mk (v:ar.V) (d:PyData) (n:Int) (bM:vs=[v,.int n]) (bu:dH H v d) (bW:Q (.aA (aj3 n d)) H)
inductive RQ(vs:aW)(H:ae)(Q:a')(el:bX):Prop where
 |mk (a:Addr) (hs:gx) (v u:ar.V) (d e:PyData) (bM:vs=[.ref a,v,u]) (bu:dH H (.ref a) (.list hs)) (bW:dH H v d) (cW:dH H u e) (dD:d.depth<=60) (eS:e.depth<=60) (hB:Q (.aA (hJ hs d e)) H)
theorem RR{ds:gx}{d:PyData}(h:d∈ds):d.depth<=wQ ds:=by
 induction ds with
 |nil=>cases h
 |cons x r a3=>
  simp only[wQ];rcases dv.mp h with rfl|h
  .exact Nat.le_max_left _ _
  .exact eP (a3 h) (Nat.le_max_right _ _)
theorem acj(F:cC K "is_whole" "is_whole" yl f fd)(B:fk mg):aS P w K mg base bh 1 f fd hY TA:=by
 refine F.ok UU (λ_ A _ s H vs Q E ao h=>?_)
 .obtain⟨v,d,rfl,h,q⟩:=h;refine⟨_,(bb (cp (hM (dj oc (by rfl) B.isinstance jJ (aj (U 0) (aj (nC (by rfl) B.int E9) aE))) (l5 (Vv (dj oc (by rfl) B.isinstance jJ (aj (U 0) (aj (nC (by rfl) B.bool UP) aE)))))))),?_⟩;refine⟨_,rfl,_,_,_,_,_,rfl,⟨rfl,h.ty,FK K (agV d)⟩,_,rfl,?_⟩;cases d with
  |int i=>exact gD ⟨_,rfl,_,_,_,_,_,rfl,⟨rfl,h.ty,FK K (US _)⟩,_,rfl,q⟩
  |bool b=>exact gD ⟨_,rfl,_,_,_,_,_,rfl,⟨rfl,h.ty,FK K (US _)⟩,_,rfl,q⟩
  |_=>exact fI q
theorem aaR(F:cC K "is_whole_within" "is_whole_within" AS f fd)(h3:cY K mg "is_whole" yl hY Nk Nr)(rr:aS P w K mg base bh 1 Nk Nr hY TA):aS P w K mg base bh 2 f fd sM ĭ:=by
 refine F.ok Ta (λ_ A _ s H vs Q E ao h=>?_)
 .obtain⟨v,d,lo,ak,rfl,h,q⟩:=h;refine⟨_,(bb (cp (hM (ec rr ao.mono (by rfl) h3.at_ h3.fn.cI h3.bd .nil cm (aj (U 0) aE)) (l5 (Sa kG kG (U 1) (U 0) (U 2)))))),?_⟩;refine⟨_,rfl,v,d,rfl,h,_,rfl,?_⟩;cases h with
  |int i=>
   have q:Q (.aA (decide (lo<=i)&&decide (i<=ak))) H:=q;refine gD ⟨_,rfl,_,rfl,_,_,rfl,rfl,_,rfl,?_⟩;by_cases ag:lo<=i
   .rw[cT ag,BK]at q;exact eQ (cT ag) ⟨_,rfl,_,_,rfl,rfl,q⟩
   .rw[dn ag,Ky]at q;exact dw (dn ag) q
  |_=>exact fI q
theorem ack(F:cC K "is_tuple_of" "is_tuple_of" ym f fd)(B:fk mg):aS P w K mg base bh 1 f fd p4 TB:=by
 refine F.ok UW (λ_ A _ s H vs Q E ao h=>?_)
 .obtain⟨v,d,n,rfl,h,q⟩:=h;refine⟨_,(bb (cp (hM (dj oc (by rfl) B.isinstance jJ (aj (U 0) (aj (nC (by rfl) B.tuple AI) aE))) (l5 (ke jW (dj fQ (by rfl) B.len fG (aj (U 0) aE)) (U 1) (dB _)))))),?_⟩;refine⟨_,rfl,_,_,_,_,_,rfl,⟨rfl,h.ty,FK K (adD d)⟩,_,rfl,?_⟩;cases h with
  |@tup a xs ds aF z t=>
   refine gD ⟨_,rfl,a,_,rfl,.inr (bI.of aF),_,rfl,rfl,?_⟩;show Q (.aA (decide (V.int (xs.length:Int)=V.int n))) H;rw[JR,t.len];exact q
  |_=>exact fI q
theorem aaS(F:cC K "are_unlike_houses" "are_unlike_houses" ya f fd):aS P w K mg base bh 1 f fd p5 RQ:=by
 refine F.ok Tw (λ_ A _ s H vs Q E ao h=>?_)
 .obtain⟨a,hs,v,u,d,e,rfl,aF,bj,b_,dd,M4,q⟩:=h;refine⟨_,(bb (cp (hM (ke (VN (Xq ao)) (U 1) (U 0) (by rfl)) (hM (ke (VN (Xq ao)) (U 2) (U 0) (by rfl)) (l5 (ke (Bo ao.units) (U 1) (U 2) (dB _))))))),?_⟩;have h5:p8 hs=true:=aF.h5;have dO:n3 d=true:=tu bj.h5 dd (by decide);have cP:n3 e=true:=tu b_.h5 M4 (by decide);have q:Q (.aA (inD d hs&&inD e hs&&!hn d e)) H:=q;refine⟨_,rfl,_,rfl,d,hs,bj.nu,aF.nu,dO,h5,_,rfl,?_⟩;show if inD d hs=true then _ else _
  cases ag:inD d hs with
  |false=>
   rw[ag]at q;exact fI q
  |true=>
   rw[ag]at q;refine gD ⟨_,rfl,_,rfl,e,hs,b_.nu,aF.nu,cP,h5,_,rfl,?_⟩;show if inD e hs=true then _ else _
   cases ai:inD e hs with
   |false=>
    rw[ai]at q;exact fI q
   |true=>
    rw[ai]at q;exact gD ⟨_,rfl,_,rfl,d,e,bj.nu,b_.nu,dO,cP,q⟩
theorem aaT{ys:cb}{x:Str}(h:x∉ys):rC (.str x) (ys.map V.str)=false:=by unfold rC;rw[Kx];intro z;obtain⟨v,bj,e⟩:=q8.mp z;obtain⟨y,cM,rfl⟩:=b7.mp bj;have bJ:(y==x)=true:=e;exact h (eq_of_beq bJ▸cM)
theorem AV{α:Type}{l:List α}{i:Nat}{d x:α}(h:l[i]?=some x):l.getD i d=x:=by rw[eF,h];rfl
inductive Wj(C R:Addr)(vs:aW)(H:ae)(Q:a')(E:bX):Prop where
 |mk (x bL br:Addr) (hs:bF) (zs:aW) (h:Str) (bM:vs=[.ref x,.str h]) (bu:i6 C H x bL br (de hs) zs) (bW:(h∈hs.map S->Q .bc H)) (cW:(h∉hs.map S->E (.ref R) none H))
noncomputable abbrev FF:Stmt:=fT (top 48) 7
theorem ahK:c3 ni ni (cn FF):={}
theorem afy(F:cC K "need_house" "Net.need_house" FF f fd)(fW:ua K C)(QG:y7 Ks gY vh bm)(Ar:Exc K mg "NoHouse" R bm gY):
  aS P w K mg base (f9 P w) 1 f fd ni (Wj C R):=by
 refine pE F ahK (λ_ A _ s H vs Q E ao h=>?_)
 .obtain⟨x,bL,br,hs,zs,h',rfl,n,q,hU⟩:=h;obtain⟨af,av⟩:=n.ins;refine⟨_,(bb (dQ (ej Ö (U 1) (ed (U 0) (by rfl)) (by rfl)) (bb (Jm QG Ar rfl (aj g8 aE))) dW)),?_⟩;have aw:aC K H bL ((hs.map S).map V.str):=by rw[<-Kg];exact aC.of n.ry
  refine⟨_,rfl,_,rfl,x,C,af,_,_,rfl,av,fW.cl,fW.vJ,rfl,bL,_,rfl,.inl aw,rfl,RI _,_,rfl,?_⟩;by_cases hm:h'∈hs.map S
  .exact dw (by rw[Kk hm];rfl) (q hm)
  .exact eQ (by rw[aaT hm];rfl) ⟨by show 1<=sizeLine;decide,hU hm⟩
theorem acm{α β:Type}(xs:List α)(q:Nat->Bool)(g:Nat->β):(xs.zipIdx.filter λz=>q z.2).map (λz=>g z.2)=((dK xs.length).filter q).map g:=by
 have e:xs.zipIdx.map (·.2)=dK xs.length:=by rw[List.zipIdx_map_snd,List.range_eq_range']
 rw[<-e,zg,gU];rfl
noncomputable def e6:di.gJ:=⟨0,0,0,0⟩
noncomputable def EW(hs:bF)(ds:ck)(yh:di.gJ->Nat)(h:Str):List Nat:=(dK ds.length).filter λi=>decide (V.str (S (hs.getD (yh (ds.getD i e6)) []))=V.str h)
noncomputable def ja(hs:bF)(ds:ck)(yh:di.gJ->Nat)(h:Str):List Int:=(EW hs ds yh h).map λi:Nat=>(i:Int)
theorem Į(hs:bF)(ds:ck)(yh:di.gJ->Nat)(h:Str):(ja hs ds yh h).length<=ds.length:=by unfold ja EW;rw[bk];exact eP (nf _ _) (by rw[iD];exact bU _)
inductive L5(C R:Addr)(yh:di.gJ->Nat)(vs:aW)(H:ae)(Q:a')(E:bX):Prop where
 |mk (x bL br:Addr) (hs:bF) (rs:cj) (ds:ck) (h:Str) (bM:vs=[.ref x,.str h]) (bu:i6 C H x bL br (de hs) (aG rs)) (bW:hr H hs rs ds) (cW:rs.length<=40) (dD:(h∈hs.map S->∀(p:Addr)(H':ae),H p=none->aH H H'->H' p=some (.lst ((ja hs ds yh h).map V.int))->Q (.ref p) H')) (eS:(h∉hs.map S->E (.ref R) none H))
noncomputable abbrev CB:Stmt:=fT (top 48) 4
theorem aiI:c3 ni ni (cn CB):={}
theorem ahL{fn:Addr}(F:cC K "out_of" "Net.out_of" CB f fd)(B:fk mg)(fW:ua K C)(xe:cS K C "need_house" "Net.need_house" FF ni fn alq)(O_:aS P w K mg base (f9 P w) 1 fn alq ni (Wj C R)):
  aS P w K mg base (f9 P w) 2 f fd ni (L5 C R (·.a)):=by
 have gz:=fW.cl;refine pE F aiI (λ_ A _ s H vs Q E ao h=>?_)
 .obtain⟨x,bL,br,hs,rs,ds,h',rfl,n,cK,c6,q,hU⟩:=h;obtain⟨af,av⟩:=n.ins;refine⟨_,(a_ (gK (fx (U 0) gz xe.d1 O_ ao.mono xe.bd .nil rF (aj (U 1) aE)))
   (bb (cp (rQ (N':=["number","road","house"]) (cs:=[none,none,some 1]) rfl (JU rfl B.enumerate (aj (ed (U 0) (by rfl)) aE)) rfl (by decide+kernel) rfl (by decide+kernel) (ju (kv.mpr ⟨rfl,(λp aN=>bx aN (eo))⟩)) rfl
    (.own (.own (.jk rfl (.inl rfl) (.inl rfl) rfl .nil)))
    (λC s3 aZ bR eC=>⟨(Kf (K:=K) (n:=2) rfl rfl (mQ (eu (i:=0) (by show(["number","road","house"]:cb).Nodup;decide+kernel) rfl (.inl rfl)) (mQ (eu (i:=1) (by show(["number","road","house"]:cb).Nodup;decide+kernel) rfl (.inl rfl)) x'))),(A0 (ej jW (bG (tw (K:=K) rfl) (U 1) aV (λ_ _=>rfl)) (U 2) (dB _))),(U 0)⟩))))),?_⟩
  have aw:=d6 rs;have u9:=cK.len;refine⟨_,rfl,x,af,_,rfl,av,rfl,_,rfl,x,bL,br,hs,_,h',rfl,n,λhm=>?_,hU⟩;refine⟨_,rfl,x,C,af,_,_,rfl,av,fW.cl,fW.jD,rfl,br,rfl,⟨_,aC.of n.rV⟩,?_⟩;refine afs (rest:=[some (.str h')]) rfl (aC.of n.rV) (fF (by omega)) (λi _=>decide (V.str (S (hs.getD (ds.getD i e6).a []))=V.str h')) (λi _=>.int i) (λi v ah R ev ax qv=>?_) (λi v ah R ev _ ax qv=>⟨_,rfl,qv ah (aH.refl _)⟩) (λD H' ag ai bK=>q hm D H' ag bK ?_)
  .unfold aG at ev;rw[cx]at ev;obtain⟨r,fh,rfl⟩:=e0.mp ev;obtain⟨d,dp,ok,hd⟩:=cK.get fh;have cD:ds.getD i e6=d:=AV dp;rw[cD]at qv;exact⟨_,rfl,r,_,_,_,rfl,rfl,bI.of (ax _ _ hd),rfl,_,rfl,rfl,_,rfl,qv ah (aH.refl _)⟩
  .rw[ai,acm (aG rs) (λi=>decide (V.str (S (hs.getD (ds.getD i e6).a []))=V.str h')) (λi=>V.int i),aw,u9];unfold ja;rw[gU];rfl
noncomputable abbrev en:=List (List bA×ar.V)
noncomputable def f7(h g:Str):List bA:=[.inr h,.inr g]
noncomputable def rO(n t:Addr):List (Str×ar.V):=[("net",.ref n),("told",.ref t)]
structure qE(C aO:Addr)(H:ae)(x n t bL br:Addr)(xs ys:aW)(kvs:en):Prop where
 ins:∃af,H x=some (.ins C af (rO n t))
 ie:i6 aO H n bL br xs ys
 told:H t=some (.d4 kvs)
theorem qE.same{t:Addr}{kvs:en}(W:qE C aO H x n t bL br xs ys kvs)(ax:aH H H'):qE C aO H' x n t bL br xs ys kvs:=
 let⟨af,h⟩:=W.ins
 ⟨⟨af,ax _ _ h⟩,W.ie.same ax,ax _ _ W.told⟩
end
structure vZ(K:aY)(C:Addr):Prop where
 cl:eh K C
 nn:cJ K (.ref C) "net"=some none
 eB:cJ K (.ref C) "told"=some none
inductive Xt(C:Addr)(vs:aW)(H:ae)(Q:a')(el:bX):Prop where
 |mk (x af:Addr) (v:ar.V) (bM:vs=[.ref x,v]) (bu:H x=some (.ins C af [])) (bW:∀t,H t=none->Q .bc (upd (upd H t (.d4 [])) x (.ins C af [("net",v),("told",.ref t)])))
inductive Gx(C aO gP:Addr)(vs:aW)(H:ae)(Q:a')(E:bX):Prop where
 |mk (x n t bL br:Addr) (hs:bF) (ys:aW) (kvs:en) (v u:ar.V) (d e:PyData) (bM:vs=[.ref x,v,u]) (bu:qE C aO H x n t bL br (de hs) ys kvs) (bW:Good hs) (cW:dH H v d) (dD:dH H u e) (eS:d.depth<=60) (hB:e.depth<=60) (lN:(hJ (bl hs) d e=true->∀H',aH H H'->Q .bc H')) (nT:(hJ (bl hs) d e=false->∀H',aH H H'->E (.ref gP) none H'))
inductive My(C aO gP jg:Addr)(vs:aW)(H:ae)(Q:a')(E:bX):Prop where
 |mk (x n t bL br:Addr) (hs:bF) (rs:cj) (ds:ck) (kvs:en) (h g:Str) (i:Int) (bM:vs=[.ref x,.str h,.str g,.int i]) (bu:qE C aO H x n t bL br (de hs) (aG rs) kvs) (bW:Good hs) (cW:hr H hs rs ds) (dD:rs.length<=40) (eS:dH H (.str h) (.str h)) (hB:dH H (.str g) (.str g)) (lN:kvs.length<sizeLine) (nT:(hJ (bl hs) (.str h) (.str g)=true->i∈ja hs ds (·.a) h->∀H',aH H H'->Q .bc (upd H' t (.d4 (eN kvs (f7 h g) (.int i)))))) (sh:(hJ (bl hs) (.str h) (.str g)=false->∀H',aH H H'->E (.ref gP) none H')) (we:(hJ (bl hs) (.str h) (.str g)=true->i∉ja hs ds (·.a) h->∀H',aH H H'->E (.ref jg) none H'))
theorem abE(ys:fp):(ys.map V.int).all rP=true:=by rw[ze];intro x av;obtain⟨y,_,rfl⟩:=b7.mp av;rfl
theorem afz{ys:fp}{x:Int}(h:x∈ys):rC (.int x) (ys.map V.int)=true:=by unfold rC;rw[q8];exact⟨.int x,b7.mpr ⟨x,h,rfl⟩,by show(x==x)=true;exact beq_self_eq_true x⟩
theorem aaU{ys:fp}{x:Int}(h:x∉ys):rC (.int x) (ys.map V.int)=false:=by unfold rC;rw[Kx];intro z;obtain⟨v,bj,e⟩:=q8.mp z;obtain⟨y,cM,rfl⟩:=b7.mp bj;have bJ:(y==x)=true:=e;exact h (eq_of_beq bJ▸cM)
theorem aaV{hs:bF}{h g:Str}(c:hJ (bl hs) (.str h) (.str g)=true):h∈hs.map S/\g∈hs.map S:=by unfold hJ at c;simp only[iB]at c;exact⟨ŵ λn=>by rw[Fb n]at c;exact fU c.1.1,ŵ λn=>by rw[Fb n]at c;exact fU c.1.2⟩
section
variable{P:cG}{w:bS}{K:aY}{mg:cw}{base:Heap}
noncomputable abbrev Jp:Stmt:=fT (top 50) 0
theorem aj4:c3 zw zw (cn Jp):={}
theorem aih(F:cC K "__init__" "Ways.__init__" Jp f fd)(c0:vZ K C):aS P w K mg base bh 1 f fd zw (Xt C):=by
 refine F.ok aj4 (λ_ A _ s H vs Q E ao h=>?_)
 .obtain⟨x,af,v,rfl,av,q⟩:=h;refine⟨_,(a_ (jt (U 0) (U 1) rfl)
   (bb (jt (U 0) Tr rfl))),?_⟩
  refine⟨_,rfl,_,rfl,x,C,af,_,rfl,av,c0.cl,c0.nn,(by show 0<1000;decide),?_⟩;intro t eB;have Ρ:t≠x:=λe=>by rw[e,aQ]at eB;cases eB
  rw[aD Ρ]at eB;refine⟨_,rfl,x,C,af,_,rfl,(by rw[aD (c2 Ρ)];exact aQ),c0.cl,c0.eB,(by show 1<1000;decide),?_⟩;have az:upd (upd (upd H x (.ins C af [("net",v)])) t (.d4 [])) x (.ins C af [("net",v),("told",.ref t)])=upd (upd H t (.d4 [])) x (.ins C af [("net",v),("told",.ref t)]):=by
   funext b;by_cases aa:b=x
   .rw[aa,aQ,aQ]
   .rw[aD aa,aD aa];by_cases aq:b=t
    .rw[aq,aQ,aQ]
    .rw[aD aq,aD aq,aD aa]
  show Q .bc (upd (upd (upd H x (.ins C af [("net",v)])) t (.d4 [])) x (.ins C af [("net",v),("told",.ref t)]));rw[az];exact q t eB
noncomputable abbrev A8:Stmt:=fT (top 50) 6
theorem aj5:c3 gk gk (cn A8):={}
theorem aii(F:cC K "need_pair" "Ways.need_pair" A8 f fd)(c0:vZ K C)(gz:eh K aO)(QG:y7 Ks gY vh bm)(Ar:Exc K mg "NoHouse" gP bm gY)(kZ:cS K aO "houses" "Net.houses" AJ eA f1 dJ)(rn:aS P w K mg base bh 1 f1 dJ eA (I0 aO))(j8:cY K mg "are_unlike_houses" ya p5 f2 eV)(xb:aS P w K mg base bh 1 f2 eV p5 RQ):
  aS P w K mg base (f9 P w) 2 f fd gk (Gx C aO gP):=by
 refine pE F aj5 (λ_ A _ s H vs Q E ao h=>?_)
 .obtain⟨x,n,t,bL,br,hs,ys,kvs,v,u,d,e,rfl,W,G,bj,b_,dd,M4,q,hU⟩:=h;obtain⟨af,av⟩:=W.ins;refine⟨_,(bb (dQ (g9 (ip (ec xb ao.mono (by rfl) j8.at_ j8.fn.cI j8.bd .nil cm (aj (k8 (ed (U 0) (by rfl)) gz kZ.d1 rn ao.mono kZ.bd .nil cm) (aj (U 1) (aj (U 2) aE)))))) (bb (Jm QG Ar rfl (aj g8 aE))) dW)),?_⟩;obtain⟨h6,aM⟩:=W.ie.ins;refine⟨_,rfl,x,C,af,_,_,rfl,av,c0.cl,c0.nn,rfl,n,h6,_,rfl,aM,rfl,n,bL,br,_,_,rfl,W.ie,λl nl=>?_⟩;have sl:=b8 (o:=.lst (de hs)) nl;refine⟨_,rfl,_,rfl,l,bl hs,v,u,d,e,rfl,W5 G aQ,bj.same sl,b_.same sl,dd,M4,_,rfl,?_⟩;cases aq:hJ (bl hs) d e with
  |true=>exact q aq _ sl
  |false=>exact⟨by show 1<=sizeLine;decide,hU aq _ sl⟩
noncomputable abbrev Ek:Stmt:=fT (top 50) 1
theorem aj6:c3 nh nh (cn Ek):={}
theorem aij(F:cC K "set_way" "Ways.set_way" Ek f fd)(c0:vZ K C)(gz:eh K aO)(RP:y7 Ks gY vh bm)(Ay:Exc K mg "NoRoad" jg bm gY)(qp:cS K aO "out_of" "Net.out_of" CB ni f1 dJ)(As:aS P w K mg base (f9 P w) 2 f1 dJ ni (L5 aO gP (·.a)))(mH:cS K C "need_pair" "Ways.need_pair" A8 gk f2 eV)(sT:aS P w K mg base (f9 P w) 2 f2 eV gk (Gx C aO gP)):
  aS P w K mg base (f9 P w) 3 f fd nh (My C aO gP jg):=by
 have kd:=c0.cl;refine pE F aj6 (λ_ A _ s H vs Q E ao h=>?_)
 .obtain⟨x,n,t,bL,br,hs,rs,ds,kvs,h',g',i,rfl,W,G,cK,c6,bj,b_,Yw,q,hU,apc⟩:=h;obtain⟨af,av⟩:=W.ins;obtain⟨h6,aM⟩:=W.ie.ins;refine⟨_,(a_ (gK (fx (U 0) kd mH.d1 sT ao.mono mH.bd .nil rF (aj (U 1) (aj (U 2) aE))))
   (a_ (dQ (ej Ö (U 3) (fx (ed (U 0) (by rfl)) gz qp.d1 As ao.mono qp.bd .nil rF (aj (U 1) aE)) (by rfl)) (bb (Jm RP Ay rfl (aj g8 aE))) dW)
   (bb (A3 (iO ao) (ed (U 0) (by rfl)) (kF (aj (U 1) (aj (U 2) aE))) (U 3) rfl)))),?_⟩
  refine⟨_,rfl,x,af,_,rfl,av,rfl,_,rfl,_,rfl,x,n,t,bL,br,hs,_,kvs,.str h',.str g',.str h',.str g',rfl,W,G,bj,b_,(by show 0<=60;decide),(by show 0<=60;decide),λaq H1 s1=>?_,hU⟩;have hm:=aaV aq;refine⟨_,rfl,_,rfl,x,C,af,_,_,rfl,s1 _ _ av,c0.cl,c0.nn,rfl,n,h6,_,rfl,s1 _ _ aM,rfl,_,rfl,n,bL,br,hs,rs,ds,h',rfl,W.ie.same s1,cK.same s1,c6,λ_ p ah np s2 aN=>?_,λxI=>bx hm.1 xI⟩;have ih:=s1.trans s2;refine⟨p,_,rfl,.inl (aC.of aN),rfl,abE _,_,rfl,?_⟩;by_cases ak:i∈ja hs ds (·.a) h'
  .refine dw (by rw[afz ak];rfl) ?_;refine⟨_,rfl,_,rfl,x,C,af,_,_,rfl,ih _ _ av,c0.cl,c0.eB,rfl,_,rfl,_,rfl,(by show 2<=sizeLine;decide),λr jD=>?_⟩;have s3:=b8 (o:=.tup [V.str h',V.str g']) jD;exact⟨t,_,rfl,pM.t (k:=f7 h' g') ((ih.trans s3) _ _ W.told) aQ Yw,q aq ak _ (ih.trans s3)⟩
  .refine eQ (by rw[aaU ak];rfl) ⟨by show 1<=sizeLine;decide,apc aq ak _ ih⟩
noncomputable def pD(kvs:en)(h g:Str):Option Nat:=match cy kvs (f7 h g)with|some (.int k)=>some k.toNat|_=>none
structure w1(kvs:en)(m:Nat):Prop where
 val:∀k v,cy kvs k=some v->∃i:Nat,v=.int (i:Int)/\i<m
theorem w1.get{kvs:en}{m:Nat}(t:w1 kvs m)(h g:Str):(cy kvs (f7 h g)=none/\pD kvs h g=none)\/∃i:Nat,cy kvs (f7 h g)=some (.int (i:Int))/\pD kvs h g=some i/\i<m:=by
 cases e:cy kvs (f7 h g)with
 |none=>exact .inl ⟨rfl,by unfold pD;rw[e]⟩
 |some v=>
  obtain⟨i,rfl,ak⟩:=t.val _ _ e;exact .inr ⟨i,rfl,by unfold pD;rw[e];simp,ak⟩
theorem AA{α:Type}[DecidableEq α]:∀{sn L:List α},sn.Nodup->(∀y∈sn,y∈L)->sn.length<=L.length
 |[],_,_,_=>eZ _
 |x::r,L,aI,h=>by have av:=h x (.head _);have a3:=AA (sn:=r) (L:=L.erase x) (iE.mp aI).2 (λy cM=>(List.mem_erase_of_ne (show y≠x fromλe=>(iE.mp aI).1 (by rw[<-e];exact cM))).mpr (h y (.tail _ cM)));rw[List.length_erase_of_mem av]at a3;have:=List.length_pos_of_mem av;rw[lR];omega
theorem ę{α:Type}{l:List α}{x:α}(aI:l.Nodup)(h:x∉l):(l++[x]).Nodup:=by rw[F9];exact⟨aI,iE.mpr ⟨eo,uo⟩,λa aF b aa e=>h (by rw[<-g5.mp aa,<-e];exact aF)⟩
noncomputable abbrev Row:=Str×Str×Int
noncomputable def Bz(rs:List Row):List (List bA×ar.V):=rs.map λr=>([.inr r.1,.inr r.2.1],.int r.2.2)
noncomputable def r0:Row:=(o4,o4,0)
inductive Xi(C aO gP:Addr)(vs:aW)(H:ae)(Q:a')(E:bX):Prop where
 |mk (x n t bL br:Addr) (hs:bF) (ys:aW) (kvs:en) (h g:Str) (bM:vs=[.ref x,.str h,.str g]) (bu:qE C aO H x n t bL br (de hs) ys kvs) (bW:Good hs) (cW:dH H (.str h) (.str h)) (dD:dH H (.str g) (.str g)) (eS:(hJ (bl hs) (.str h) (.str g)=true->∀H',aH H H'->Q ((cy kvs (f7 h g)).getD .bc) H')) (hB:(hJ (bl hs) (.str h) (.str g)=false->∀H',aH H H'->E (.ref gP) none H'))
noncomputable abbrev Jq:Stmt:=fT (top 50) 3
theorem aj7:c3 gk gk (cn Jq):={}
theorem aik(F:cC K "way" "Ways.way" Jq f fd)(c0:vZ K C)(mH:cS K C "need_pair" "Ways.need_pair" A8 gk f2 eV)(sT:aS P w K mg base (f9 P w) 2 f2 eV gk (Gx C aO gP)):
  aS P w K mg base (f9 P w) 3 f fd gk (Xi C aO gP):=by
 have kd:=c0.cl;refine pE F aj7 (λ_ A _ s H vs Q E ao h=>?_)
 .obtain⟨x,n,t,bL,br,hs,ys,kvs,h',g',rfl,W,G,bj,b_,q,hU⟩:=h;obtain⟨af,av⟩:=W.ins;refine⟨_,(a_ (gK (fx (U 0) kd mH.d1 sT ao.mono mH.bd .nil rF (aj (U 1) (aj (U 2) aE))))
   (bb (cp (Tt (iO ao) (ed (U 0) (by rfl)) (kF (aj (U 1) (aj (U 2) aE))) ⟨rfl,rfl,rfl,rfl⟩)))),?_⟩
  refine⟨_,rfl,x,af,_,rfl,av,rfl,_,rfl,_,rfl,x,n,t,bL,br,hs,_,kvs,.str h',.str g',.str h',.str g',rfl,W,G,bj,b_,(by show 0<=60;decide),(by show 0<=60;decide),λaq H1 s1=>?_,hU⟩;refine⟨_,rfl,x,C,af,_,_,rfl,s1 _ _ av,c0.cl,c0.eB,rfl,t,rfl,.inr ⟨_,.inl (s1 _ _ W.told)⟩,_,rfl,_,rfl,(by show 2<=sizeLine;decide),λr jD=>?_⟩;have s3:=b8 (o:=.tup [V.str h',V.str g']) jD;exact⟨_,ir.t (k:=f7 h' g') (s3 _ _ (s1 _ _ W.told)) aQ,q aq _ (s1.trans s3)⟩
end
end df
namespace d3
variable{κ:Type}[DecidableEq κ]
structure hX(κ:Type)where
 a:κ
 b:κ
 t:Int
inductive Path(rs:List (hX κ))(s:κ):κ->Int->Prop
 |nil:Path rs s s 0
 |snoc {v:Int} (e:hX κ):Path rs s e.a v->e∈rs->Path rs s e.b (v+e.t)
theorem Path.cons{rs:List (hX κ)}(e:hX κ)(he:e∈rs){g:κ}{w:Int}(p:Path rs e.b g w):Path rs e.a g (e.t+w):=by
 induction p with
 |nil=>
  have:=Path.snoc e (Path.nil (rs:=rs) (s:=e.a)) he
  rwa [nc,<-Int.add_zero e.t]at this
 |snoc f _ hf a3=>
  rw[<-aa5];exact Path.snoc f a3 hf
theorem Path.first{rs:List (hX κ)}{s g:κ}{w:Int}(p:Path rs s g w):(s=g/\w=0)\/∃e∈rs,∃u,e.a=s/\Path rs e.b g u/\w=e.t+u:=by
 induction p with
 |nil=>exact .inl ⟨rfl,rfl⟩
 |@snoc v f _ hf a3=>
  refine .inr ?_;rcases a3 with⟨rfl,rfl⟩|⟨e,he,u,az,p,rfl⟩
  .exact⟨f,hf,0,rfl,.nil,by omega⟩
  .exact⟨e,he,u+f.t,az,.snoc f p hf,by omega⟩
theorem Path.nonneg{rs:List (hX κ)}(aN:∀e∈rs,1<=e.t){s g:κ}{w:Int}(p:Path rs s g w):0<=w:=by
 induction p with
 |nil=>exact oR _
 |snoc e _ he a3=>have:=aN e he;omega
structure Lj(rs:List (hX κ))(s:κ)(d:κ->Option Int):Prop where
 path:∀k v,d k=some v->Path rs s k v
 least:∀k w,Path rs s k w->∃v,d k=some v/\v<=w
structure oX(rs:List (hX κ))(s:κ)(ns:List κ)(d:κ->Option Int):Prop where
 start:d s=some 0
 path:∀k v,d k=some v->Path rs s k v
 c6:∀k v,d k=some v->v<9*(ns.countP λk=>(d k).isSome)
noncomputable def ok(d:κ->Option Int)(e:hX κ):Prop:=∀v,d e.a=some v->∃u,d e.b=some u/\u<=v+e.t
theorem oX.done{rs:List (hX κ)}{s:κ}{ns:List κ}{d:κ->Option Int}(m:oX rs s ns d)(h:∀e∈rs,ok d e):Lj rs s d:=by
 refine⟨m.path,λk w p=>?_⟩
 induction p with
 |nil=>exact⟨0,m.start,oR _⟩
 |snoc e _ he a3=>
  obtain⟨v,ag,ai⟩:=a3;obtain⟨u,bK,c8⟩:=h e he v ag;exact⟨u,bK,by omega⟩
noncomputable def put(d:κ->Option Int)(b:κ)(v:Int):κ->Option Int:=λk=>if k=b then some v else d k
theorem count_le{p q:κ->Bool}(h:∀k,p k=true->q k=true):∀ns:List κ,ns.countP p<=ns.countP q
 |[]=>by simp
 |k::r=>by have a3:=count_le h r;simp only[abR];have:=h k;split<;>split<;>simp_all<;>omega
theorem MY{p q:κ->Bool}(h:∀k,p k=true->q k=true){b:κ}(ag:p b=false)(ai:q b=true):∀{ns:List κ},b∈ns->ns.countP p<ns.countP q
 |[],z=>by simp at z
 |k::r,z=>by
  simp only[abR];by_cases e:k=b
  .subst e;have:=count_le h r;simp[ag,ai];omega
  .have a3:=MY h ag ai (ns:=r) (by rcases dv.mp z with z|z;exact bx z.symm e;exact z);have:=h k;split<;>split<;>simp_all<;>omega
theorem Wk{f g:κ->Nat}(h:∀k,f k<=g k):∀ns:List κ,(ns.map f).sum<=(ns.map g).sum
 |[]=>by simp
 |k::r=>by have:=Wk h r;have:=h k;simp only[hE,Ly];omega
theorem Wl{f g:κ->Nat}(h:∀k,f k<=g k){b:κ}(ag:f b<g b):∀{ns:List κ},b∈ns->(ns.map f).sum<(ns.map g).sum
 |[],z=>by simp at z
 |k::r,z=>by
  simp only[hE,Ly];by_cases e:k=b
  .subst e;have:=Wk h r;omega
  .have a3:=Wl h ag (ns:=r) (by rcases dv.mp z with z|z;exact bx z.symm e;exact z);have:=h k;omega
noncomputable def val(n:Nat):Option Int->Nat
 |none=>n
 |some v=>v.toNat
noncomputable def b0(ns:List κ)(d:κ->Option Int):Nat:=(ns.map λk=>val (9*ns.length) (d k)).sum
theorem oX.put{rs:List (hX κ)}{s:κ}{ns:List κ}{d:κ->Option Int}(m:oX rs s ns d)(aN:∀e∈rs,1<=e.t/\e.t<=9){e:hX κ}(he:e∈rs)(aa:e.b∈ns){v:Int}(aF:d e.a=some v)(hs:∀u,d e.b=some u->v+e.t<u):
  oX rs s ns (put d e.b (v+e.t))/\b0 ns (d3.put d e.b (v+e.t))<b0 ns d:=by
 have bj:0<=v:=(m.path _ _ aF).nonneg λe he=>(aN e he).1;have dM:=aN e he;have ao8:∀k w,d3.put d e.b (v+e.t) k=some w->Path rs s k w:=λk w h=>by
  unfold d3.put at h;split at h
  .rename_i q;cases h;rw[q];exact .snoc e (m.path _ _ aF) he
  .exact m.path k w h
 have hm:∀k,(d k).isSome=true->(d3.put d e.b (v+e.t) k).isSome=true:=λk h=>by
  unfold d3.put;split
  .rfl
  .exact h
 have c6:∀k w,d3.put d e.b (v+e.t) k=some w->w<9*(ns.countP λk=>(d3.put d e.b (v+e.t) k).isSome):=λk w h=>by
  have hle:=count_le hm ns;by_cases q:k=e.b
  .have h':w=v+e.t:=by unfold d3.put at h;rw[bB q]at h;exact(gV h).symm
   have auT:=m.c6 _ _ aF;cases hd:d e.b with
   |some u=>
    have:=hs u hd;have:=m.c6 _ _ hd;omega
   |none=>
    have cz:ns.countP (λk=>(d k).isSome)<ns.countP λk=>(d3.put d e.b (v+e.t) k).isSome:=MY hm (b:=e.b) (by rw[hd];rfl) (by unfold d3.put;rw[bB rfl];rfl) aa;omega
  .have h':d k=some w:=by
    unfold d3.put at h
    rwa [bp q]at h
   have:=m.c6 k w h';omega
 refine⟨⟨?_,ao8,c6⟩,?_⟩
 .unfold d3.put;split
  .rename_i q;rw[<-q]at hs;have:=hs 0 m.start;omega
  .exact m.start
 .have aq:ns.countP (λk=>(d3.put d e.b (v+e.t) k).isSome)<=ns.length:=abS;have aM:=c6 e.b (v+e.t) (by unfold d3.put;rw[bB rfl]);have lt:val (9*ns.length) (d3.put d e.b (v+e.t) e.b)<val (9*ns.length) (d e.b):=by
   have az:d3.put d e.b (v+e.t) e.b=some (v+e.t):=by unfold d3.put;rw[bB rfl]
   have hz:((v+e.t).toNat:Int)=v+e.t:=ug (by omega);rw[az];cases hd:d e.b with
   |some u=>
    have:=hs u hd;show(v+e.t).toNat < u.toNat
    omega
   |none=>
    show(v+e.t).toNat < 9*ns.length;omega
  refine Wl (λk=>?_) (b:=e.b) lt aa;by_cases q:k=e.b
  .subst q;exact q' lt
  .have aB:d3.put d e.b (v+e.t) k=d k:=by unfold d3.put;rw[bp q]
   rw[aB];exact bU _
theorem oX.begin{rs:List (hX κ)}{s:κ}{ns:List κ}(hs:s∈ns):oX rs s ns (λk=>if k=s then some 0 else none):=by
 refine⟨by simp,λk v h=>?_,λk v h=>?_⟩
 .split at h
  .rename_i q;cases h;rw[q];exact .nil
  .cases h
 .split at h
  .cases h;have:0<ns.countP λk=>((if k=s then some (0:Int)else none).isSome):=abT.mpr ⟨s,hs,by simp⟩;omega
  .cases h
structure GH(rs:List (hX κ))(f:κ->Option Int)(g:κ):Prop where
 path:∀k v,f k=some v->Path rs k g v
 least:∀k w,Path rs k g w->∃v,f k=some v/\v<=w
section
variable{rs:List (hX κ)}{f:κ->Option Int}{g:κ}(F:GH rs f g)(aN:∀e∈rs,1<=e.t)
include F
theorem GH.back{e:hX κ}(he:e∈rs){u:Int}(h:f e.b=some u):∃v,f e.a=some v/\v<=u+e.t:=by obtain⟨v,ag,ai⟩:=F.least _ _ (Path.cons e he (F.path _ _ h));exact⟨v,ag,by omega⟩
include aN in
theorem GH.other{k:κ}{v:Int}(aP:k≠g)(h:f k=some v):1<=v/\∃e∈rs,∃u,e.a=k/\f e.b=some u/\v=u+e.t:=by
 rcases(F.path _ _ h).first with⟨e,_⟩|⟨e,he,u,rfl,p,rfl⟩
 .exact bx e aP
 .have ag:=p.nonneg aN;have ai:=aN e he;obtain⟨u',bK,c8⟩:=F.least _ _ p;obtain⟨t4,dX,jv⟩:=F.back he bK;rw[h]at dX;cases dX;exact⟨by omega,e,he,u',rfl,bK,by omega⟩
end
theorem Path.min{rs:List (hX κ)}(aN:∀e∈rs,1<=e.t){s g:κ}:∀(n:Nat)(w:Int),w.toNat=n->Path rs s g w->∃v,Path rs s g v/\(∀u,Path rs s g u->v<=u):=by
 intro n
 induction n using Nat.strongRecOn with
 |_ n a3=>
  intro w hw p;by_cases h:∃u,Path rs s g u/\u<w
  .obtain⟨u,pu,b_⟩:=h;have ag:=pu.nonneg aN;exact a3 u.toNat (by omega) u rfl pu
  .refine⟨w,p,λu pu=>?_⟩;by_cases q:w<=u
   .exact q
   .exact bx ⟨u,pu,by omega⟩ h
open Classical in
noncomputable def dist(rs:List (hX κ))(s g:κ):Option Int:=if h:∃v,Path rs s g v/\∀u,Path rs s g u->v<=u then some (Ŷ h)else none
theorem akP{rs:List (hX κ)}{s:κ}{d:κ->Option Int}(L:Lj rs s d)(g:κ):d g=dist rs s g:=by
 unfold dist;cases hd:d g with
 |some v=>
  have p:=L.path g v hd;have qH:∀u,Path rs s g u->v<=u:=λu pu=>by obtain⟨t4,ag,ai⟩:=L.least g u pu;rw[hd]at ag;cases ag;exact ai
  have h:∃v,Path rs s g v/\∀u,Path rs s g u->v<=u:=⟨v,p,qH⟩
  rw[dif_pos h];have c:=KR h;congr 1;have a:=qH _ c.1;have b:=c.2 _ p;omega
 |none=>
  have h:¬∃v,Path rs s g v/\∀u,Path rs s g u->v<=u:=λ⟨v,p,_⟩=>by obtain⟨t4,ag,_⟩:=L.least g v p;rw[hd]at ag;cases ag
  rw[dif_neg h]
theorem Yu{rs:List (hX κ)}(aN:∀e∈rs,1<=e.t)(g:κ):GH rs (λk=>dist rs k g) g:=by
 refine⟨λk v h=>?_,λk w p=>?_⟩
 .unfold dist at h;split at h
  .rename_i q;cases h;exact(KR q).1
  .cases h
 .have q:=p.min aN _ _ rfl;show∃v,dist rs k g=some v/\v<=w;unfold dist;rw[dif_pos q];exact⟨_,rfl,(KR q).2 _ p⟩
end d3
namespace df
open PySem ar cH di
noncomputable def dp(hs:bF)(d:di.gJ):d3.hX Str:=⟨S (hs.getD d.a []),S (hs.getD d.b []),d.t⟩
noncomputable def jP(hs:bF)(ds:ck):List (d3.hX Str):=ds.map (dp hs)
structure Tab(kvs:List (bA×ar.V))(D:mE):Prop where
 at_:∀k:Str,cy kvs (ff k:bA)=(D k).map V.int
 gS:∀bZ∈kvs,∃k:Str,bZ.1=(ff k:bA)
theorem agc{kvs:List (bA×ar.V)}(h:∀bZ∈kvs,∃k:Str,bZ.1=(ff k:bA))(b:Str)(v:ar.V):∀bZ∈eN kvs (ff b:bA) v,∃k:Str,bZ.1=(ff k:bA):=by
 intro bZ aP;unfold eN at aP;split at aP
 .obtain⟨q,a8,e⟩:=b7.mp aP;obtain⟨k,eU⟩:=h q a8;split at e
  .exact⟨k,by rw[<-e];exact eU⟩
  .exact⟨k,by rw[<-e];exact eU⟩
 .rcases hl.mp aP with z|z
  .exact h bZ z
  .exact⟨b,by rw[g5.mp z]⟩
theorem Tab.put{kvs:List (bA×ar.V)}{D:mE}(T:Tab kvs D)(b:Str)(v:Int):Tab (eN kvs (ff b:bA) (.int v)) (d3.put D b v):=⟨λk=>by
 rw[rG];unfold d3.put;by_cases h:k=b
 .rw[bB h,bB (ht ff h)];rfl
 .rw[bp h,bp λz=>h (Mi z)];exact T.at_ k,agc T.gS b _⟩
theorem TC{κ:Type}[DecidableEq κ]{kvs:List (κ×ar.V)}{k:κ}(v:ar.V)(h:cy kvs k=some u):(eN kvs k v).length=kvs.length:=by unfold eN;rw[bB (by rw[pk,h];rfl),bk]
noncomputable def yw(D:mE)(e:d3.hX Str):Bool:=match D e.a with
 |none=>false
 |some v=>match D e.b with
  |none=>true
  |some u=>decide (v+e.t<u)
theorem Ū{D:mE}{e:d3.hX Str}(h:yw D e=true):∃v,D e.a=some v/\∀u,D e.b=some u->v+e.t<u:=by
 unfold yw at h;cases aF:D e.a with
 |none=>rw[aF]at h;cases h
 |some v=>
  rw[aF]at h;refine⟨v,rfl,λu b_=>?_⟩;rw[b_]at h;exact kL h
theorem aqS{D:mE}{e:d3.hX Str}(h:yw D e=false):d3.ok D e:=by
 intro v aF;unfold yw at h;rw[aF]at h;cases aa:D e.b with
 |none=>rw[aa]at h;cases h
 |some u=>
  rw[aa]at h;exact⟨u,rfl,by have:=of_decide_eq_false h;omega⟩
inductive Uy(vs:aW)(H:ae)(Q:a')(el:bX):Prop where
 |mk (r f:Addr) (hs:bF) (d:di.gJ) (kvs:List (bA×ar.V)) (D:mE) (bM:vs=[.ref r,.ref f]) (bu:H r=some (.tup (m4 hs d))) (bW:H f=some (.bN kvs)) (cW:Tab kvs D) (dD:Q (.aA (yw D (dp hs d))) H)
inductive Uz(K:aY)(vs:aW)(H:ae)(Q:a')(el:bX):Prop where
 |mk (b:Addr) (hs:bF) (rs:cj) (ds:ck) (h:Str) (bM:vs=[.ref b,.str h]) (bu:aC K H b (aG rs)) (bW:hr H hs rs ds) (cW:hs.length<=12) (dD:h∈hs.map S) (eS:∀(p:Addr)(H':ae)(kvs:List (bA×ar.V))(D:mE),H p=none->aH H H'->H' p=some (.bN kvs)->Tab kvs D->d3.Lj (jP hs ds) h D->Q (.ref p) H')
section
variable{P:cG}{w:bS}{K:aY}{mg:cw}{base:Heap}
noncomputable abbrev Fe:Stmt:=top 46
noncomputable abbrev Ff:Stmt:=top 47
theorem agd:c3 zu zu (cn Fe):={}
theorem AW:c3 ["roads","house","found","changed","road"] Cg (cn Ff):={}
theorem aen(F:cC K "is_shorter_by" "is_shorter_by" Fe f fd):aS P w K mg base bh 1 f fd zu Uy:=by
 refine F.ok agd (λ_ A _ s H vs Q E ao h=>?_)
 .obtain⟨r,fA,hs,d,kvs,D,rfl,cK,hf,T,q⟩:=h;refine⟨_,(a_ (dQ (K4 (RW (iO ao) (bG c1 (U 0) aV (λ_ _=>rfl)) (U 1))) (bb (cp iq)) dW)
   (bb (cp (W2 (agx (RW (iO ao) (bG c1 (U 0) aV (λ_ _=>rfl)) (U 1))) (l5 (ke nH (cq i1 (vF (iO ao) (U 1) (bG c1 (U 0) aV (λ_ _=>rfl)) (λ_ _=>rfl)) (bG c1 (U 0) aV (λ_ _=>rfl))) (vF (iO ao) (U 1) (bG c1 (U 0) aV (λ_ _=>rfl)) (λ_ _=>rfl)) (dB _))))))),?_⟩
  try dsimp only[lD,lu]
  have hV:=T.at_ (S (hs.getD d.a []));have qR:=T.at_ (S (hs.getD d.b []));have ga:=ir.k (k:=ff (S (hs.getD d.a []))) hf;have xx:=ir.k (k:=ff (S (hs.getD d.b []))) hf;rw[hV]at ga;rw[qR]at xx;unfold yw at q;have a4:(dp hs d).a=S (hs.getD d.a []):=rfl;have dx:(dp hs d).b=S (hs.getD d.b []):=rfl;rw[a4,dx]at q;refine⟨_,rfl,r,_,_,_,rfl,rfl,bI.of cK,rfl,_,rfl,fA,_,rfl,ga,_,rfl,?_⟩;cases aF:D (S (hs.getD d.a []))with
  |none=>
   rw[aF]at q;exact gD q
  |some v=>
   rw[aF]at q ga;refine fI ?_;refine⟨_,rfl,r,_,_,_,rfl,rfl,bI.of cK,rfl,_,rfl,fA,_,rfl,xx,_,rfl,?_⟩;cases aa:D (S (hs.getD d.b []))with
   |none=>
    rw[aa]at q;exact gD q
   |some u=>
    rw[aa]at q xx;refine fI ?_;exact⟨_,rfl,_,rfl,r,_,_,_,rfl,rfl,bI.of cK,rfl,fA,_,rfl,ga,_,rfl,r,_,_,_,rfl,rfl,bI.of cK,rfl,_,_,rfl,rfl,_,rfl,_,rfl,r,_,_,_,rfl,rfl,bI.of cK,rfl,fA,_,rfl,xx,_,_,rfl,rfl,q⟩
inductive ajn(b p:Addr)(h':Str)(hs:bF)(ds:ck)(H:ae)(m:Nat)(σ:ar.St)(b':ae):Prop where
 |mk (kvs:List (bA×ar.V)) (D:mE) (ch:Bool) (JY:kW) (bM:σ=[some (.ref b),some (.str h'),some (.ref p),some (.aA ch),JY]) (bu:aH H b') (bW:b' p=some (.bN kvs)) (cW:Tab kvs D) (dD:kvs.length<=(hs.map S).countP (λk=>(D k).isSome)) (eS:d3.oX (jP hs ds) h' (hs.map S) D) (hB:ch=false->∀e∈jP hs ds,d3.ok D e) (lN:m=2*d3.b0 (hs.map S) D+(if ch=true then 1 else 0))
inductive ajo(b p:Addr)(h':Str)(hs:bF)(ds:ck)(H:ae)(D:mE)(i:Nat)(σ:ar.St)(jH:ae):Prop where
 |mk (kj:List (bA×ar.V)) (cQ:mE) (nt:Bool) (t6:kW) (bM:σ=[some (.ref b),some (.str h'),some (.ref p),some (.aA nt),t6]) (bu:aH H jH) (bW:jH p=some (.bN kj)) (cW:Tab kj cQ) (dD:kj.length<=(hs.map S).countP (λk=>(cQ k).isSome)) (eS:d3.oX (jP hs ds) h' (hs.map S) cQ) (hB:(nt=false/\cQ=D/\∀j d,j<i->ds[j]?=some d->d3.ok cQ (dp hs d))\/(nt=true/\d3.b0 (hs.map S) cQ<d3.b0 (hs.map S) D))
theorem aeo{fs:Addr}(F:cC K "least_turns_from" "least_turns_from" Ff f fd)(uL:cY K mg "is_shorter_by" Fe zu fs alr)(Pm:aS P w K mg base bh 1 fs alr zu Uy):
  aS P w K mg base bh 2 f fd Cg (Uz K):=by
 refine F.ok AW (λ_ A _ s H vs Q E ao h=>?_)
 .obtain⟨b,hs,rs,ds,h',rfl,aa,cK,c6,hm,q⟩:=h;refine⟨_,(a_ (dI (i:=2) AW.aI rfl (cR rfl) (aff (adt (U 1) aV afe) rfl rfl (by intro z;cases z) (by decide)))
   (a_ (dI (i:=3) AW.aI rfl (cR rfl) iq)
   (a_ (ade j6 (ip (U 3))
    (a_ (dI (i:=3) AW.aI rfl (cR rfl) iq)
   (bb (jR j6 rfl (kb (U 0)) (eu (i:=4) AW.aI rfl (cR rfl))
    (bb (dQ (ip (ec Pm ao.mono (by rfl) uL.at_ uL.fn.cI uL.bd .nil cm (aj (U 4) (aj (U 2) aE)))) (a_ (A3 (iO ao) (U 2) (bG c1 (U 4) aV (λ_ _=>rfl)) (cq i1 (vF (iO ao) (U 2) (bG c1 (U 4) aV (λ_ _=>rfl)) (λ_ _=>rfl)) (bG c1 (U 4) aV (λ_ _=>rfl))) rfl)
   (bb (dI (i:=3) AW.aI rfl (cR rfl) iq))) dW))))))
   (bb (cp (U 2)))))),?_⟩
  try dsimp only[lD,lu]
  have amo:∀e∈jP hs ds,1<=e.t/\e.t<=9:=λe he=>by obtain⟨d,hd,rfl⟩:=b7.mp he;exact(cK.ok d hd).t
  refineλp aN=>⟨_,rfl,aQ,[(ff h',.int 0)],rfl,(by show 1<=15;decide),?_⟩
  have cD:upd (upd H p (.bN [])) p (.bN (Bp [] [((ff h':bA),V.int 0)]))=upd H p (.bN [((ff h':bA),V.int 0)]):=by rw[Et];rfl
  rw[cD];have s0:aH H (upd H p (.bN [((ff h':bA),V.int 0)])):=b8 aN;have T0:Tab [((ff h':bA),V.int 0)] (λk=>if k=h' then some 0 else none):=⟨λk=>by
   by_cases z:k=h'
   .rw[k9 (ht ff z.symm),bB z];rfl
   .rw[ka λy=>z (Mi y).symm,bp z];rfl,λbZ aP=>⟨h',by rw[g5.mp aP]⟩⟩
  have m0:d3.oX (jP hs ds) h' (hs.map S) (λk=>if k=h' then some 0 else none):=d3.oX.begin hm;have zS:0<(hs.map S).countP λk=>((if k=h' then some (0:Int)else none).isSome):=abT.mpr ⟨h',hm,by simp⟩;refine⟨ajn b p h' hs ds H,
   ⟨_,_,_,true,none,rfl,s0,aQ,T0,zS,m0,λz=>(nomatch z),rfl⟩,?_⟩
  rintro m σ b' ⟨kvs,D,ch,JY,rfl,ax,aP,T,len,mid,bf,rfl⟩;refine⟨_,rfl,_,rfl,?_⟩;cases ch with
  |false=>exact fI ⟨_,rfl,q p b' kvs D aN ax aP T (mid.done (bf rfl))⟩
  |true=>
   refine gD ⟨λa9 jH=>∃(kj:List (bA×ar.V))(cQ:mE)(nt:Bool)(t6:kW),a9=[some (.ref b),some (.str h'),some (.ref p),some (.aA nt),t6]/\aH H jH/\jH p=some (.bN kj)/\Tab kj cQ/\
    kj.length<=(hs.map S).countP (λk=>(cQ k).isSome)/\d3.oX (jP hs ds) h' (hs.map S) cQ/\((nt=false/\cQ=D/\∀e∈jP hs ds,d3.ok cQ e)\/(nt=true/\d3.b0 (hs.map S) cQ<d3.b0 (hs.map S) D)),?_,?_⟩
   .rintro a9 jH ⟨kj,cQ,nt,t6,rfl,pI,pf,o5,DM,AG,mV⟩;refine⟨_,?_,kj,cQ,nt,t6,rfl,pI,pf,o5,DM,AG,?_,rfl⟩
    .rcases mV with⟨rfl,rfl,_⟩|⟨rfl,cz⟩
     .simp
     .simp;omega
    .rintro rfl;rcases mV with⟨_,_,aU⟩|⟨z,_⟩
     .exact aU
     .cases z
   .refine⟨_,rfl,b,rfl,⟨_,ax.seq aa⟩,?_⟩;refine vy (xs:=aG rs) (ajo b p h' hs ds H D)
     ⟨kvs,D,false,JY,rfl,ax,aP,T,len,mid,.inl ⟨rfl,rfl,λj d bg _=>bx bg (Cm _)⟩⟩ ?_ ?_ ?_
    .rintro i a9 jH ak ⟨kj,cQ,nt,t6,rfl,pI,_⟩;exact pI.seq aa
    .rintro i z a9 jH ee ⟨kj,cQ,nt,t6,rfl,pI,pf,o5,DM,AG,mV⟩;unfold aG at ee;rw[cx]at ee;obtain⟨r,fh,rfl⟩:=e0.mp ee;obtain⟨d,Yh,tK,hd⟩:=cK.get fh;have vb:dp hs d∈jP hs ds:=b7.mpr ⟨d,dV Yh,rfl⟩;refine⟨_,rfl,_,rfl,r,p,hs,d,kj,cQ,rfl,pI _ _ hd,pf,o5,_,rfl,?_⟩;cases xM:yw cQ (dp hs d)with
     |false=>
      refine fI ⟨kj,cQ,nt,_,rfl,pI,pf,o5,DM,AG,?_⟩;rcases mV with⟨rfl,rfl,aU⟩|mV
      .refine .inl ⟨rfl,rfl,λj d' bg dy=>?_⟩;by_cases Ou:j=i
       .subst Ou;rw[Yh]at dy;cases dy;exact aqS xM
       .exact aU j d' (by omega) dy
      .exact .inr mV
     |true=>
      obtain⟨v,aF,tk⟩:=Ū xM;have u3:cQ (S (hs.getD d.a []))=some v:=aF;obtain⟨an0,cz⟩:=AG.put amo vb (Bi tK.b) aF tk;have ga:=ir.k (k:=ff (S (hs.getD d.a []))) pf;rw[o5.at_,u3]at ga;have u7:(hs.map S).countP (λk=>(cQ k).isSome)<=(hs.map S).length:=abS;rw[bk]at u7;have OP:=pI _ _ hd;refine gD ?_;refine⟨_,rfl,_,rfl,r,_,_,_,rfl,rfl,bI.of OP,rfl,p,_,rfl,ga,_,rfl,r,_,_,_,rfl,rfl,bI.of OP,rfl,_,_,rfl,rfl,_,rfl,_,rfl,r,_,_,_,rfl,rfl,bI.of OP,rfl,p,_,rfl,pM.k (k:=ff (S (hs.getD d.b []))) pf (fF (by omega)),?_⟩;refine⟨_,d3.put cQ (dp hs d).b (v+(dp hs d).t),true,_,rfl,k7 aN pI,aQ,o5.put _ _,?_,an0,.inr ⟨rfl,?_⟩⟩
      .cases dC:cQ (S (hs.getD d.b []))with
       |none=>
        have az:(eN kj (ff (S (hs.getD d.b [])):bA) (V.int (v+d.t))).length=kj.length+1:=by rw[D' _ (by rw[o5.at_,dC];rfl),hD];rfl
        have aB:(hs.map S).countP (λk=>(cQ k).isSome)<(hs.map S).countP (λk=>(d3.put cQ (dp hs d).b (v+(dp hs d).t) k).isSome):=
         d3.MY (b:=S (hs.getD d.b [])) (λk aP=>by unfold d3.put;split;rfl;exact aP) (by rw[dC];rfl) (by unfold d3.put;rw[bB (show S (hs.getD d.b [])=(dp hs d).b from rfl)];rfl) (Bi tK.b)
        exact eP (LD az) (by omega)
       |some u=>
        have az:(eN kj (ff (S (hs.getD d.b [])):bA) (V.int (v+d.t))).length=kj.length:=TC _ (by rw[o5.at_,dC];rfl);have aB:(hs.map S).countP (λk=>(cQ k).isSome)<=(hs.map S).countP (λk=>(d3.put cQ (dp hs d).b (v+(dp hs d).t) k).isSome):=
         d3.count_le (λk aP=>by unfold d3.put;split;rfl;exact aP) _
        exact eP (LD az) (by omega)
      .rcases mV with⟨_,rfl,_⟩|⟨_,ai⟩
       .exact cz
       .exact Vr cz ai
    .rintro a9 jH ⟨kj,cQ,nt,t6,rfl,pI,pf,o5,DM,AG,mV⟩;refine⟨kj,cQ,nt,t6,rfl,pI,pf,o5,DM,AG,?_⟩;rcases mV with⟨rfl,rfl,aU⟩|mV
     .refine .inl ⟨rfl,rfl,λe he=>?_⟩;obtain⟨d,hd,rfl⟩:=b7.mp he;obtain⟨j,bg⟩:=sF hd;refine aU j d ?_ bg;have ag:=(eb.mp bg).1;have ai:=cK.len;rw[d6];omega
     .exact .inr mV
end
end df
namespace cH
open PySem PySem.Spec PyProof.Rows ar
section
variable{X:bo}
noncomputable def ajp(ts:e'):e':=λD σ H=>∃a kvs,H a=some (.bN kvs)/\∀o,ts ⟨λa9 H'=>H' a=some (.fi o (.bN kvs))/\D.b1 a9 (upd H' a (.bN kvs)),λv H'=>H' a=some (.fi o (.bN kvs))/\D.rW v (upd H' a (.bN kvs)),λa9 H'=>H' a=some (.fi o (.bN kvs))/\D.hq a9 (upd H' a (.bN kvs)),λa9 H'=>H' a=some (.fi o (.bN kvs))/\D.eL a9 (upd H' a (.bN kvs))⟩ σ (upd H a (.fi o (.bN kvs)))
theorem Wm{st:Stmt}(hs:gI X st ts):gI X st (ajp ts):=by
 intro pins s σ H D I h;obtain⟨a,kvs,aF,h⟩:=h;have f1:∀xs,X.pZ a≠some (.tup xs):=λxs z=>by have:=I.base.ij a xs z;rw[aF]at this;cases this
 have f2:∀o v,X.pZ a≠some (.fi o v):=λo v z=>by have:=I.base.jr a o v z;rw[aF]at this;cases this
 have cU:∀ps,X.pZ a≠some (.r9 ps):=λps z=>by obtain⟨m,e⟩:=I.base.j0 a ps z;rw[aF]at e;cases e
 have ok:=I.bf a _ aF;obtain⟨z,y,vs,rel,o,es,ep,e,c⟩:=id ok;have aR:Inv X pins σ (upd H a (.fi o (.bN kvs))) s:=Ws I aF (by intro _ w;cases w) (by intro _ w;cases w) ⟨e,z,y,vs,rel,o,es,ep,e,c⟩ f1 f2 cU;have back:∀{a9:ar.St}{H':ae}{s':aK},Inv X pins a9 H' s'->H' a=some (.fi o (.bN kvs))->Inv X pins a9 (upd H' a (.bN kvs)) s':=λ{a9 H' s'}bH oe=>by obtain⟨az,bM,oN,aql,apn,kk,jQ,ak4,aB,k6⟩:=bH.bf a _ oe;exact Ws bH (u':=.bN kvs) oe (by intro _ w;cases w) (by intro _ w;cases w) ⟨bM,oN,aql,apn,kk,jQ,ak4,aB,k6⟩ f1 f2 cU
 refine bD (hs pins s σ _ _ aR (h o)) λf s1 q=>?_;cases f with
 |next=>
  obtain⟨a9,H',bH,oe,q⟩:=q;exact⟨a9,_,back bH oe,q⟩
 |brk=>
  obtain⟨a9,H',bH,oe,q⟩:=q;exact⟨a9,_,back bH oe,q⟩
 |cont=>
  obtain⟨a9,H',bH,oe,q⟩:=q;exact⟨a9,_,back bH oe,q⟩
 |ret v=>
  obtain⟨a9,x,H',bH,cf,oe,q⟩:=q;exact⟨a9,x,_,back bH oe,cf,q⟩
noncomputable def CC(a:Addr)(o:Obj)(kvs:List (bA×V)):fe:=
 ⟨λi H=>H a=some (.fi o (.bN kvs))/\i<kvs.length,λi H v H'=>H'=H/\∃k x,v=c9 k/\kvs[i]?=some (k,x),λi H=>H a=some (.fi o (.bN kvs))/\kvs.length<=i⟩
theorem KJ{H:ae}{h:Heap}{o:Obj}{kvs:List (bA×V)}(ok:fE P w H h)(aF:H a=some (.fi o (.bN kvs))):h.get? a=some o/\(a==me)=false/\o.ExactDict/\∃es ep,o.data=.dict es ep/\es.size=kvs.length/\
  ∀(i:Nat)(k:bA)(x:V),kvs[i]?=some (k,x)->∃ak:i<es.size,RelV (c9 k) es[i].key:=by
 obtain⟨cD,_,y,vs,rel,cB,es,ep,az,av,hd,_,pr,_⟩:=ok a _ aF;rw[cD]at az;cases az;have gen:∀{kvs:List (bA×V)}{ys:List (bA×Value)}{gQ:List sy},gb kvs ys->Pairs (hI P w) gQ ys->gQ.length=kvs.length/\∀(i:Nat)(k:bA)(x:V),kvs[i]?=some (k,x)->∃e,gQ[i]?=some e/\RelV (c9 k) e.key:=by
  intro kvs ys gQ rel pr
  induction pr generalizing kvs with
  |nil=>
   cases rel;exact⟨rfl,λi k x e=>by simp at e⟩
  |@cons e bZ gQ ys ag ai t a3=>
   cases rel with
   |@cons p q ps oA a b=>
    obtain⟨l,f⟩:=a3 b;refine⟨by rw[lR,lR,l],λi k x d7=>?_⟩;cases i with
    |zero=>
     simp only[Lm,LQ]at d7;refine⟨e,rfl,?_⟩;have az:bZ.1=k:=by rw[<-a.1,d7]
     rw[az]at ag;rcases rq (show yL k e.key=true from ag)with⟨n,t,rfl,eU⟩|⟨n,t,rfl,eU⟩
     .exact⟨t,eU⟩
     .exact⟨t,eU⟩
    |succ i=>exact f i k x (by simpa using d7)
 obtain⟨l,f⟩:=gen rel pr;refine⟨cD,y,av,es,ep,hd,by simpa using l,λi k x ak=>?_⟩;obtain⟨e,xm,r⟩:=f i k x ak;obtain⟨ag,ai⟩:=eb.mp xm;have xB:i<es.size:=by simpa using ag
 refine⟨xB,?_⟩;have:es[i]=e:=by simpa using ai
 rw[this];exact r
end
theorem aaW{K:aY}{o:Obj}{kvs:List (bA×V)}{es:Array sy}{ep:Nat}(a it:Addr)(hd:o.data=.dict es ep):
  Turn P w K ea (CC a o kvs) [it] it (λi h=>h.IsKeyIter it a i es.size ep)where
 mem:=by simp
 obj:=λi h st b aa=>by
  obtain rfl:b=it:=by simpa using aa
  obtain⟨o,e,c,d⟩:=st;exact⟨o,e,λv z=>by rw[d]at z;cases z⟩
 keep:=λi h h' st k=>by obtain⟨o,e,r⟩:=st;exact⟨o,k it (by simp) o e,r⟩
 item:=by
  intro X f6 hw f5 aq i pins s σ H E I hf st bE;subst f6 hw f5;obtain⟨aF,ak⟩:=bE;obtain⟨go,_,dt,kB,rp,nx,bT,ge⟩:=KJ I.bf aF;rw[hd]at nx;cases nx;obtain⟨ot,Yk⟩:∃q,kvs[i]?=some q:=⟨_,cF ak⟩
  obtain⟨Oj,vV⟩:=ge i ot.1 ot.2 Yk;obtain⟨f0,f1,f2,cU,f4,e_⟩:=hf it (by simp);refine Wt st ⟨o,go,dt,hd⟩ Oj λh' eR b4=>?_;have aR:Inv X pins σ H {s with heap:=h'}:=I.turned (t':=s.toks) (λb o aa e=>(b4.2 b aa).trans e) f0 f1 cU f4 e_;obtain⟨AO,e,c,d⟩:=id eR;exact⟨_,rfl,By (s:={s with heap:=h'}) e c d (by decide) ⟨c9 ot.1,H,aR,vV,⟨rfl,ot.1,ot.2,rfl,Yk⟩,eR,λb aa=>(hf b aa).1⟩⟩
 done:=by intro X f6 hw f5 aq i pins s σ H E I hf st bE;subst f6 hw f5;obtain⟨aF,ak⟩:=bE;obtain⟨go,_,dt,kB,rp,nx,bT,ge⟩:=KJ I.bf aF;rw[hd]at nx;cases nx;obtain⟨f0,f1,f2,cU,f4,e_⟩:=hf it (by simp);exact Uu (I.ok.hd aq) st ⟨o,go,dt,hd⟩ (by omega) λh' dx=>⟨rfl,I.turned (t':=s.toks) (λb o aa e=>dx b o aa e) f0 f1 cU f4 e_⟩
 self:=λA i s Q E st h=>by have T0:=st.typeIs;refine Sg T0 F.slot_dict_keyiterator_iter (nS F.slot_dict_keyiterator_iter T0 F.entry_dict_keyiterator_iter ?_ (F.args_dict_keyiterator_iter_1 _));exact aT ⟨_,rfl,"dict_keyiterator",_,T0,F.slot_dict_keyiterator_next.lookup,h⟩
section
variable{X:bo}{ea:Expr}
noncomputable def ahM(ek:TE):TI:=λσ H R=>ek σ H λx H1=>∃a o kvs,x=.ref a/\H1 a=some (.fi o (.bN kvs))/\R (CC a o kvs) H1
theorem TF(aU:bq X o ek):n0 X ea o (ahM ek):=by
 intro pins s σ H R I h;refine bD (aU pins s σ H _ I h) λv s1 hz=>?_;obtain⟨x,H1,aR,b3,a,ob,kvs,ex,aF,bz⟩:=hz;subst ex;cases b3;obtain⟨go,alN,dt,es,ep,nx,bT,ge⟩:=KJ aR.bf aF;refine Uv alN ⟨ob,go,dt,nx⟩ ?_;refine⟨s1.heap.objs.size,[s1.heap.objs.size],_,_,H1,rfl,aR.kept (t':=s1.toks) λb o e=>dm _ e,aaW a _ nx,⟨_,fM _ rfl,rfl,rfl⟩,λb aa=>?_,bz⟩;obtain rfl:b=s1.heap.objs.size:=by simpa using aa
 exact aR.s_ (bU _) (aR.bf.fresh (bU _))
theorem į{kvs:List (bA×V)}{g:fg}{c_:e'}{D:Ends}{H:ae}(Pv:Nat->ar.St->ae->Prop)(h0:Pv 0 σ H)(aw:∀i σ H,Pv i σ H->H a=some (.fi o (.bN kvs)))(hs:∀i k x σ H,kvs[i]?=some (k,x)->Pv i σ H->g (c9 k) σ H λgH ah=>c_ {D with b1:=Pv (i+1),eL:=Pv (i+1),hq:=D.b1} gH ah)(hd:∀σ H,Pv kvs.length σ H->D.b1 σ H):
  ∃W:Nat->Nat->ar.St->ae->Prop,(∃m,W 0 m σ H)/\∀i m σ H,W i m σ H->
   ((CC a o kvs).stop i H/\D.b1 σ H)\/((CC a o kvs).go i H/\∃N:ar.St->ae->Prop,(∀a9 H',N a9 H'->∃dc,dc<m/\W (i+1) dc a9 H')/\∀x H',(CC a o kvs).oO i H x H'->g x σ H' λgH ah=>c_ {D with b1:=N,eL:=N,hq:=D.b1} gH ah):=by
 refine⟨λi m σ H=>m=kvs.length-i/\i<=kvs.length/\Pv i σ H,⟨kvs.length,by simp,eZ _,h0⟩,?_⟩;rintro i m σ H ⟨rfl,ak,p⟩;have q:=aw i σ H p;by_cases cz:i<kvs.length
 .refine .inr ⟨⟨q,cz⟩,Pv (i+1),λa9 H' hx=>⟨kvs.length-(i+1),by omega,rfl,cz,hx⟩,λv H' y=>?_⟩;obtain⟨rfl,k,x,rfl,eU⟩:=y;exact hs i k x σ H' eU p
 .have e:i=kvs.length:=by omega
  subst e;exact .inl ⟨⟨q,bU _⟩,hd σ H p⟩
noncomputable abbrev kN(l:Addr):Obj:={cls:=.type "list_iterator",data:=.fields #[.ref l,.int 0 0]}
theorem gy{α β:Type}{M:mu}{E:cc}(c:Sem α){k:α->Sem β}{Q:β->aK->Prop}(h:aL M A c (λa s'=>aL M A (k a) Q E s') E s):aL M A (c >>=k) Q E s:=au h
theorem BV{h:Heap}(e:h.get? b=some o):b≠h.objs.size:=dR (c5 e)
theorem vR{h:Heap}(e:h.get? b=some o):b≠h.objs.size+1:=dR (sN (c5 e))
theorem aep{A:du}{R:my->aK->Prop}{bR wr:cj}{n:Nat}{P:Nat->Value->Prop}{St:Nat->Heap->Prop}{d:Value}(W:sS prog w A.in1 I bR wr n P St)(fy:hG)(aq:CmpOf prog w A.in1 .Gt P fy)(S:Addr)(jY:S∉bR):
  ∀(k j:Nat)(s:aK)(gu:Value)(c:Nat),n-(j+1)=k->j+1<=n->St (j+1) s.heap->P (fX fy j) gu->s.heap.get? S=some ⟨.type "list",none,.seq #[gu,gu] c,#[]⟩->
   (∀v h' a5,P (fX fy (n-1)) v->(∀b o,b∉wr->b≠S->s.heap.get? b=some o->h'.get? b=some o)->R (.ok (.ret v)) {s with heap:=h',toks:=a5})->
   iH (aX prog w) A (.builtin "max.loop" ⟨[.ref I,.none,.ref S],[(e8 "default",d)]⟩) R s:=by
 have wS:S∉wr:=λh=>jY (W.sub _ h);have nm:(toString "max"++toString ".loop":String)="max.loop":=by decide
 intro k
 induction k with
 |zero=>
  intro j s gu c aP bg st iu hO cK;have jn:j+1=n:=by omega
  refine kz V0 ?_;rw[mm zG _];refine gy (vX (.ref S)) (r_ hO rfl (gy (tryCatch (ig (.ref I)) _) (oK (W.done s _ _ (jn▸st) λh' a5 bP=>?_))));refine gy (yJ S (λ_=>#[])) (sa (bP S _ wS hO) rfl (au (pR (aT ?_))));exact cK gu _ a5 (by rw[<-jn];exact iu) λb o cE c' e=>(je _ _ (c2 c')).trans (bP b o cE e)
 |succ k a3=>
  intro j s gu c aP bg st iu hO cK;have lt:j+1<n:=by omega
  refine kz V0 ?_;rw[mm zG _];refine gy (vX (.ref S)) (r_ hO rfl (gy (tryCatch (ig (.ref I)) _) (oK (W.item (j+1) s _ _ lt st λv h' a5 U eR bP=>?_))));have jS:=bP S _ wS hO;refine gy (tryCatch (mU [v,v] (I3 .Gt v gu >>=_)) _) (oK (hA (au (aq (j+1) (fX fy j) v gu _ _ _ U iu (au (hA (ml (au (pR (aT ?_))))))))));cases aa:fy (j+1) (fX fy j)with
  |true=>
   simp only[if_true];refine au (sa jS rfl (au (pR ?_)));rw[nm];refine aT ⟨lF zG _,a3 (j+1) _ v _ (by omega) lt (W.frame _ _ _ eR λb nq o e=>(je _ _ (λh:S=b=>jY (by rw[h];exact nq))).trans e) (by simp only[fX,aa,if_true];exact U) (kr _ jS rfl) λv2 ai lI lG ly=>?_⟩;exact cK v2 ai lI lG λb o cE c' e=>ly b o cE c' ((je _ _ (c2 c')).trans (bP b o cE e))
  |false=>
   simp only[m9,if_false];refine au (pR ?_);rw[nm];exact aT ⟨lF zG _,a3 (j+1) _ gu c (by omega) lt eR (by simp only[fX,aa,m9,if_false];exact iu) jS λv2 ai lI lG ly=>cK v2 ai lI lG λb o cE c' e=>ly b o cE c' (bP b o cE e)⟩
theorem abF{A:du}{R:my->aK->Prop}{bR wr:cj}{n:Nat}{P:Nat->Value->Prop}{St:Nat->Heap->Prop}(W:sS prog w A.in1 I bR wr n P St)(fy:hG)(aq:CmpOf prog w A.in1 .Gt P fy)(S:Addr)(jY:S∉bR){s:aK}{c:Nat}(st:St 0 s.heap)(hO:s.heap.get? S=some ⟨.type "list",none,.seq #[] c,#[]⟩)(h0:n=0->∀h' a5,(∀b o,b∉wr->b≠S->s.heap.get? b=some o->h'.get? b=some o)->R (.ok (.ret d)) {s with heap:=h',toks:=a5})(ag:0<n->∀v h' a5,P (fX fy (n-1)) v->(∀b o,b∉wr->b≠S->s.heap.get? b=some o->h'.get? b=some o)->R (.ok (.ret v)) {s with heap:=h',toks:=a5}):
  iH (aX prog w) A (.builtin "max.loop" ⟨[.ref I,.none,.ref S],[(e8 "default",d)]⟩) R s:=by
 have wS:S∉wr:=λh=>jY (W.sub _ h);have nm:(toString "max"++toString ".loop":String)="max.loop":=by decide
 refine kz V0 ?_;rw[mm zG _];refine gy (vX (.ref S)) (r_ hO rfl ?_);by_cases hz:n=0
 .refine gy (tryCatch (ig (.ref I)) _) (oK (W.done s _ _ (hz▸st) λh' a5 bP=>?_));refine au (pS (aT ?_));exact h0 hz h' a5 λb o cE _ e=>bP b o cE e
 .refine gy (tryCatch (ig (.ref I)) _) (oK (W.item 0 s _ _ (zD hz) st λv h' a5 U eR bP=>?_));have jS:=bP S _ wS hO;refine gy (yJ S (λ_=>#[v,v])) (sa jS rfl ?_);rw[nm];refine aT ⟨lF zG _,aep W fy aq S jY _ 0 _ v _ rfl (zD hz) (W.frame _ _ _ eR λb nq o e=>(je _ _ (λh:S=b=>jY (by rw[h];exact nq))).trans e) U (kr _ jS rfl) λv2 ai lI lG ly=>?_⟩;exact ag (zD hz) v2 ai lI lG λb o cE c' e=>ly b o cE c' ((je _ _ (c2 c')).trans (bP b o cE e))
theorem abG(a v:Value):rk "max" ⟨[a],[(e8 "default",v)]⟩:=by unfold rk;kernel_rfl
theorem aeq{A:du}{E:cc}{s:aK}{items:kV}{val:Nat->Int}{Q:cc}(dr:A.in1.handled=none)(aw:s.heap.IsList l items)(bj:∀i v,items[i]?=some v->∃t,v=iF (val i) t)(h0:items.size=0->∀h' a5,(∀b o,s.heap.get? b=some o->h'.get? b=some o)->Q d {s with heap:=h',toks:=a5})(ag:0<items.size->∀t h' a5,(∀b o,s.heap.get? b=some o->h'.get? b=some o)->Q (iF (val (fX (λi j=>decide (val i>val j)) (items.size-1))) t) {s with heap:=h',toks:=a5}):
  aL (aX prog w) A (call (.builtin "max") [.ref l] [(e8 "default",d)]) Q E s:=by
 have nm:(toString "max"++toString ".loop":String)="max.loop":=by decide
 obtain⟨ol,lj,_⟩:=id aw;have i3:l≠s.heap.objs.size:=dR (c5 lj);refine VY PySem.F.kind_max PySem.F.plain_max PySem.F.entry_max (abG _ _) ?_;refine gy (SX "max" ["key","default"] 0 ⟨[],[(e8 "default",d)]⟩) (yS (show _=pure [none,some d]from rfl) ?_);refine au (aT ?_);refine au (Bu aw ?_);refine au (m7 ?_);rw[nm];have W:=CQ (prog:=prog) (w:=w) (A:=A.in1) dr s.heap.objs.size l i3 items;have kq:(s.heap.push (kN l)).objs.size=s.heap.objs.size+1:=sA ..;have cz:=c5 lj;have uZ:(s.heap.push (kN l)).get? s.heap.objs.size=some (kN l):=fM _ rfl;have gR:=aw.push (kN l);have k1:∀b o,s.heap.get? b=some o->(s.heap.push (kN l)).get? b=some o:=λb o e=>dm _ e;dsimp only;generalize s.heap.push (kN l)=qz at kq uZ gR k1⊢;refine aT ⟨lF zG _,abF W _ (CmpOf.ints_gt val bj) qz.objs.size (by rw[kq];simp only[dv,eo,or_false,not_or];exact⟨LI _,c2 (vR lj)⟩) ⟨⟨_,dm _ uZ,rfl,rfl⟩,gR.push _⟩ (fM _ rfl) (λhz h' a5 bP=>?_) λhz v h' a5 U bP=>?_⟩
 .exact h0 hz h' a5 λb o e=>bP b o (by simp only[dv,eo,or_false];exact BV e) (by rw[kq];exact vR e) (dm _ (k1 b o e))
 .obtain⟨dU,rfl⟩:=bj _ v U;exact ag hz dU h' a5 λb o e=>bP b o (by simp only[dv,eo,or_false];exact BV e) (by rw[kq];exact vR e) (dm _ (k1 b o e))
theorem aer{A:du}{R:my->aK->Prop}{bR wr:cj}{n:Nat}{P:Nat->Value->Prop}{St:Nat->Heap->Prop}{d:Value}(W:sS prog w A.in1 I bR wr n P St)(fy:hG)(aq:CmpOf prog w A.in1 .Lt P fy)(S:Addr)(jY:S∉bR):
  ∀(k j:Nat)(s:aK)(gu:Value)(c:Nat),n-(j+1)=k->j+1<=n->St (j+1) s.heap->P (fX fy j) gu->s.heap.get? S=some ⟨.type "list",none,.seq #[gu,gu] c,#[]⟩->
   (∀v h' a5,P (fX fy (n-1)) v->(∀b o,b∉wr->b≠S->s.heap.get? b=some o->h'.get? b=some o)->R (.ok (.ret v)) {s with heap:=h',toks:=a5})->
   iH (aX prog w) A (.builtin "min.loop" ⟨[.ref I,.none,.ref S],[(e8 "default",d)]⟩) R s:=by
 have wS:S∉wr:=λh=>jY (W.sub _ h);have nm:(toString "min"++toString ".loop":String)="min.loop":=by decide
 intro k
 induction k with
 |zero=>
  intro j s gu c aP bg st iu hO cK;have jn:j+1=n:=by omega
  refine kz Cu ?_;rw[mm n1 _];refine gy (vX (.ref S)) (r_ hO rfl (gy (tryCatch (ig (.ref I)) _) (oK (W.done s _ _ (jn▸st) λh' a5 bP=>?_))));refine gy (yJ S (λ_=>#[])) (sa (bP S _ wS hO) rfl (au (pR (aT ?_))));exact cK gu _ a5 (by rw[<-jn];exact iu) λb o cE c' e=>(je _ _ (c2 c')).trans (bP b o cE e)
 |succ k a3=>
  intro j s gu c aP bg st iu hO cK;have lt:j+1<n:=by omega
  refine kz Cu ?_;rw[mm n1 _];refine gy (vX (.ref S)) (r_ hO rfl (gy (tryCatch (ig (.ref I)) _) (oK (W.item (j+1) s _ _ lt st λv h' a5 U eR bP=>?_))));have jS:=bP S _ wS hO;refine gy (tryCatch (mU [v,v] (I3 .Lt v gu >>=_)) _) (oK (hA (au (aq (j+1) (fX fy j) v gu _ _ _ U iu (au (hA (ml (au (pR (aT ?_))))))))));cases aa:fy (j+1) (fX fy j)with
  |true=>
   simp only[if_true];refine au (sa jS rfl (au (pR ?_)));rw[nm];refine aT ⟨lF n1 _,a3 (j+1) _ v _ (by omega) lt (W.frame _ _ _ eR λb nq o e=>(je _ _ (λh:S=b=>jY (by rw[h];exact nq))).trans e) (by simp only[fX,aa,if_true];exact U) (kr _ jS rfl) λv2 ai lI lG ly=>?_⟩;exact cK v2 ai lI lG λb o cE c' e=>ly b o cE c' ((je _ _ (c2 c')).trans (bP b o cE e))
  |false=>
   simp only[m9,if_false];refine au (pR ?_);rw[nm];exact aT ⟨lF n1 _,a3 (j+1) _ gu c (by omega) lt eR (by simp only[fX,aa,m9,if_false];exact iu) jS λv2 ai lI lG ly=>cK v2 ai lI lG λb o cE c' e=>ly b o cE c' (bP b o cE e)⟩
theorem acI{A:du}{R:my->aK->Prop}{bR wr:cj}{n:Nat}{P:Nat->Value->Prop}{St:Nat->Heap->Prop}(W:sS prog w A.in1 I bR wr n P St)(fy:hG)(aq:CmpOf prog w A.in1 .Lt P fy)(S:Addr)(jY:S∉bR){s:aK}{c:Nat}(st:St 0 s.heap)(hO:s.heap.get? S=some ⟨.type "list",none,.seq #[] c,#[]⟩)(h0:n=0->∀h' a5,(∀b o,b∉wr->b≠S->s.heap.get? b=some o->h'.get? b=some o)->R (.ok (.ret d)) {s with heap:=h',toks:=a5})(ag:0<n->∀v h' a5,P (fX fy (n-1)) v->(∀b o,b∉wr->b≠S->s.heap.get? b=some o->h'.get? b=some o)->R (.ok (.ret v)) {s with heap:=h',toks:=a5}):
  iH (aX prog w) A (.builtin "min.loop" ⟨[.ref I,.none,.ref S],[(e8 "default",d)]⟩) R s:=by
 have wS:S∉wr:=λh=>jY (W.sub _ h);have nm:(toString "min"++toString ".loop":String)="min.loop":=by decide
 refine kz Cu ?_;rw[mm n1 _];refine gy (vX (.ref S)) (r_ hO rfl ?_);by_cases hz:n=0
 .refine gy (tryCatch (ig (.ref I)) _) (oK (W.done s _ _ (hz▸st) λh' a5 bP=>?_));refine au (pS (aT ?_));exact h0 hz h' a5 λb o cE _ e=>bP b o cE e
 .refine gy (tryCatch (ig (.ref I)) _) (oK (W.item 0 s _ _ (zD hz) st λv h' a5 U eR bP=>?_));have jS:=bP S _ wS hO;refine gy (yJ S (λ_=>#[v,v])) (sa jS rfl ?_);rw[nm];refine aT ⟨lF n1 _,aer W fy aq S jY _ 0 _ v _ rfl (zD hz) (W.frame _ _ _ eR λb nq o e=>(je _ _ (λh:S=b=>jY (by rw[h];exact nq))).trans e) U (kr _ jS rfl) λv2 ai lI lG ly=>?_⟩;exact ag (zD hz) v2 ai lI lG λb o cE c' e=>ly b o cE c' ((je _ _ (c2 c')).trans (bP b o cE e))
theorem acJ(a v:Value):rk "min" ⟨[a],[(e8 "default",v)]⟩:=by unfold rk;kernel_rfl
theorem aes{A:du}{E:cc}{s:aK}{items:kV}{val:Nat->Int}{Q:cc}(dr:A.in1.handled=none)(aw:s.heap.IsList l items)(bj:∀i v,items[i]?=some v->∃t,v=iF (val i) t)(h0:items.size=0->∀h' a5,(∀b o,s.heap.get? b=some o->h'.get? b=some o)->Q d {s with heap:=h',toks:=a5})(ag:0<items.size->∀t h' a5,(∀b o,s.heap.get? b=some o->h'.get? b=some o)->Q (iF (val (fX (λi j=>decide (val i<val j)) (items.size-1))) t) {s with heap:=h',toks:=a5}):
  aL (aX prog w) A (call (.builtin "min") [.ref l] [(e8 "default",d)]) Q E s:=by
 have nm:(toString "min"++toString ".loop":String)="min.loop":=by decide
 obtain⟨ol,lj,_⟩:=id aw;have i3:l≠s.heap.objs.size:=dR (c5 lj);refine VY adO adR adN (acJ _ _) ?_;refine gy (SX "min" ["key","default"] 0 ⟨[],[(e8 "default",d)]⟩) (yS (show _=pure [none,some d]from rfl) ?_);refine au (aT ?_);refine au (Bu aw ?_);refine au (m7 ?_);rw[nm];have W:=CQ (prog:=prog) (w:=w) (A:=A.in1) dr s.heap.objs.size l i3 items;have kq:(s.heap.push (kN l)).objs.size=s.heap.objs.size+1:=sA ..;have cz:=c5 lj;have uZ:(s.heap.push (kN l)).get? s.heap.objs.size=some (kN l):=fM _ rfl;have gR:=aw.push (kN l);have k1:∀b o,s.heap.get? b=some o->(s.heap.push (kN l)).get? b=some o:=λb o e=>dm _ e;dsimp only;generalize s.heap.push (kN l)=qz at kq uZ gR k1⊢;refine aT ⟨lF n1 _,acI W _ (CmpOf.ints_lt val bj) qz.objs.size (by rw[kq];simp only[dv,eo,or_false,not_or];exact⟨LI _,c2 (vR lj)⟩) ⟨⟨_,dm _ uZ,rfl,rfl⟩,gR.push _⟩ (fM _ rfl) (λhz h' a5 bP=>?_) λhz v h' a5 U bP=>?_⟩
 .exact h0 hz h' a5 λb o e=>bP b o (by simp only[dv,eo,or_false];exact BV e) (by rw[kq];exact vR e) (dm _ (k1 b o e))
 .obtain⟨dU,rfl⟩:=bj _ v U;exact ag hz dU h' a5 λb o e=>bP b o (by simp only[dv,eo,or_false];exact BV e) (by rw[kq];exact vR e) (dm _ (k1 b o e))
noncomputable def î(K:aY)(f:List Int->Int)(t:fP)(ek:TE):TE:=λσ H Q=>t σ H λvs H1=>pB ek Gs σ H1 λzs ah=>∃sU a ns,zs=[sU]/\vs=[.ref a]/\aC K ah a (ns.map V.int)/\(ns=[]->Q sU ah)/\(ns≠[]->Q (.int (f ns)) ah)
theorem UA{val:Nat->Int}:∀k,fX (λi j=>decide (val i>val j)) k<=k/\∀j,j<=k->val j<=val (fX (λi j=>decide (val i>val j)) k)
 |0=>⟨bU _,λj h=>by rw[ac2.mp h];exact oR _⟩
 |k+1=>by
  obtain⟨a,b⟩:=UA (val:=val) k;simp only[fX];by_cases h:val (k+1)>val (fX (λi j=>decide (val i>val j)) k)
  .rw[bB (cT h)];refine⟨bU _,λj bg=>?_⟩;rcases wM j (k+1)with ag|ag
   .exact Ui (b j (by omega)) (Uh h)
   .rw[show j=k+1 by omega];exact oR _
  .rw[bp (by rw[dn h];exact fU)];refine⟨by omega,λj bg=>?_⟩;rcases wM j (k+1)with ag|ag
   .exact b j (by omega)
   .rw[show j=k+1 by omega];omega
theorem TG{val:Nat->Int}:∀k,fX (λi j=>decide (val i<val j)) k<=k/\∀j,j<=k->val (fX (λi j=>decide (val i<val j)) k)<=val j
 |0=>⟨bU _,λj h=>by rw[ac2.mp h];exact oR _⟩
 |k+1=>by
  obtain⟨a,b⟩:=TG (val:=val) k;simp only[fX];by_cases h:val (k+1)<val (fX (λi j=>decide (val i<val j)) k)
  .rw[bB (cT h)];refine⟨bU _,λj bg=>?_⟩;rcases wM j (k+1)with ag|ag
   .exact Ui (Uh h) (b j (by omega))
   .rw[show j=k+1 by omega];exact oR _
  .rw[bp (by rw[dn h];exact fU)];refine⟨by omega,λj bg=>?_⟩;rcases wM j (k+1)with ag|ag
   .exact b j (by omega)
   .rw[show j=k+1 by omega];omega
noncomputable def v3(ns:fp):Int:=ns.getD (fX (λi j=>decide (ns.getD i 0>ns.getD j 0)) (ns.length-1)) 0
theorem ahN:iG "max"=some (.builtin "max"):=by decide+kernel
end
theorem age{X:bo}{p cI:Pos}{t:fP}(aq:X.calm=true)(bE:jd X "max")(hm:X.mg "max"=none)(aF:gw X [e] t)(hd:bq X aB ek)(xE:(lY pos (l6 [⟨some "default",aB,cI⟩] X.env)).all (·.1.isSome)=true:=by rfl)(Ow:(lY pos (l6 [⟨some "default",aB,cI⟩] X.env)).filterMap (·.1)=[e8 "default"]:=by rfl)(he:dY [e] X.env=(false,eval e X.env)::dY [] X.env:=by rfl)(fH:(hp pos (dY [e] X.env)).any (·.1)=false:=by rfl)(Ox:(lY pos (l6 [⟨some "default",aB,cI⟩] X.env)).any (·.1.isNone)=false:=by rfl):
  bq X (.Call (.Name "max" p) [e] [⟨some "default",aB,cI⟩] pos) (î X.K v3 t ek):=by
 intro pins s σ H Q I h;refine yR (vN I bE hm ahN ?_ (by decide) (by decide));refine akF fH Ox (evalArgs_kw2 xE (bD (aF pos pins s σ H _ I h) λus s1⟨vs,H1,aR,r,q⟩=>bD ((Uc hd Vp) pos pins s1 σ H1 _ aR q) λws s2 hz=>?_) he);obtain⟨zs,ah,bH,rX,cv⟩:=hz;obtain⟨sU,a,ns,rfl,rfl,a8,rN,bz⟩:=cv;obtain⟨u,rfl,ez⟩:=vals1 r;obtain⟨eJ,rfl,hy⟩:=vals1 rX;cases ez;rw[Ow];obtain⟨its,cf,pl,hz⟩:=bH.list a8;have hlen:ns.length=its.length:=by have:=cf.length;rwa [bk]at this
 refine aeq (val:=λi=>ns.getD i 0) (items:=its.toArray) (bH.ok.hd aq) pl.isList (λi v ev=>?_) (λz h' a5 bP=>?_) λz t h' a5 bP=>?_
 .have s7:its[i]?=some v:=by simpa using ev
  have ak:i<ns.length:=by rw[hlen];exact(eb.mp s7).1
  obtain⟨u',bJ,b9⟩:=cf.get (x:=V.int (ns.getD i 0)) (i:=i) (by rw[cx,cF ak];simp[eF,ak]);rw[s7]at bJ;cases bJ;exact b9
 .have dk:ns=[]:=sH.mp (by rw[hlen];simpa using z);exact⟨sU,ah,bH.kept bP,hy,rN dk⟩
 .have dk:ns≠[]:=λe=>by rw[e]at hlen;have:its=[]:=sH.mp hlen.symm;rw[this]at z;simp at z
  refine⟨.int (v3 ns),ah,bH.kept bP,⟨t,?_⟩,bz dk⟩;unfold v3;rw[hlen];simp
noncomputable def pF(ns:fp):Int:=ns.getD (fX (λi j=>decide (ns.getD i 0<ns.getD j 0)) (ns.length-1)) 0
theorem ahO:iG "min"=some (.builtin "min"):=by decide+kernel
theorem agf{X:bo}{p cI:Pos}{t:fP}(aq:X.calm=true)(bE:jd X "min")(hm:X.mg "min"=none)(aF:gw X [e] t)(hd:bq X aB ek)(xE:(lY pos (l6 [⟨some "default",aB,cI⟩] X.env)).all (·.1.isSome)=true:=by rfl)(Ow:(lY pos (l6 [⟨some "default",aB,cI⟩] X.env)).filterMap (·.1)=[e8 "default"]:=by rfl)(he:dY [e] X.env=(false,eval e X.env)::dY [] X.env:=by rfl)(fH:(hp pos (dY [e] X.env)).any (·.1)=false:=by rfl)(Ox:(lY pos (l6 [⟨some "default",aB,cI⟩] X.env)).any (·.1.isNone)=false:=by rfl):
  bq X (.Call (.Name "min" p) [e] [⟨some "default",aB,cI⟩] pos) (î X.K pF t ek):=by
 intro pins s σ H Q I h;refine yR (vN I bE hm ahO ?_ (by decide) (by decide));refine akF fH Ox (evalArgs_kw2 xE (bD (aF pos pins s σ H _ I h) λus s1⟨vs,H1,aR,r,q⟩=>bD ((Uc hd Vp) pos pins s1 σ H1 _ aR q) λws s2 hz=>?_) he);obtain⟨zs,ah,bH,rX,cv⟩:=hz;obtain⟨sU,a,ns,rfl,rfl,a8,rN,bz⟩:=cv;obtain⟨u,rfl,ez⟩:=vals1 r;obtain⟨eJ,rfl,hy⟩:=vals1 rX;cases ez;rw[Ow];obtain⟨its,cf,pl,hz⟩:=bH.list a8;have hlen:ns.length=its.length:=by have:=cf.length;rwa [bk]at this
 refine aes (val:=λi=>ns.getD i 0) (items:=its.toArray) (bH.ok.hd aq) pl.isList (λi v ev=>?_) (λz h' a5 bP=>?_) λz t h' a5 bP=>?_
 .have s7:its[i]?=some v:=by simpa using ev
  have ak:i<ns.length:=by rw[hlen];exact(eb.mp s7).1
  obtain⟨u',bJ,b9⟩:=cf.get (x:=V.int (ns.getD i 0)) (i:=i) (by rw[cx,cF ak];simp[eF,ak]);rw[s7]at bJ;cases bJ;exact b9
 .have dk:ns=[]:=sH.mp (by rw[hlen];simpa using z);exact⟨sU,ah,bH.kept bP,hy,rN dk⟩
 .have dk:ns≠[]:=λe=>by rw[e]at hlen;have:its=[]:=sH.mp hlen.symm;rw[this]at z;simp at z
  refine⟨.int (pF ns),ah,bH.kept bP,⟨t,?_⟩,bz dk⟩;unfold pF;rw[hlen];simp
theorem ahP{ns:fp}(h:ns≠[]):v3 ns∈ns/\∀x∈ns,x<=v3 ns:=by
 have aN:0<ns.length:=zi.mpr h;obtain⟨a,b⟩:=UA (val:=λi=>ns.getD i 0) (ns.length-1);have ak:fX (λi j=>decide (ns.getD i 0>ns.getD j 0)) (ns.length-1)<ns.length:=by omega
 refine⟨?_,λx av=>?_⟩
 .unfold v3;rw[eF,cF ak];exact sG ak
 .obtain⟨j,bg,rfl⟩:=Lv.mp av;have:=b j (by omega);have e:ns.getD j 0=ns[j]:=by rw[eF,cF bg];rfl
  rw[<-e];exact this
theorem Wf{ns:fp}(h:ns≠[]):pF ns∈ns/\∀x∈ns,pF ns<=x:=by
 have aN:0<ns.length:=zi.mpr h;obtain⟨a,b⟩:=TG (val:=λi=>ns.getD i 0) (ns.length-1);have ak:fX (λi j=>decide (ns.getD i 0<ns.getD j 0)) (ns.length-1)<ns.length:=by omega
 refine⟨?_,λx av=>?_⟩
 .unfold pF;rw[eF,cF ak];exact sG ak
 .obtain⟨j,bg,rfl⟩:=Lv.mp av;have:=b j (by omega);have e:ns.getD j 0=ns[j]:=by rw[eF,cF bg];rfl
  rw[<-e];exact this
theorem acK{A:du}{R:my->aK->Prop}{bR wr:cj}{n:Nat}{P:Nat->Value->Prop}{St:Nat->Heap->Prop}(W:sS prog w A.in1 I bR wr n P St)(fy:hG)(aq:CmpOf prog w A.in1 .Lt P fy)(S:Addr)(jY:S∉bR):
  ∀(k j:Nat)(s:aK)(gu:Value)(c:Nat),n-(j+1)=k->j+1<=n->St (j+1) s.heap->P (fX fy j) gu->s.heap.get? S=some ⟨.type "list",none,.seq #[gu,gu] c,#[]⟩->
   (∀v h' a5,P (fX fy (n-1)) v->(∀b o,b∉wr->b≠S->s.heap.get? b=some o->h'.get? b=some o)->R (.ok (.ret v)) {s with heap:=h',toks:=a5})->
   iH (aX prog w) A (.builtin "min.loop" ⟨[.ref I,.none,.ref S],[]⟩) R s:=by
 have wS:S∉wr:=λh=>jY (W.sub _ h);have nm:(toString "min"++toString ".loop":String)="min.loop":=by decide
 intro k
 induction k with
 |zero=>
  intro j s gu c aP bg st iu hO cK;have jn:j+1=n:=by omega
  refine kz Cu ?_;rw[mm n1 _];refine gy (vX (.ref S)) (r_ hO rfl (gy (tryCatch (ig (.ref I)) _) (oK (W.done s _ _ (jn▸st) λh' a5 bP=>?_))));refine gy (yJ S (λ_=>#[])) (sa (bP S _ wS hO) rfl (au (pR (aT ?_))));exact cK gu _ a5 (by rw[<-jn];exact iu) λb o cE c' e=>(je _ _ (c2 c')).trans (bP b o cE e)
 |succ k a3=>
  intro j s gu c aP bg st iu hO cK;have lt:j+1<n:=by omega
  refine kz Cu ?_;rw[mm n1 _];refine gy (vX (.ref S)) (r_ hO rfl (gy (tryCatch (ig (.ref I)) _) (oK (W.item (j+1) s _ _ lt st λv h' a5 U eR bP=>?_))));have jS:=bP S _ wS hO;refine gy (tryCatch (mU [v,v] (I3 .Lt v gu >>=_)) _) (oK (hA (au (aq (j+1) (fX fy j) v gu _ _ _ U iu (au (hA (ml (au (pR (aT ?_))))))))));cases aa:fy (j+1) (fX fy j)with
  |true=>
   simp only[if_true];refine au (sa jS rfl (au (pR ?_)));rw[nm];refine aT ⟨lF n1 _,a3 (j+1) _ v _ (by omega) lt (W.frame _ _ _ eR λb nq o e=>(je _ _ (λh:S=b=>jY (by rw[h];exact nq))).trans e) (by simp only[fX,aa,if_true];exact U) (kr _ jS rfl) λv2 ai lI lG ly=>?_⟩;exact cK v2 ai lI lG λb o cE c' e=>ly b o cE c' ((je _ _ (c2 c')).trans (bP b o cE e))
  |false=>
   simp only[m9,if_false];refine au (pR ?_);rw[nm];exact aT ⟨lF n1 _,a3 (j+1) _ gu c (by omega) lt eR (by simp only[fX,aa,m9,if_false];exact iu) jS λv2 ai lI lG ly=>cK v2 ai lI lG λb o cE c' e=>ly b o cE c' (bP b o cE e)⟩
theorem aaG{A:du}{R:my->aK->Prop}{bR wr:cj}{n:Nat}{P:Nat->Value->Prop}{St:Nat->Heap->Prop}(W:sS prog w A.in1 I bR wr n P St)(fy:hG)(aq:CmpOf prog w A.in1 .Lt P fy)(S:Addr)(jY:S∉bR){s:aK}{c:Nat}(st:St 0 s.heap)(hO:s.heap.get? S=some ⟨.type "list",none,.seq #[] c,#[]⟩)(hz:0<n)(ag:∀v h' a5,P (fX fy (n-1)) v->(∀b o,b∉wr->b≠S->s.heap.get? b=some o->h'.get? b=some o)->R (.ok (.ret v)) {s with heap:=h',toks:=a5}):
  iH (aX prog w) A (.builtin "min.loop" ⟨[.ref I,.none,.ref S],[]⟩) R s:=by
 have wS:S∉wr:=λh=>jY (W.sub _ h);have nm:(toString "min"++toString ".loop":String)="min.loop":=by decide
 refine kz Cu ?_;rw[mm n1 _];refine gy (vX (.ref S)) (r_ hO rfl ?_);refine gy (tryCatch (ig (.ref I)) _) (oK (W.item 0 s _ _ hz st λv h' a5 U eR bP=>?_));have jS:=bP S _ wS hO;refine gy (yJ S (λ_=>#[v,v])) (sa jS rfl ?_);rw[nm];refine aT ⟨lF n1 _,acK W fy aq S jY _ 0 _ v _ rfl hz (W.frame _ _ _ eR λb nq o e=>(je _ _ (λh:S=b=>jY (by rw[h];exact nq))).trans e) U (kr _ jS rfl) λv2 ai lI lG ly=>?_⟩;exact ag v2 ai lI lG λb o cE c' e=>ly b o cE c' ((je _ _ (c2 c')).trans (bP b o cE e))
theorem acL(a:Value):rk "min" ⟨[a],[]⟩:=by unfold rk;kernel_rfl
theorem aei{A:du}{E:cc}{s:aK}{items:kV}{val:Nat->Int}{Q:cc}(dr:A.in1.handled=none)(aw:s.heap.IsList l items)(bj:∀i v,items[i]?=some v->∃t,v=iF (val i) t)(hz:0<items.size)(ag:∀t h' a5,(∀b o,s.heap.get? b=some o->h'.get? b=some o)->Q (iF (val (fX (λi j=>decide (val i<val j)) (items.size-1))) t) {s with heap:=h',toks:=a5}):
  aL (aX prog w) A (call (.builtin "min") [.ref l] []) Q E s:=by
 have nm:(toString "min"++toString ".loop":String)="min.loop":=by decide
 obtain⟨ol,lj,_⟩:=id aw;have i3:l≠s.heap.objs.size:=dR (c5 lj);refine VY adO adR adN (acL _) ?_;refine gy (SX "min" ["key","default"] 0 ⟨[],[]⟩) (yS (show _=pure [none,none]from rfl) ?_);refine au (aT ?_);refine au (Bu aw ?_);refine au (m7 ?_);rw[nm];have W:=CQ (prog:=prog) (w:=w) (A:=A.in1) dr s.heap.objs.size l i3 items;have kq:(s.heap.push (kN l)).objs.size=s.heap.objs.size+1:=sA ..;have cz:=c5 lj;have uZ:(s.heap.push (kN l)).get? s.heap.objs.size=some (kN l):=fM _ rfl;have gR:=aw.push (kN l);have k1:∀b o,s.heap.get? b=some o->(s.heap.push (kN l)).get? b=some o:=λb o e=>dm _ e;dsimp only;generalize s.heap.push (kN l)=qz at kq uZ gR k1⊢;refine aT ⟨lF n1 _,aaG W _ (CmpOf.ints_lt val bj) qz.objs.size (by rw[kq];simp only[dv,eo,or_false,not_or];exact⟨LI _,c2 (vR lj)⟩) ⟨⟨_,dm _ uZ,rfl,rfl⟩,gR.push _⟩ (fM _ rfl) hz λv h' a5 U bP=>?_⟩;obtain⟨dU,rfl⟩:=bj _ v U;exact ag dU h' a5 λb o e=>bP b o (by simp only[dv,eo,or_false];exact BV e) (by rw[kq];exact vR e) (dm _ (k1 b o e))
theorem acM{X:bo}(aq:X.calm=true):jV X (.builtin "min") (λxs H Q=>∃a ns,xs=[.ref a]/\aC X.K H a (ns.map V.int)/\ns≠[]/\Q (.int (pF ns)) H):=by
 intro pins s σ H xs us Q I r h;obtain⟨a,ns,rfl,a8,dk,q⟩:=h;obtain⟨u,rfl,ez⟩:=vals1 r;cases ez;obtain⟨its,cf,pl,hz⟩:=I.list a8;have hlen:ns.length=its.length:=by have:=cf.length;rwa [bk]at this
 refine aei (val:=λi=>ns.getD i 0) (items:=its.toArray) (I.ok.hd aq) pl.isList (λi v ev=>?_) (by rw[fN,<-hlen];exact zi.mpr dk) λt h' a5 bP=>?_
 .have s7:its[i]?=some v:=by simpa using ev
  have ak:i<ns.length:=by rw[hlen];exact(eb.mp s7).1
  obtain⟨u',bJ,b9⟩:=cf.get (x:=V.int (ns.getD i 0)) (i:=i) (by rw[cx,cF ak];simp[eF,ak]);rw[s7]at bJ;cases bJ;exact b9
 .refine⟨.int (pF ns),H,I.kept bP,⟨t,?_⟩,q⟩;unfold pF;rw[hlen];simp
end cH
namespace df
open PySem ar cH di
noncomputable def TabAt(H:ae)(p:Addr)(D:mE):Prop:=∃kvs,gJ H p (.bN kvs)/\Tab kvs D
theorem TabAt.get{D:mE}(T:TabAt H p D)(g:Str):ir H p (.str g) ((D g).map V.int):=by obtain⟨kvs,r,t⟩:=T;exact .inl ⟨kvs,ff g,r,rfl,(t.at_ g).symm⟩
noncomputable def uC(Da Db:mE)(g:Str)(t:Int):Bool:=match Db g with
 |none=>false
 |some u=>decide (some (t+u)=Da g)
inductive W8(vs:aW)(H:ae)(Q:a')(el:bX):Prop where
 |mk (r f fj iu:Addr) (hs:bF) (d:di.gJ) (kvs:List (bA×ar.V)) (g:Str) (Da Db:mE) (bM:vs=[.ref r,.ref f,.str g]) (bu:H r=some (.tup (m4 hs d))) (bW:H f=some (.bN kvs)) (cW:cy kvs (ff (S (hs.getD d.a [])):bA)=some (.ref fj)) (dD:cy kvs (ff (S (hs.getD d.b [])):bA)=some (.ref iu)) (eS:TabAt H fj Da) (hB:TabAt H iu Db) (lN:(∀u,Db g=some u->∃v,Da g=some v)) (nT:Q (.aA (uC Da Db g d.t)) H)
noncomputable abbrev iS(hs:bF)(ds:ck)(h:Str):Str->Option Int:=λg=>d3.dist (jP hs ds) h g
noncomputable def JI(hs:bF)(ds:ck)(i:Int):Str:=S (hs.getD (ds.getD i.toNat e6).b [])
noncomputable def uc(hs:bF)(ds:ck)(h g:Str)(i:Int):Bool:=uC (iS hs ds h) (iS hs ds (JI hs ds i)) g (ds.getD i.toNat e6).t
noncomputable def fit(hs:bF)(ds:ck)(h g:Str):List Int:=(ja hs ds (·.a) h).filter (uc hs ds h g)
noncomputable def best(hs:bF)(ds:ck)(h g:Str):Int:=pF (fit hs ds h g)
theorem Wg(od:∀e∈jP hs ds,1<=e.t){v:Int}(bj:iS hs ds h g=some v)(aM:h≠g):fit hs ds h g≠[]:=by
 obtain⟨_,e,he,u,a4,jo,ev⟩:=(d3.Yu od g).other od aM bj;obtain⟨d,hd,rfl⟩:=b7.mp he;obtain⟨i,ak⟩:=sF hd;have aw:=(eb.mp ak).1;have cD:ds.getD i e6=d:=AV ak;refine List.ne_nil_of_mem (a:=(i:Int)) (gj.mpr ⟨?_,?_⟩)
 .unfold ja EW;refine b7.mpr ⟨i,gj.mpr ⟨j5.mpr aw,?_⟩,rfl⟩;have Yb:S (hs.getD d.a [])=h:=a4;rw[cD,Yb];exact cT rfl
 .unfold uc uC JI;rw[kQ,cD];have alb:iS hs ds (S (hs.getD d.b [])) g=some u:=jo;have s7:v=u+d.t:=ev;rw[alb,bj];refine cT ?_;congr 1;omega
theorem TH(od:∀e∈jP hs ds,1<=e.t){g:Str}{v:Int}(bj:iS hs ds h g=some v)(aM:h≠g):best hs ds h g∈ja hs ds (·.a) h/\uc hs ds h g (best hs ds h g)=true:=
 gj.mp (Wf (Wg od bj aM)).1
structure pU(k4:Str->Str->Int)(L:cb)(kvs:en)(M:Str->Str->Prop):Prop where
 yes:∀h g,M h g->cy kvs (f7 h g)=some (.int (k4 h g))
 no:∀h g,¬M h g->cy kvs (f7 h g)=none
 key:∀k∈kvs.map (·.1),∃h g,k=f7 h g/\h∈L/\g∈L
 aI:(kvs.map (·.1)).Nodup
theorem Bl{h' g':Str}(e:f7 h g=f7 h' g'):h=h'/\g=g':=by unfold f7 at e;simp only[Lk,Sum.inr.injEq,and_true]at e;exact e
theorem TJ{κ:Type}[DecidableEq κ]{kvs:List (κ×ar.V)}{k:κ}(v:ar.V)(h:cy kvs k=some u):(eN kvs k v).map (·.1)=kvs.map (·.1):=by unfold eN;rw[bB (by rw[pk,h];rfl),gU];refine sI λq _=>?_;show(if q.1=k then(q.1,v)else q).1=q.1;split<;>rfl
theorem pU.put{k4:Str->Str->Int}{L:cb}{kvs:en}{M:Str->Str->Prop}(B:pU k4 L kvs M){h g:Str}(dr:h∈L)(bE:g∈L):pU k4 L (eN kvs (f7 h g) (.int (k4 h g))) (λh' g'=>M h' g'\/(h'=h/\g'=g)):=by
 refine⟨λh' g' m=>?_,λh' g' m=>?_,?_,?_⟩
 .rw[rG];by_cases e:f7 h' g'=f7 h g
  .obtain⟨rfl,rfl⟩:=Bl e;rw[bB rfl]
  .rw[bp e];refine B.yes h' g' (m.resolve_right λz=>e ?_);rw[z.1,z.2]
 .rw[rG,bp λe=>m (.inr (Bl e))];exact B.no h' g' λz=>m (.inl z)
 .intro k aP;cases bj:cy kvs (f7 h g)with
  |none=>
   rw[D' _ bj,fm]at aP;rcases hl.mp aP with z|z
   .exact B.key k z
   .exact⟨h,g,g5.mp z,dr,bE⟩
  |some u=>
   rw[TJ _ bj]at aP;exact B.key k aP
 .cases bj:cy kvs (f7 h g)with
  |none=>exact afg _ B.aI bj
  |some u=>rw[TJ _ bj];exact B.aI
theorem pU.iff{k4:Str->Str->Int}{L:cb}{kvs:en}{M wK:Str->Str->Prop}(B:pU k4 L kvs M)(e:∀h g,M h g↔wK h g):pU k4 L kvs wK:=
 ⟨λh g m=>B.yes h g ((e h g).mpr m),λh g m=>B.no h g λz=>m ((e h g).mp z),B.key,B.aI⟩
theorem pU.c6{k4:Str->Str->Int}{L:cb}{kvs:en}{M:Str->Str->Prop}(B:pU k4 L kvs M)(aw:L.length<=12):kvs.length<=144:=by
 have ag:=AA (L:=L.flatMap λh=>L.map (f7 h)) B.aI λk aP=>by obtain⟨h,g,rfl,dr,bE⟩:=B.key k aP;exact Lu.mpr ⟨h,dr,b7.mpr ⟨g,bE,rfl⟩⟩
 have ai:(L.flatMap λh=>L.map (f7 h)).length=L.length*L.length:=by simp[ab2,List.map_const']
 rw[ai,bk]at ag;exact eP ag (ac6 aw aw)
theorem agg(ax:aH H H')(z:f_):aH (upd H a z) (upd H' a z):=λb o e=>by
 by_cases aa:b=a
 .rw[aa,aQ]at e⊢;exact e
 .rw[aD aa]at e⊢;exact ax b o e
theorem aej{H:ae}(aF:H a=some u)(ax:aH (upd H a z) H'):aH H (upd H' a u):=λb o e=>by
 by_cases aa:b=a
 .rw[aa,aQ];rw[aa,aF]at e;exact e
 .rw[aD aa];exact ax b o (by rw[aD aa];exact e)
section
variable{P:cG}{w:bS}{K:aY}{mg:cw}{base:Heap}
noncomputable abbrev GI:Stmt:=top 51
theorem W9:c3 ["road","far_from","goal","behind"] Cc (cn GI):={}
theorem ahQ(F:cC K "begins_shortest" "begins_shortest" GI f fd):aS P w K mg base bh 1 f fd Cc W8:=by
 refine F.ok W9 (λ_ A _ s H vs Q E ao h=>?_)
 .obtain⟨r,fA,fj,iu,hs,d,kvs,g,Da,Db,rfl,cK,hf,mj,gu,mD,qc,bj,q⟩:=h;refine⟨_,(a_ (dI (i:=3) W9.aI rfl (cR rfl) (Tt (iO ao) (vF (iO ao) (U 1) (bG c1 (U 0) aV (λ_ _=>rfl)) (λ_ _=>rfl)) (U 2) ⟨rfl,rfl,rfl,rfl⟩))
   (bb (cp (hM (ke JS (U 3) hL (dB _)) (l5 (ke jW (cq i1 (bG c1 (U 0) aV (λ_ _=>rfl)) (U 3)) (vF (iO ao) (vF (iO ao) (U 1) (bG c1 (U 0) aV (λ_ _=>rfl)) (λ_ _=>rfl)) (U 2) (λ_ _=>rfl)) (dB _))))))),?_⟩
  have ga:=ir.k (k:=ff (S (hs.getD d.a []))) hf;have xx:=ir.k (k:=ff (S (hs.getD d.b []))) hf;rw[mj]at ga;rw[gu]at xx;have bQ:=mD.get g;have c_:=qc.get g;unfold uC at q;have O6:za H iu:=by obtain⟨Pf,r0,_⟩:=qc;exact .inl ⟨Pf,r0⟩
  refine⟨_,rfl,_,rfl,r,_,_,_,rfl,rfl,bI.of cK,rfl,fA,_,rfl,xx,iu,rfl,O6,_,rfl,_,c_,_,rfl,?_⟩;cases aa:Db g with
  |none=>
   rw[aa]at q;exact⟨rfl,_,rfl,dw (by decide) q⟩
  |some u=>
   rw[aa]at q;obtain⟨v,bj⟩:=bj u aa;have NH:=bQ;rw[bj]at NH q;refine⟨rfl,_,rfl,eQ (by simp) ⟨_,rfl,r,_,_,_,rfl,rfl,bI.of cK,rfl,_,rfl,_,_,rfl,rfl,_,rfl,_,rfl,r,_,_,_,rfl,rfl,bI.of cK,rfl,fA,_,rfl,ga,_,rfl,fj,_,rfl,NH,rfl,?_⟩⟩;have xm:decide (V.int (d.t+u)=V.int v)=decide (some ((d.t:Int)+u)=some v):=by simp
   rw[xm];exact q
theorem TK{hs:bF}{y:Str}(h:y∈hs.map S):inD (.str y) (bl hs)=true:=by
 obtain⟨x,av,rfl⟩:=b7.mp h;obtain⟨k,aP,eU⟩:=mr av;have e:hs.getD k []=x:=by rw[eF,cF aP,eU];rfl
 have:=Ku aP
 rwa [e]at this
theorem J8{hs:bF}{h g:Str}(a:h∈hs.map S)(b:g∈hs.map S)(n:h≠g):hJ (bl hs) (.str h) (.str g)=true:=by unfold hJ;rw[TK a,TK b,Tx,dn n];rfl
theorem vS{hs:bF}(G:Good hs){c:Str}(h:c∈hs.map S):dH H (.str c) (.str c):=by obtain⟨x,av,rfl⟩:=b7.mp h;have n:=G.nm x av;exact .str _ (by rw[BP];have:=n.2.1;omega) (Jo n)
noncomputable def W'(H1 H:ae)(q:Addr)(n_:List (bA×ar.V))(hs:bF)(ds:ck)(h:Str):Prop:=∃(p:Addr)(bZ:List (bA×ar.V)),cy n_ (ff h:bA)=some (.ref p)/\p≠q/\H1 p=none/\H p=some (.bN bZ)/\Tab bZ (iS hs ds h)
theorem pG{H H':ae}(ax:aH H H')(aN:H' p=none):H p=none:=by
 cases e:H p with
 |none=>rfl
 |some o=>rw[ax _ _ e]at aN;cases aN
theorem gE{H:ae}(aF:H a=some o)(aa:H b=none):a≠b:=λe=>by rw[e,aa]at aF;cases aF
theorem Xj{hs:bF}{i:Nat}(e:(de hs)[i]?=some v):∃h,v=.str h/\(hs.map S)[i]?=some h:=by unfold de at e;rw[cx]at e;obtain⟨x,av,rfl⟩:=e0.mp e;exact⟨S x,rfl,by rw[cx,av];rfl⟩
theorem Ĵ{κ:Type}[DecidableEq κ]{k:κ}{x:ar.V}:∀{kvs:List (κ×ar.V)},(k,x)∈kvs->(cy kvs k).isSome=true:=λ{kvs}h=>by rw[<-pk];exact q8.mpr ⟨_,h,cT rfl⟩
theorem RS{κ:Type}[DecidableEq κ]{k:κ}{kvs:List (κ×ar.V)}(h:(cy kvs k).isSome=true):∃(j:Nat)(x:ar.V),kvs[j]?=some (k,x):=by rw[<-pk]at h;obtain⟨⟨ef,x⟩,hm,e⟩:=q8.mp h;obtain⟨j,bg⟩:=sF hm;exact⟨j,x,by rw[bg,show ef=k from kL e]⟩
theorem agh{hs:bF}{ds:ck}(R:∀d∈ds,d.Ok hs.length){h g:Str}{u:Int}(p:d3.Path (jP hs ds) h g u)(hm:h∈hs.map S):g∈hs.map S:=by
 cases p with
 |nil=>exact hm
 |snoc e _ he=>
  obtain⟨d,hd,rfl⟩:=b7.mp he;exact Bi (R d hd).b
theorem TL{hs:bF}{ds:ck}{h:Str}{i:Nat}(e:((ja hs ds (·.a) h).map V.int)[i]?=some v):∃(k:Nat)(d:di.gJ),v=.int (k:Int)/\ds[k]?=some d/\S (hs.getD d.a [])=h:=by obtain⟨z,hz,rfl⟩:=b7.mp (dV e);unfold ja EW at hz;obtain⟨k,aP,rfl⟩:=b7.mp hz;obtain⟨ag,ai⟩:=gj.mp aP;have aw:=j5.mp ag;have az:ds[k]?=some ds[k]:=cF aw;refine⟨k,ds[k],rfl,az,?_⟩;rw[AV az]at ai;have:=kL ai;cases this;rfl
theorem AX{b6:TE}{g:fg}{u:e'}{D:Ends}(h:b6 σ H λv H1=>g v σ H1 (u D)):iQ (so b6 g) u D σ H:=h
end
theorem agi{K:aY}{wi:TI}{tt:TT}{b6:TE}{rest:ar.St}{H:ae}{Q:a'}{xs:aW}(hw:∀R:fe->ae->Prop,(∀p H1,H p=none->aH H H1->H1 p=some (.lst xs)->R (iW K p) H1)->wi σ H R)(gd:hc cs σ=none::rest)(aw:xs.length<sizeLine)(p:ar.V->Bool)(f:ar.V->ar.V)(test:∀(i:Nat)(x:ar.V)(ah:ae)(R:Bool->ae->Prop),xs[i]?=some x->aH H ah->(∀ba,aH ah ba->R (p x) ba)->tt (some x::rest) ah R)(elt:∀(i:Nat)(x:ar.V)(ah:ae)(R:a'),xs[i]?=some x->p x=true->aH H ah->(∀ba,aH ah ba->R (f x) ba)->b6 (some x::rest) ah R)(fin:∀(D:Addr)(H':ae),H D=none->H' D=some (.lst ((xs.filter p).map f))->aH H H'->Q (.ref D) H'):mf wi cs (ha 0) tt b6 σ H Q:=
 hw _ λq H1 avp s1 a8=>LO gd (nA (aC.of a8)) aw p f (λi x ah R ex ax h=>test i x ah R ex (s1.trans ax) h) (λi x ah R ex apa ax h=>elt i x ah R ex apa (s1.trans ax) h) λD H' kJ bl ax=>fin D H' (pG s1 kJ) bl (s1.trans ax)
noncomputable def Told(hs:bF)(ds:ck)(i:Nat)(h g:Str):Prop:=(∃j,j<i/\(hs.map S)[j]?=some h)/\h≠g/\(iS hs ds h g).isSome=true
noncomputable def Tl(hs:bF)(ds:ck)(i:Nat)(h:Str)(bZ:List (bA×ar.V))(j:Nat)(h' g:Str):Prop:=Told hs ds i h' g\/(h'=h/\h≠g/\∃pq z,pq<j/\bZ[pq]?=some (ff g,z))
section
variable{hs:bF}{ds:ck}{i j:Nat}{h g:Str}{bZ:List (bA×ar.V)}{z:ar.V}
theorem Tl.zero(h' g':Str):Told hs ds i h' g'↔Tl hs ds i h bZ 0 h' g':=⟨.inl,λz=>z.resolve_right λ⟨_,_,pq,_,y,_⟩=>bx y (Cm _)⟩
theorem Tl.less:Tl hs ds i h bZ j h' g'->Tl hs ds i h bZ (j+1) h' g'
 |.inl y=>.inl y
 |.inr ⟨a,b,pq,dk,bg,ee⟩=>.inr ⟨a,b,pq,dk,sN bg,ee⟩
theorem Tl.more(eU:bZ[j]?=some (ff g,z))(t:Tl hs ds i h bZ (j+1) h' g'):Tl hs ds i h bZ j h' g'\/(h'=h/\h≠g'/\g'=g):=by
 rcases t with y|⟨a,b,pq,dk,bg,ee⟩
 .exact .inl (.inl y)
 .rcases wM pq j with y|y
  .exact .inl (.inr ⟨a,b,pq,dk,y,ee⟩)
  .have:pq=j:=ac0 (ac1 bg) y;subst this;rw[eU]at ee;cases ee;exact .inr ⟨a,b,rfl⟩
theorem Tl.skip(eU:bZ[j]?=some (ff h,z))(h' g':Str):Tl hs ds i h bZ j h' g'↔Tl hs ds i h bZ (j+1) h' g':=⟨.less,λt=>(Tl.more eU t).elim id λ⟨_,b,c⟩=>bx c.symm b⟩
theorem Tl.put(eU:bZ[j]?=some (ff g,z))(ne:h≠g)(h' g':Str):(Tl hs ds i h bZ j h' g'\/(h'=h/\g'=g))↔Tl hs ds i h bZ (j+1) h' g':=⟨λt=>t.elim .less λ⟨a,b⟩=>.inr ⟨a,b▸ne,j,z,ur _,b▸eU⟩,λt=>(Tl.more eU t).imp id λ⟨a,_,c⟩=>⟨a,c⟩⟩
theorem Tl.end(mD:Tab bZ (iS hs ds h))(sZ:(hs.map S)[i]?=some h)(h' g':Str):Tl hs ds i h bZ bZ.length h' g'↔Told hs ds (i+1) h' g':=by
 constructor
 .rintro(⟨⟨j,bg,dy⟩,b,c⟩|⟨rfl,b,pq,z,_,ee⟩)
  .exact⟨⟨j,sN bg,dy⟩,b,c⟩
  .refine⟨⟨i,ur _,sZ⟩,b,?_⟩;have:=Ĵ (dV ee);rw[mD.at_]at this;simpa using this
 .rintro⟨⟨j,bg,dy⟩,b,c⟩;by_cases e:h'=h
  .subst e;have:(cy bZ (ff g':bA)).isSome=true:=by rw[mD.at_];simpa using c
   obtain⟨pq,z,ee⟩:=RS this;exact .inr ⟨rfl,b,pq,z,(eb.mp ee).1,ee⟩
  .refine .inl ⟨⟨j,?_,dy⟩,b,c⟩;rcases wM j i with y|y
   .exact y
   .have:j=i:=ac0 (ac1 bg) y;subst this;rw[sZ]at dy;cases dy;exact bx rfl e
end
structure pn(hs:bF)(ds:ck)(kvs:en):Prop where
 k4:pU (best hs ds) (hs.map S) kvs (λh g=>h∈hs.map S/\h≠g/\(iS hs ds h g).isSome=true)
section
variable{P:cG}{w:bS}{K:aY}{mg:cw}{base:Heap}
noncomputable abbrev Jj:Stmt:=top 52
theorem ud:c3 ["net","roads","far_from","house","ways","goal","fitting"] ["net"] (cn Jj):={}
inductive Xk(C aO:Addr)(vs:aW)(H:ae)(Q:a')(el:bX):Prop where
 |mk (n bL br:Addr) (hs:bF) (rs:cj) (ds:ck) (bM:vs=[.ref n]) (bu:i6 aO H n bL br (de hs) (aG rs)) (bW:Good hs) (cW:hr H hs rs ds) (dD:rs.length<=40) (eS:∀(x t:Addr)(H':ae)(kvs:en),H x=none->H t=none->aH H H'->qE C aO H' x n t bL br (de hs) (aG rs) kvs->pn hs ds kvs->Q (.ref x) H')
inductive ajq(n dz d_ qL:Addr)(hs:bF)(ds:ck)(H1:ae)(i:Nat)(σ:ar.St)(b':ae):Prop where
 |mk (n_:List (bA×ar.V)) (yK:kW) (bM:σ=[some (.ref n),some (.ref dz),some (.ref d_),yK,none,none,none]) (bu:aH H1 b') (bW:b' qL=some (.lst (de hs))) (cW:b' d_=some (.bN n_)) (dD:n_.length<=i) (eS:∀j h,j<i->(hs.map S)[j]?=some h->W' H1 b' d_ n_ hs ds h)
inductive ajr(C af n dz d_ x t kn:Addr)(hs:bF)(ds:ck)(b':ae)(i:Nat)(σ:ar.St)(jH:ae):Prop where
 |mk (kvs:en) (yK qZ pN:kW) (bM:σ=[some (.ref n),some (.ref dz),some (.ref d_),yK,some (.ref x),qZ,pN]) (bu:aH b' jH) (bW:jH kn=some (.lst (de hs))) (cW:jH x=some (.ins C af (rO n t))) (dD:jH t=some (.d4 kvs)) (eS:pU (best hs ds) (hs.map S) kvs (Told hs ds i))
inductive ajs(C af n dz d_ x t kn fj:Addr)(hs:bF)(ds:ck)(b':ae)(o:Obj)(bZ:List (bA×ar.V))(h:Str)(i:Nat)(j:Nat)(σ:ar.St)(iV:ae):Prop where
 |mk (kvs:en) (qZ pN:kW) (bM:σ=[some (.ref n),some (.ref dz),some (.ref d_),some (.str h),some (.ref x),qZ,pN]) (bu:aH (upd b' fj (.fi o (.bN bZ))) iV) (bW:iV kn=some (.lst (de hs))) (cW:iV x=some (.ins C af (rO n t))) (dD:iV t=some (.d4 kvs)) (eS:pU (best hs ds) (hs.map S) kvs (Tl hs ds i h bZ j))
theorem ail(F:cC K "shortest" "shortest" Jj f fd)(B:fk mg)(c0:vZ K C)(gz:eh K aO)(Ey:mg "Ways"=some (.ref C))(kZ:cS K aO "houses" "Net.houses" AJ eA f1 dJ)(rn:aS P w K mg base bh 1 f1 dJ eA (I0 aO))(qn:cS K aO "roads" "Net.roads" Ex eA f2 eV)(Aq:aS P w K mg base bh 1 f2 eV eA (Sx aO))(qp:cS K aO "out_of" "Net.out_of" CB ni cU h8)(As:aS P w K mg base (f9 P w) 2 cU h8 ni (L5 aO gP (·.a)))(uG:cY K mg "least_turns_from" Ff Cg f4 qs)(Pb:aS P w K mg base bh 2 f4 qs Cg (Uz K))(uI:cY K mg "begins_shortest" GI Cc e_ C6)(apS:aS P w K mg base bh 1 e_ C6 Cc W8)(agj:p6 K C s9)(xR:lP K C "Ways.__init__" Jp zw s9 Nu)(Qy:aS P w K mg base bh 1 s9 Nu zw (Xt C))(qi:cS K C "set_way" "Ways.set_way" Ek nh C5 C7)(z3:aS P w K mg base (f9 P w) 3 C5 C7 nh (My C aO gP jg)):
  aS P w K mg base bh 4 f fd ["net"] (Xk C aO):=by
 have kd:=c0.cl;refine F.ok ud (λ_ A _ s H vs Q E ao h=>?_)
 .obtain⟨n,bL,br,hs,rs,ds,rfl,N,G,cK,c6,q⟩:=h;refine⟨_,(a_ (dI (i:=1) ud.aI rfl (o1 rfl) (k8 (U 0) gz qn.d1 Aq ao.mono qn.bd .nil cm))
   (a_ (dI (i:=2) ud.aI rfl (o1 rfl) Jn)
   (a_ (jR j6 rfl (kb (k8 (U 0) gz kZ.d1 rn ao.mono kZ.bd .nil cm)) (eu (i:=3) ud.aI rfl (cR rfl))
    (bb (A3 (iO ao) (U 2) (U 3) (ec Pb ao.mono (by rfl) uG.at_ uG.fn.cI uG.bd .nil cm (aj (U 1) (aj (U 3) aE))) rfl)))
   (a_ (dI (i:=4) ud.aI rfl (cR rfl) (vE agj Qy ao.mono (by rfl) Ey xR.bd .nil cm (aj (U 0) aE)))
   (a_ (jR j6 rfl (kb (k8 (U 0) gz kZ.d1 rn ao.mono kZ.bd .nil cm)) (eu (i:=3) ud.aI rfl (cR rfl))
    (bb (Wm (jR j6 rfl (TF (vF (iO ao) (U 2) (U 3) (λ_ _=>rfl))) (eu (i:=5) ud.aI rfl (o1 rfl))
    (bb (dQ (ej BD (U 5) (U 3) (dB _)) (a_ (qB (i:=6) ud.aI rfl rfl rfl (N':=["number","far_from","goal","roads"]) (cs:=[none,some 2,some 5,some 1]) rfl (kb (fx (U 0) gz qp.d1 As ao.mono qp.bd .nil yX (aj (U 3) aE))) rfl (by decide+kernel) rfl (by decide+kernel) (ju (kv.mpr ⟨rfl,(kv.mpr ⟨rfl,(kv.mpr ⟨rfl,(λp aN=>bx aN (eo))⟩)⟩)⟩)) rfl
    (.own (.jk rfl (.inl rfl) (.inl rfl) rfl (.jk rfl (.inl rfl) (.inl rfl) rfl (.jk rfl (.inl rfl) (.inl rfl) rfl .nil))))
    (λC s3 aZ bR eC=>⟨(eu (i:=0) (by show(["number","far_from","goal","roads"]:cb).Nodup;decide+kernel) rfl (.inl rfl)),(A0 (ip (ec apS ao.mono (by rfl) uI.at_ uI.fn.cI uI.bd .nil cm (aj (bG (Tn (K:=K) rfl) (U 3) (U 0) (λ_ _=>rfl)) (aj (U 1) (aj (U 2) aE)))))),(U 0)⟩))
   (bb (gK (fx (U 4) kd qi.d1 z3 ao.mono qi.bd .nil yX (aj (U 3) (aj (U 5) (aj (dj (acM rfl) (by rfl) B.min aiH (aj (U 6) aE)) aE))))))) dW))))))
   (bb (cp (U 4)))))))),?_⟩
  try dsimp only[lD,lu]
  obtain⟨h6,aM⟩:=N.ins;have hlen:=cK.len;have Yv:=G.c6;refine⟨_,rfl,n,h6,_,rfl,aM,rfl,n,bL,br,_,_,rfl,N,λdz AM=>?_⟩;have s1:aH H (upd H dz (.lst (aG rs))):=b8 AM;have ag:upd H dz (.lst (aG rs)) dz=some (.lst (aG rs)):=aQ;generalize upd H dz (.lst (aG rs))=H1 at s1 ag⊢
  refineλd_ x8=>?_
  have s2:aH H1 (upd H1 d_ (.bN [])):=b8 x8;have ai:upd H1 d_ (.bN []) d_=some (.bN []):=aQ;generalize upd H1 d_ (.bN [])=ah at s2 ai⊢;refine⟨_,rfl,n,h6,_,rfl,s2 _ _ (s1 _ _ aM),rfl,n,bL,br,_,_,rfl,(N.same s1).same s2,λqL Μ=>⟨qL,rfl,⟨_,aC.of aQ⟩,?_⟩⟩;have ξ:d_≠qL:=gE ai Μ;refine vy (xs:=de hs) (ajq n dz d_ qL hs ds H1)
   ⟨[],none,rfl,s2.trans (b8 Μ),aQ,by rw[aD ξ];exact ai,bU _,λj h bg _=>bx bg (Cm _)⟩ ?_ ?_ ?_
  .rintro i σ b' ak ⟨n_,yK,rfl,ax,bK,_⟩;exact aC.of bK
  .rintro i v σ b' ev ⟨n_,yK,rfl,ax,bK,hf,Ol,ny⟩;obtain⟨h,rfl,sZ⟩:=Xj ev;have nB:i<hs.length:=by have:=(eb.mp sZ).1;rwa [bk]at this
   refine⟨_,rfl,_,rfl,dz,hs,rs,ds,h,rfl,aC.of (ax _ _ ag),(cK.same s1).same ax,Yv,dV sZ,λp H' bZ D np r2 aP T L=>?_⟩;refine⟨_,rfl,_,rfl,d_,_,rfl,pM.k (k:=ff h) (r2 _ _ hf) (fF (by omega)),?_⟩;have aoA:H1 p=none:=pG ax np;have ne2:p≠d_:=c2 (gE hf np);have M8:D=iS hs ds h:=funext λg=>d3.akP L g;subst M8;refine⟨_,_,rfl,k7 x8 (ax.trans r2),by rw[aD (c2 ξ)];exact r2 _ _ bK,aQ,?_,λj h' bg Nb=>?_⟩
   .cases bj:cy n_ (ff h:bA)with
    |none=>rw[D' _ bj,hD];simp only[lR,B6];omega
    |some u=>rw[TC _ bj];omega
   .by_cases e:h'=h
    .subst e;exact⟨p,bZ,by rw[rG,bB rfl],ne2,aoA,by rw[aD ne2];exact aP,T⟩
    .have Ou:j<i:=by
      rcases wM j i with z|z
      .exact z
      .have:j=i:=by omega
       subst this;rw[sZ]at Nb;cases Nb;exact bx rfl e
     obtain⟨hx,anH,t4,ne',aot,pf,o5⟩:=ny j h' Ou Nb;exact⟨hx,anH,by rw[rG,bp λz=>e (Mi z)];exact t4,ne',aot,by rw[aD ne'];exact r2 _ _ pf,o5⟩
  .rintro σ b' ⟨n_,yK,rfl,ax,bK,hf,Ol,ny⟩;have YV:∀h∈hs.map S,W' H1 b' d_ n_ hs ds h:=λh hm=>by obtain⟨j,bg⟩:=sF hm;exact ny j h (by have:=(eb.mp bg).1;rw[bk]at this;unfold de;rw[bk];exact this) bg
   refine⟨_,rfl,λx af b1 tD avv=>⟨x,af,_,rfl,aQ,λt eB=>⟨rfl,?_⟩⟩⟩;have IB:b' t=none:=by refine pG (k7 (o:=.ins C af []) b1 (b8 (o:=.own x) tD)) eB
   have lJ:x≠t:=gE (H:=upd (upd b' af (.own x)) x (.ins C af [])) aQ eB;have Ei:aH b' (upd (upd (upd (upd b' af (.own x)) x (.ins C af [])) t (.d4 [])) x (.ins C af (rO n t))):=k7 b1 (k7 IB (k7 b1 (b8 tD)));have O1:upd (upd (upd (upd b' af (.own x)) x (.ins C af [])) t (.d4 [])) x (.ins C af (rO n t)) x=some (.ins C af (rO n t)):=aQ;have OV:upd (upd (upd (upd b' af (.own x)) x (.ins C af [])) t (.d4 [])) x (.ins C af (rO n t)) t=some (.d4 []):=by rw[aD (c2 lJ),aQ]
   show iQ _ _ _ _ (upd (upd (upd (upd b' af (.own x)) x (.ins C af [])) t (.d4 [])) x (.ins C af (rO n t)));generalize upd (upd (upd (upd b' af (.own x)) x (.ins C af [])) t (.d4 [])) x (.ins C af (rO n t))=aaQ at Ei O1 OV⊢;have Vt:i6 aO b' n bL br (de hs) (aG rs):=(N.same s1).same ax;refine⟨_,rfl,n,h6,_,rfl,Ei _ _ (ax _ _ (s1 _ _ aM)),rfl,n,bL,br,_,_,rfl,Vt.same Ei,λkn Iw=>⟨kn,rfl,⟨_,aC.of aQ⟩,?_⟩⟩;have aoB:b' kn=none:=pG Ei Iw;have an4:x≠kn:=gE O1 Iw;have π:t≠kn:=gE OV Iw;refine vy (xs:=de hs) (ajr C af n dz d_ x t kn hs ds b')
    ⟨[],yK,none,none,rfl,Ei.trans (b8 Iw),aQ,by rw[aD an4];exact O1,by rw[aD π];exact OV,⟨λh g m=>?_,λh g _=>rfl,λk aP=>(nomatch aP),uo⟩⟩ ?_ ?_ ?_
   .obtain⟨⟨j,bg,_⟩,_⟩:=m;exact bx bg (Cm _)
   .rintro i σ jH ak ⟨kvs,ă,qZ,pN,rfl,dO,c8,_⟩;exact aC.of c8
   .rintro i v σ jH ev ⟨kvs,ă,qZ,pN,rfl,dO,c8,av,dM,BT⟩;obtain⟨h,rfl,sZ⟩:=Xj ev;have hm:h∈hs.map S:=dV sZ;obtain⟨fj,bZ,mj,φ,υ,Aa,mD⟩:=YV h hm;have Τ:x≠fj:=c2 (gE Aa b1);have Qf:t≠fj:=c2 (gE Aa IB);have ο:kn≠fj:=c2 (gE Aa aoB);refine⟨fj,bZ,dO _ _ Aa,λo=>?_⟩;have YJ:=ir.k (k:=ff h) (show upd jH fj (.fi o (.bN bZ)) d_=some (.bN n_) by rw[aD (c2 φ)];exact dO _ _ hf);rw[mj]at YJ;refine⟨_,rfl,_,rfl,d_,_,rfl,YJ,fj,o,bZ,rfl,aQ,?_⟩;refine į (ajs C af n dz d_ x t kn fj hs ds b' o bZ h i)
     ⟨kvs,qZ,pN,rfl,agg dO _,by rw[aD ο];exact c8,by rw[aD Τ];exact av,by rw[aD Qf];exact dM,BT.iff Tl.zero⟩ ?_ ?_ ?_
    .rintro j σ iV ⟨kvs,qZ,pN,rfl,cP,_⟩;exact cP _ _ aQ
    .rintro j k z σ iV eU ⟨kvs,qZ,pN,rfl,cP,Hc,Ai,HM,BG⟩;obtain⟨g,sY⟩:=mD.gS _ (dV eU);have ak0:k=ff g:=sY;subst ak0;have od:∀e∈jP hs ds,1<=e.t:=λe he=>by obtain⟨d,hd,rfl⟩:=b7.mp he;exact(cK.ok d hd).t.1
     have anf:(iS hs ds h g).isSome=true:=by have:=Ĵ (dV eU);rw[mD.at_]at this;simpa using this
     obtain⟨v,bj⟩:=sP.mp anf;have bE:g∈hs.map S:=agh cK.ok ((d3.Yu od g).path h v bj) hm;refine⟨_,rfl,_,rfl,rfl,_,rfl,?_⟩;by_cases e:g=h
     .subst e;exact dw (show(!decide (V.str g=V.str g))=false by rw[cT rfl];rfl) ⟨kvs,_,pN,rfl,cP,Hc,Ai,HM,BG.iff (Tl.skip eU)⟩
     .refine eQ (show(!decide (V.str g=V.str h))=true by rw[dn λy=>e (V.str.inj y)];rfl) ?_;have i3:h≠g:=c2 e;have QZ:aH H (upd b' fj (.fi o (.bN bZ))):=s1.trans (k7 υ ax);have Vu:=N.same (QZ.trans cP);have NS:=cK.same (QZ.trans cP);have amX:=cP _ _ ((k7 (o:=.fi o (.bN bZ)) υ ax) _ _ ag);have amY:=cP _ _ (show upd b' fj (.fi o (.bN bZ)) d_=some (.bN n_) by rw[aD (c2 φ)];exact hf);refine AX ?_;refine agi (K:=K) (rest:=[some (.ref d_),some (.str g),some (.ref dz)]) (xs:=(ja hs ds (·.a) h).map V.int) (λR al4=>?_) rfl (by rw[bk];have:=Į hs ds (·.a) h;exact fF (by omega)) (λy=>match y with|.int i=>uc hs ds h g i|_=>false) id (λi y f' R da oD NR=>?_) (λi y f' R da _ i_ NR=>⟨_,rfl,NR f' (aH.refl _)⟩) (λD f' kJ bl oD=>?_)
      .exact⟨_,rfl,n,h6,_,rfl,(QZ.trans cP) _ _ aM,rfl,_,rfl,n,bL,br,hs,rs,ds,h,rfl,Vu,NS,c6,λ_ D5 ba aoC s5 dX=>⟨D5,rfl,⟨_,aC.of dX⟩,al4 D5 ba aoC s5 dX⟩,λy=>bx hm y⟩
      .obtain⟨k,d,rfl,ro,a4⟩:=TL da;obtain⟨r,fh⟩:∃r,rs[k]?=some r:=⟨_,cF (by rw[hlen];exact(eb.mp ro).1)⟩
       obtain⟨d',Yg,tK,ZK⟩:=NS.get fh;rw[ro]at Yg;cases Yg;obtain⟨iu,Pf,gu,avj,avi,Ov,qc⟩:=YV _ (Bi tK.b);have afc:TabAt f' fj (iS hs ds h):=⟨bZ,.inr ⟨o,oD _ _ (cP _ _ aQ)⟩,mD⟩
       have afd:TabAt f' iu (iS hs ds (S (hs.getD d.b []))):=by
        by_cases dx:iu=fj
        .subst dx;rw[Aa]at Ov;cases Ov;exact⟨bZ,.inr ⟨o,oD _ _ (cP _ _ aQ)⟩,qc⟩
        .exact⟨Pf,.inl (oD _ _ (cP _ _ (by rw[aD dx];exact Ov))),qc⟩
       have ak8:ar.gn (aG rs) (k:Int)=some (.ref r):=il (by unfold aG;rw[cx,fh];rfl);refine⟨_,rfl,_,rfl,dz,_,_,_,rfl,rfl,aC.of (oD _ _ amX),ak8,_,rfl,_,rfl,r,d_,fj,iu,hs,d,n_,g,_,_,rfl,oD _ _ ZK,oD _ _ amY,by rw[a4];exact mj,gu,afc,afd,λu b_=>⟨v,bj⟩,_,rfl,?_⟩;have ep:uc hs ds h g (k:Int)=uC (iS hs ds h) (iS hs ds (S (hs.getD d.b []))) g d.t:=by unfold uc JI;rw[kQ,AV ro]
       rw[<-ep];exact NR f' (aH.refl _)
      .have sX:(((ja hs ds (·.a) h).map V.int).filter λy=>match y with|.int i=>uc hs ds h g i|_=>false).map id=(fit hs ds h g).map V.int:=by rw[ab3,zg];rfl
       rw[sX]at bl;refine⟨_,rfl,x,af,_,rfl,oD _ _ Ai,rfl,_,rfl,_,rfl,_,rfl,D,_,rfl,aC.of bl,Wg od bj i3,x,n,t,bL,br,hs,rs,ds,kvs,h,g,_,rfl,⟨⟨af,oD _ _ Ai⟩,Vu.same oD,oD _ _ HM⟩,G,NS.same oD,c6,vS G hm,vS G bE,fF (by have:=BG.c6 (by rw[bk];exact Yv);omega),λ_ _ jG oE=>?_,λy=>bx (J8 hm bE i3) (by rw[y];decide),λ_ y=>bx (TH od bj i3).1 y⟩;have QX:=oD.trans oE;exact⟨_,_,_,rfl,k7 (by rw[aD Qf];exact IB) (cP.trans QX),by rw[aD (c2 π)];exact QX _ _ Hc,by rw[aD lJ];exact QX _ _ Ai,aQ,(BG.put hm bE).iff (Tl.put eU i3)⟩
    .rintro σ iV ⟨kvs,qZ,pN,rfl,cP,Hc,Ai,HM,BG⟩;exact⟨cP _ _ aQ,kvs,_,qZ,pN,rfl,aej Aa cP,by rw[aD ο];exact Hc,by rw[aD Τ];exact Ai,by rw[aD Qf];exact HM,BG.iff (Tl.end mD sZ)⟩
   .rintro σ jH ⟨kvs,ă,qZ,pN,rfl,dO,c8,av,dM,BT⟩;refine⟨_,rfl,q x t jH kvs (pG (s1.trans ax) b1) (pG (s1.trans ax) IB) ((s1.trans ax).trans dO) ⟨⟨af,av⟩,Vt.same dO,dM⟩ ⟨BT.iff λh g=>⟨λ⟨⟨j,_,dy⟩,b,c⟩=>⟨dV dy,b,c⟩,λ⟨m,b,c⟩=>⟨?_,b,c⟩⟩⟩⟩;obtain⟨j,bg⟩:=sF m;exact⟨j,by have:=(eb.mp bg).1;rw[bk]at this;unfold de;rw[bk];exact this,bg⟩
end
end df
namespace cH
open PySem PySem.Spec PyProof.Rows ar PySem.W
structure q3(n:Nat)(lt:hG):Prop where
 yA:∀i j k,lt i j=true->lt j k=true->lt i k=true
 to:∀i j,i<n->j<n->i≠j->lt i j=true\/lt j i=true
 anv:∀i,lt i i=false
noncomputable abbrev dt(p:jh)(a:Nat):Nat:=p.getD a 0
noncomputable def ow(lt:hG)(p:jh)(k:Nat):Prop:=∀a b,a<b->b<k->lt (dt p a) (dt p b)=true
theorem AB{α β:Type}(lt:hG)(f:α->KasT β):∀t:KasT α,hv lt (t.bind f)=hv lt (f (hv lt t))
 |.ret _=>rfl
 |.ask i j k=>AB lt f (k (lt i j))
theorem UB{α:Type}(lt:hG){c:Prop}[Decidable c](s t:KasT α):hv lt (if c then s else t)=if c then hv lt s else hv lt t:=by split<;>rfl
theorem eE.size{n:Nat}{p:jh}(h:eE n p):p.size=n:=by have:=h.list.length_eq;simpa using this
theorem eE.inj{n:Nat}(h:eE n p){a b:Nat}(aF:a<n)(aa:b<n)(e:dt p a=dt p b):a=b:=by
 have aI:p.toList.Nodup:=h.list.nodup_iff.mpr Lw;have kq:=h.size;have az:dt p a=p.toList[a]'(by simp;omega):=by simp[dt,q5,show a<p.size by omega]
 have aB:dt p b=p.toList[b]'(by simp;omega):=by simp[dt,q5,show b<p.size by omega]
 rw[az,aB]at e;exact(wC aI).mp e
section
variable{n:Nat}{lt:hG}
theorem q3.or(o:q3 n lt)(h:eE n p){a b:Nat}(aF:a<n)(aa:b<n)(ne:a≠b)(f:lt (dt p a) (dt p b)=false):lt (dt p b) (dt p a)=true:=by
 have h0:0<n:=by omega
 rcases o.to (dt p a) (dt p b) (h.at h0 a) (h.at h0 b) (λe=>ne (h.inj aF aa e))with z|z
 .rw[z]at f;cases f
 .exact z
theorem ow.succ(o:q3 n lt){k:Nat}(s:ow lt p k)(ag:1<=k)(h:lt (dt p (k-1)) (dt p k)=true):ow lt p (k+1):=λa b rv aa=>by
 by_cases e:b=k
 .subst e;by_cases aB:a=b-1
  .rw[aB];exact h
  .exact o.yA _ _ _ (s a (b-1) (by omega) (by omega)) h
 .exact s a b rv (by omega)
theorem K7(o:q3 n lt)(h:eE n p):∀f k,1<=k->k+f<=n->ow lt p k->∃m,hv lt (kas_asc p f k)=m/\k<=m/\m<=k+f/\ow lt p m/\(m<k+f->lt (dt p m) (dt p (m-1))=true)
 |0,k,ag,ai,s=>⟨k,rfl,bU _,bU _,s,λz=>bx z (by omega)⟩
 |f+1,k,ag,ai,s=>by
  show∃m,hv lt (if lt (dt p k) (dt p (k-1))=true then .ret k else kas_asc p f (k+1))=m/\_;cases e:lt (dt p k) (dt p (k-1))with
  |true=>
   rw[bB rfl];exact⟨k,rfl,bU _,by omega,s,λ_=>e⟩
  |false=>
   rw[bp (by decide)];have up:=o.or h (a:=k) (b:=k-1) (by omega) (by omega) (by omega) e;obtain⟨m,az,aB,cX,gB,hN⟩:=K7 o h f (k+1) (by omega) (by omega) (s.succ o ag up);exact⟨m,az,by omega,by omega,gB,λz=>hN (by omega)⟩
noncomputable def FG(lt:hG)(p:jh)(k:Nat):Prop:=∀a b,a<b->b<k->lt (dt p b) (dt p a)=true
theorem UC(o:q3 n lt)(h:eE n p):∀f k,1<=k->k+f<=n->FG lt p k->∃m,hv lt (DH f p k 0)=(p,m,0)/\k<=m/\m<=k+f/\FG lt p m
 |0,k,ag,ai,s=>⟨k,rfl,bU _,bU _,s⟩
 |f+1,k,ag,ai,s=>by
  show∃m,hv lt (if lt (dt p k) (dt p (k-1))=true then(if 0>0 then DH f (DI p (k-(0+1)) k) (k+1) 0 else DH f p (k+1) 0)else .ask (dt p (k-1)) (dt p k) λd=>if d=true then .ret (p,k,0)else DH f p (k+1) (0+1))=(p,m,0)/\_;cases e:lt (dt p k) (dt p (k-1))with
  |true=>
   rw[bB rfl,bp (by omega)];have s2:FG lt p (k+1):=λa b rv aa=>by
    by_cases dx:b=k
    .subst dx;by_cases aB:a=b-1
     .rw[aB];exact e
     .exact o.yA _ _ _ e (s a (b-1) (by omega) (by omega))
    .exact s a b rv (by omega)
   obtain⟨m,az,aB,cX,gB⟩:=UC o h f (k+1) (by omega) (by omega) s2;exact⟨m,az,by omega,by omega,gB⟩
  |false=>
   rw[bp (by decide)];have up:=o.or h (a:=k) (b:=k-1) (by omega) (by omega) (by omega) e;show∃m,hv lt (if lt (dt p (k-1)) (dt p k)=true then .ret (p,k,0)else DH f p (k+1) (0+1))=(p,m,0)/\_;rw[bB up];exact⟨k,rfl,bU _,by omega,s⟩
theorem FH{p q:jh}{a b:Nat}(e:p[a]?=q[b]?):dt p a=dt q b:=by
 have f:∀(r:jh)(c:Nat),dt r c=(r[c]?).getD 0:=λr c=>by
  show r.getD c 0=_;by_cases aq:c<r.size
  .rw[y1 aq];simp[q5,aq]
  .rw[y2 (by omega)];simp[q5,aq]
 rw[f,f,e]
theorem Wh{p:jh}{r i:Nat}(ao:r<=p.size)(ak:i<r):dt (DI p 0 r) i=dt p (r-1-i):=by have h:=getElem?_mirror_all (xs:=p) (i:=0) (j:=r) ao i;rw[bB ⟨eZ _,ak⟩,show 0+r-1-i=r-1-i by omega]at h;exact FH h
theorem aek(o:q3 n lt)(h:eE n p){k:Nat}(ag:1<=k)(ai:k<=n)(s:FG lt p k):∃m q,hv lt (DJ k n p)=(m,q)/\1<=m/\m<=n/\ow lt q m/\eE n q:=by
 unfold DJ;rw[AB];have ao:=h.rev 0 k;have æ:ow lt (DI p 0 k) k:=λa b rv aa=>by rw[Wh (by rw[h.size];exact ai) (by omega),Wh (by rw[h.size];exact ai) aa];exact s _ _ (by omega) (by omega)
 obtain⟨m,az,aB,cX,gB,_⟩:=K7 o ao (n-k) k ag (by omega) æ;rw[az];exact⟨m,_,rfl,by omega,by omega,gB,ao⟩
theorem ael(o:q3 n lt)(h:eE n p)(h0:2<=n):∃m q,hv lt (Pe n p)=(m,q)/\1<=m/\m<=n/\ow lt q m/\eE n q:=by
 unfold Pe;rw[AB];obtain⟨m,az,aB,cX,gB,hN⟩:=K7 o h (n-1) 1 (bU _) (by omega) (λa b rv aa=>by omega);rw[az,UB];by_cases k6:m=n
 .rw[bB (by simpa using k6)];exact⟨m,p,rfl,aB,by omega,gB,h⟩
 .rw[bp (by simpa using k6),UB];have anU:=hN (by omega);by_cases o7:m>1
  .rw[bB o7];show∃dc q,hv lt (if lt (dt p 0) (dt p (m-1))=true then .ret (m,p)else ZY m n (DI p 0 m))=(dc,q)/\_;rw[bB (gB 0 (m-1) (by omega) (by omega))];exact⟨m,p,rfl,aB,by omega,gB,h⟩
  .rw[bp o7];have ib:m=1:=by omega
   subst ib;unfold ZY;rw[AB];obtain⟨k,hK,kA,X4,M1⟩:=UC o h (n-(1+1)) (1+1) (by omega) (by omega) (λa b rv aa=>by
    have:a=0/\b=1:=by omega
    rw[this.1,this.2];exact anU)
   rw[hK];show∃dc q,hv lt (if 0>0 then DJ k n (DI p (k-(0+1)) k)else DJ k n p)=(dc,q)/\_;rw[bp (by omega)];exact aek o h (by omega) (by omega) M1
theorem So(o:q3 n lt)(h:eE n p){k:Nat}(aP:k<n)(s:ow lt p k):∀f l r,l<=r->r<=k->r-l<=f->(∀a,a<l->lt (dt p a) (dt p k)=true)->(∀a,r<=a->a<k->lt (dt p k) (dt p a)=true)->
  ∃m,hv lt (Au p k f l r)=m/\m<=k/\(∀a,a<m->lt (dt p a) (dt p k)=true)/\∀a,m<=a->a<k->lt (dt p k) (dt p a)=true
 |0,l,r,ag,ai,bK,aw,ao=>⟨l,rfl,by omega,aw,λa aF=>ao a (by omega)⟩
 |f+1,l,r,ag,ai,bK,aw,ao=>by
  show∃m,hv lt (if l≥r then .ret l else .ask (dt p k) (dt p ((l+r)/2)) λc=>if c=true then Au p k f l ((l+r)/2)else Au p k f ((l+r)/2+1) r)=m/\_;by_cases c:l≥r
  .rw[bB c];exact⟨l,rfl,by omega,aw,λa aF=>ao a (by omega)⟩
  .rw[bp c];show∃m,hv lt (if lt (dt p k) (dt p ((l+r)/2))=true then Au p k f l ((l+r)/2)else Au p k f ((l+r)/2+1) r)=m/\_;have nI:l<=(l+r)/2/\(l+r)/2<r:=by omega
   cases e:lt (dt p k) (dt p ((l+r)/2))with
   |true=>
    rw[bB rfl];refine So o h aP s f l ((l+r)/2) nI.1 (by omega) (by omega) aw λa aF al9=>?_;by_cases a4:a=(l+r)/2
    .rw[a4];exact e
    .exact o.yA _ _ _ e (s _ _ (by omega) al9)
   |false=>
    rw[bp (by decide)];have up:=o.or h (a:=k) (b:=(l+r)/2) aP (by omega) (by omega) e;refine So o h aP s f ((l+r)/2+1) r (by omega) ai (by omega) (λa aF=>?_) ao;by_cases a4:a=(l+r)/2
    .rw[a4];exact up
    .exact o.yA _ _ _ (s a _ (by omega) (by omega)) up
theorem Wi{p:jh}{k l i:Nat}(aP:k<p.size)(aw:l<=k):dt (bubble p k (k-l)) i=if i=l then dt p k else if l<i/\i<=k then dt p (i-1)else dt p i:=by
 have h:=getElem?_bubble (xs:=p) aP (k-l) (by omega) i;rw[show k-(k-l)=l by omega]at h;by_cases c:i=l
 .rw[bB c]at h⊢;exact FH h
 .rw[bp c]at h⊢;by_cases o7:l<i/\i<=k
  .rw[bB o7]at h⊢;exact FH h
  .rw[bp o7]at h⊢;exact FH h
theorem WB(o:q3 n lt):∀(f:Nat)(p:jh)(k:Nat),eE n p->ow lt p k->k+f=n->ow lt (hv lt (Pd f p k)) n
 |0,p,k,h,s,e=>by
  have:k=n:=by omega
  subst this;exact s
 |f+1,p,k,h,s,e=>by
  show ow lt (hv lt ((Au p k k 0 k).bind λl=>Pd f (bubble p k (k-l)) (k+1))) n;rw[AB];obtain⟨m,az,aB,cX,gB⟩:=So o h (k:=k) (by omega) s k 0 k (eZ _) (bU _) (by omega) (λa aF=>bx aF (by omega)) (λa ag ai=>bx ai (by omega));rw[az];refine WB o f _ _ (h.XT _ _) (λa b rv aa=>?_) (by omega);have aP:k<p.size:=by rw[h.size];omega
  rw[Wi aP aB,Wi aP aB];by_cases a1:a=m
  .rw[bB a1,bp (by omega),bB ⟨by omega,by omega⟩];exact gB (b-1) (by omega) (by omega)
  .rw[bp a1];by_cases e5:b=m
   .rw[bB e5,bp (by omega)];exact cX a (by omega)
   .rw[bp e5];by_cases a2:m<a/\a<=k
    .rw[bB a2,bB ⟨by omega,by omega⟩];exact s _ _ (by omega) (by omega)
    .rw[bp a2];by_cases eT:m<b/\b<=k
     .rw[bB eT];exact s _ _ (by omega) (by omega)
     .rw[bp eT];exact s _ _ rv (by omega)
theorem ŕ(o:q3 n lt):(rS lt n).Pairwise λi j=>lt i j=true:=by
 unfold rS;by_cases ai:n<2
 .rw[bB ai];have:n=0\/n=1:=by omega
  rcases this with e|e<;>subst e<;>simp[B7]
 .rw[bp ai];have ao:eE n (zj (dK n)):=ő _;unfold Av;rw[AB];obtain⟨m,q,az,aB,cX,gB,hN⟩:=ael o ao (by omega);rw[az];show((hv lt (if m<n then Pd (n-max m 1) q (max m 1)else .ret q)).toList).Pairwise _;have rJ:max m 1=m:=by omega
  rw[rJ];have fin:∀gs:Array Nat,eE n gs->ow lt gs n->gs.toList.Pairwise λi j=>lt i j=true:=λgs a s=>by
   rw[F'];intro i j ak bg Oq;have amE:j<n:=by rw[<-a.size];simpa using bg
   have:=s i j Oq amE;have apD:i<gs.size:=by rw[a.size];omega
   have g0:j<gs.size:=by rw[a.size];omega
   have f1:dt gs i=gs[i]:=by simp[dt,q5,apD]
   have f2:dt gs j=gs[j]:=by simp[dt,q5,g0]
   rw[f1,f2]at this;simpa using this
  by_cases c:m<n
  .rw[bB c];refine fin _ ?_ (WB o _ _ _ hN gB (by omega));exact JB (lt:=lt) _ (L9 (by omega) _ _ _ hN)
  .rw[bp c];have:m=n:=by omega
   subst this;exact fin q hN gB
end
section
variable{X:bo}
noncomputable def ltI(ns:fp)(i j:Nat):Bool:=decide (i<ns.length/\j<ns.length/\ns.getD i 0<ns.getD j 0)
theorem ahp{ns:fp}(aI:ns.Nodup):q3 ns.length (ltI ns)where
 yA:=λi j k ag ai=>by have ag:=kL ag;have ai:=kL ai;exact cT ⟨ag.1,ai.2.1,by omega⟩
 to:=λi j ak bg ne=>by
  have az:ns.getD i 0=ns[i]:=by rw[eF,cF ak];rfl
  have aB:ns.getD j 0=ns[j]:=by rw[eF,cF bg];rfl
  have h6:ns.getD i 0≠ns.getD j 0:=λz=>ne ((wC aI).mp (by rw[<-az,<-aB];exact z));rcases Int.lt_or_lt_of_ne h6 with z|z
  .exact .inl (cT ⟨ak,bg,z⟩)
  .exact .inr (cT ⟨bg,ak,z⟩)
 anv:=λi=>dn λz=>by omega
noncomputable def sortI(ns:fp):List Int:=ia 0 (ltI ns) ns
theorem sortI_perm(ns:fp):(sortI ns).Perm ns:=Ĩ _ _ _
theorem TM{ns:fp}(aI:ns.Nodup):(sortI ns).Pairwise (· < ·):=by unfold sortI ia;rw[wF];exact(ŕ (ahp aI)).imp λz=>(kL z).2.2
theorem Km(ns:fp):ia V.bc (ltI ns) (ns.map V.int)=(sortI ns).map V.int:=by unfold sortI ia;rw[gU,bk];refine sI λi ak=>?_;have:=Sm ak;show(ns.map V.int).getD i .bc=V.int (ns.getD i 0);rw[eF,cx,cF this,eF,cF this];rfl
section
variable{prog:cG}{w:bS}{A:du}{s:aK}{ns:fp}{us:c7}
theorem Kn(r:cN (ns.map V.int) us){i:Nat}(ak:i<us.length):∃t,us.getD i gm=.int (ns.getD i 0) t:=by have aw:=r.length;rw[bk]at aw;obtain⟨u,b_,t,rfl⟩:=r.get (x:=V.int (ns.getD i 0)) (i:=i) (by rw[cx,cF (by omega),eF,cF (by omega)];rfl);exact⟨t,by rw[eF,b_];rfl⟩
theorem RT(r:cN (ns.map V.int) us)(ai:2<=us.length){Q:zM->aK->Prop}(h:Q II s):aL (aX prog w) A (Ph us.toArray) Q (λ_ _=>False) s:=by refine kas_kind (T:=.type "int") ai (λv bj=>?_) (by decide+kernel) (by decide+kernel) h;obtain⟨i,ak,rfl⟩:=mr bj;obtain⟨t,e⟩:=Kn r ak;rw[eF,cF ak]at e;have e:us[i]=.int (ns.getD i 0) t:=e;rw[e];exact Vk rfl
theorem SH(r:cN (ns.map V.int) us){i j:Nat}(ak:i<us.length)(bg:j<us.length){C:Bool->aK->Prop}(h:C (ltI ns i j) s):DG prog w A II us i j C s:=by have aw:=r.length;rw[bk]at aw;obtain⟨t,az⟩:=Kn r ak;obtain⟨u,aB⟩:=Kn r bg;unfold DG;rw[az,aB];refine kat_lt_int ?_;have e:ltI ns i j=decide (ns.getD i 0<ns.getD j 0):=decide_eq_decide.mpr ⟨λz=>z.2.2,λz=>⟨by omega,by omega,z⟩⟩;rw[<-e];exact h
end
theorem agk{n:Int}(h:(hI P w).is (.inl n) v=true):RelV (V.int n) v:=by obtain⟨t,e⟩:=agb h;exact⟨t,e⟩
end
end cH
namespace df
open PySem ar cH di
theorem UD{α:Type}{R:α->α->Prop}(as:∀a b,R a b->R b a->False):∀{a b:List α},a.Perm b->a.Pairwise R->b.Pairwise R->a=b
 |[],b,p,_,_=>p.nil_eq
 |x::a,[],p,_,_=>bx p.length_eq (by simp)
 |x::a,y::b,p,bY,b4=>by
  rw[Lx]at bY b4;have alc:x=y:=by
   rcases dv.mp (p.mem_iff.mp (.head _):x∈y::b)with e|e
   .exact e
   .rcases dv.mp (p.mem_iff.mpr (.head _):y∈x::a)with aB|aB
    .exact aB.symm
    .exact(as _ _ (bY.1 y aB) (b4.1 x e)).elim
  subst alc;rw[UD as (List.Perm.cons_inv p) bY.2 b4.2]
theorem UE:∀{kvs:List (List bA×ar.V)},(∀p∈kvs,∃r:Row,p=([.inr r.1,.inr r.2.1],.int r.2.2))->∃rs,kvs=Bz rs
 |[],_=>⟨[],rfl⟩
 |p::q,h=>by obtain⟨r,rfl⟩:=h p (.head _);obtain⟨rs,rfl⟩:=UE (kvs:=q) λp aN=>h p (.tail _ aN);exact⟨r::rs,rfl⟩
noncomputable def lE(c:Int×Nat):List ar.V:=[.int c.1,.int (c.2:Int)]
noncomputable def hT(c:Int×Nat):List bA:=[.inl c.1,.inl (c.2:Int)]
theorem WC{a b:Int×Nat}(h:hT a=hT b):a=b:=by unfold hT at h;simp only[Lk,Sum.inl.injEq,and_true]at h;exact wN h.1 (by omega)
theorem aeN(cs:List (Int×Nat)):∀d∈cs.map hT,lr d=true::[true]:=λd hd=>by obtain⟨r,_,rfl⟩:=b7.mp hd;rfl
noncomputable def nD(cs:List (Int×Nat)):List (Int×Nat):=(rS (tA (cs.map hT)) cs.length).map λi=>cs.getD i (0,0)
theorem H9(cs:List (Int×Nat)):(nD cs).Perm cs:=by unfold nD;refine((ė _ _).map _).trans ?_;rw[show(dK cs.length).map (λi=>cs.getD i (0,0))=cs from ?_];refine F6 (by simp) λi ag ai=>?_;rw[wD,zh,eF,cF ai];rfl
theorem ğ{H:ae}:∀{ts:cj}{cs:List (Int×Nat)},fa H ts (cs.map lE)->bO (λr d=>H r=some (.tup (d.map c9))) ts (cs.map hT)
 |_,[],h=>by cases h;exact .nil
 |_,c::cs,h=>by cases h with|cons a t=>exact .cons a (ğ t)
theorem acN{cs:List (Int×Nat)}(bV:fa H ts (cs.map lE)):∃oF,ia V.bc (tA (cs.map hT)) (aG ts)=aG oF/\fa H oF ((nD cs).map lE):=by
 have ln:(aG ts).length=cs.length:=by have:=bV.len;rw[bk]at this;rw[d6,this]
 unfold ia nD;rw[ln];have all:∀is:List Nat,(∀i∈is,i<cs.length)->∃oF,(is.map λi=>(aG ts).getD i .bc)=aG oF/\fa H oF ((is.map λi=>cs.getD i (0,0)).map lE):=λis=>by
  induction is with
  |nil=>intro _;exact⟨[],rfl,.nil⟩
  |cons i q a3=>
   intro ak;obtain⟨oF,az,ap1⟩:=a3 λj bg=>ak j (.tail _ bg);have lt:=ak i (.head _);have H3:i<ts.length:=by rw[d6]at ln;omega
   have aB:ts[i]?=some ts[i]:=cF H3;obtain⟨y,ag,ai⟩:=bO.get bV aB;rw[cx,cF lt]at ag;cases ag;refine⟨ts[i]::oF,?_,.cons ?_ ap1⟩
   .rw[hE,az];show(aG ts).getD i .bc::aG oF=V.ref ts[i]::aG oF;congr 1;show((aG ts)[i]?).getD .bc=_;unfold aG;rw[cx,aB];rfl
   .show H ts[i]=some (f_.tup (lE (cs.getD i (0,0))));rw[show cs.getD i (0,0)=cs[i] by rw[eF,cF lt];rfl];exact ai
 exact all _ λi ak=>Sm ak
noncomputable def e2(ns:dN):List Int:=ns.map λn:Nat=>(n:Int)
noncomputable def ki(ns:dN):List Nat:=(sortI (e2 ns)).map Fv
theorem agl{ns:dN}(aI:ns.Nodup):(e2 ns).Nodup:=wF.mpr (aI.imp λh z=>h (by omega))
theorem ww(ns:dN):e2 (ki ns)=sortI (e2 ns):=by
 unfold ki e2;rw[gU];have:∀x∈sortI (ns.map λn:Nat=>(n:Int)),((λn:Nat=>(n:Int))∘Fv) x=x:=λx av=>by obtain⟨n,_,rfl⟩:=b7.mp ((sortI_perm _).mem_iff.mp av);rfl
 rw[sI this,Lp]
theorem Ap(ns:dN):(ki ns).Perm ns:=by
 have h:=(sortI_perm (e2 ns)).map Fv;have e:(e2 ns).map Fv=ns:=by unfold e2;rw[gU];have:∀x∈ns,(Fv∘λn:Nat=>(n:Int)) x=x:=λx _=>kQ x;rw[sI this,Lp]
 rw[e]at h;exact h
theorem TN{ns:dN}(aI:ns.Nodup):(ki ns).Pairwise (· < ·):=by have h:=TM (agl aI);rw[<-ww]at h;unfold e2 at h;exact(wF.mp h).imp λz=>by omega
noncomputable def CF(room:Int)(q:List (Int×Nat)):List Nat:=ki (((nD q).take room.toNat).map (·.2))
noncomputable def mL(E:List (Nat×Addr)):List (bA×ar.V):=E.map λe=>(e9 (e.1:Int),.ref e.2)
structure qa(pY H:ae)(p:Addr)(E:List (Nat×Addr))(q:Nat->List (Int×Nat)):Prop where
 tab:H p=some (.bN (mL E))
 vL:(E.map (·.1)).Nodup
 na:(E.map (·.2)).Nodup
 each:∀e∈E,pY e.2=none/\e.2≠p/\∃ts,H e.2=some (.lst (aG ts))/\fa H ts ((q e.1).map lE)
theorem qa.same{E:List (Nat×Addr)}{q:Nat->List (Int×Nat)}(h:qa pY H p E q)(ax:aH H H'):qa pY H' p E q:=
 ⟨ax _ _ h.tab,h.vL,h.na,λe he=>let⟨a,b,ts,c,d⟩:=h.each e he;⟨a,b,ts,ax _ _ c,d.same ax⟩⟩
theorem JD:∀{E:List (Nat×Addr)},(E.map (·.1)).Nodup->∀{r:Nat}{l:Addr},(r,l)∈E->cy (mL E) (e9 (r:Int):bA)=some (.ref l)
 |[],_,_,_,h=>nomatch h
 | (r0,DL)::E,aI,r,l,h=>by
  rw[hE,iE]at aI;rcases dv.mp h with e|e
  .cases e;exact k9 rfl
  .show cy ((e9 (r0:Int),V.ref DL)::mL E) _=_;rw[ka (λz=>aI.1 (by
    have dk:(r0:Int)=(r:Int):=CL z;have:r0=r:=by omega
    rw[this];exact b7.mpr ⟨_,e,rfl⟩))]
   exact JD aI.2 e
theorem Ko:∀{E:List (Nat×Addr)}{r:Nat},r∉E.map (·.1)->cy (mL E) (e9 (r:Int):bA)=none
 |[],_,_=>rfl
 | (r0,DL)::E,r,h=>by
  show cy ((e9 (r0:Int),V.ref DL)::mL E) _=_;rw[ka (λz=>h (by
   have dk:(r0:Int)=(r:Int):=CL z;have:r0=r:=by omega
   rw[this];exact .head _))]
  exact Ko λz=>h (.tail _ z)
theorem qa.new{pY H:ae}{E:List (Nat×Addr)}{q:Nat->List (Int×Nat)}(h:qa pY H p E q){r:Nat}(ao:r∉E.map (·.1))(rN:q r=[])(DY:pY ko=none)(hz:H ko=some (.lst []))(PL:∀e∈E,e.2≠ko):
  qa pY (upd H p (.bN (eN (mL E) (e9 (r:Int)) (.ref ko)))) p (E++[(r,ko)]) q:=by
 have np:ko≠p:=λz=>by rw[z,h.tab]at hz;cases hz
 refine⟨?_,?_,?_,λe he=>?_⟩
 .rw[aQ,D' _ (Ko ao)];unfold mL;rw[fm];rfl
 .rw[fm];exact ę h.vL ao
 .rw[fm];refine ę h.na λz=>?_;obtain⟨e,he,aB⟩:=b7.mp z;exact PL e he aB
 .rcases hl.mp he with z|z
  .obtain⟨a,b,ts,c,d⟩:=h.each e z;exact⟨a,b,ts,by rw[aD b];exact c,d.upd h.tab (by intro d z;cases z)⟩
  .rw[g5.mp z];refine⟨DY,np,[],by rw[aD np];exact hz,?_⟩;show fa _ [] ((q r).map lE);rw[rN];exact .nil
theorem qa.add{pY H:ae}{t:Addr}{E:List (Nat×Addr)}{q:Nat->List (Int×Nat)}{ts:cj}(h:qa pY H p E q){r:Nat}(ao:(r,l)∈E){c:Int×Nat}(aw:H l=some (.lst (aG ts)))(bV:fa H ts ((q r).map lE))(dM:H t=some (.tup (lE c)))(aM:pY t=none):
  qa pY (upd H l (.lst (aG ts++[V.ref t]))) p E (λb9=>if b9=r then q r++[c]else q b9):=by
 obtain⟨a0,j9,_⟩:=h.each _ ao;have j9:l≠p:=j9;have uniq:∀e∈E,e.2=l->e=(r,l):=λe he z=>by
  obtain⟨i,ak,d7⟩:=mr he;obtain⟨j,bg,dy⟩:=mr ao;have az:(E.map (·.2))[i]'(by rw[bk];exact ak)=(E.map (·.2))[j]'(by rw[bk];exact bg):=by rw[wD,wD,d7,dy,z]
  have:=(wC h.na).mp az;subst this;rw[<-d7,dy]
 refine⟨by rw[aD (c2 j9)];exact h.tab,h.vL,h.na,λe he=>?_⟩;obtain⟨a,b,oF,jM,d⟩:=h.each e he;refine⟨a,b,?_⟩;by_cases z:e.2=l
 .obtain rfl:=uniq e he z;refine⟨ts++[t],by rw[aQ,Ax],?_⟩;show fa _ _ ((if r=r then q r++[c]else q r).map lE);rw[bB rfl,fm];exact fa.upd (Paired.snoc (F:=λr d=>H r=some (.tup d)) dM bV) aw (by intro d z;cases z)
 .refine⟨oF,by rw[aD z];exact jM,?_⟩;have jD:e.1≠r:=λy=>z (by
   obtain⟨i,ak,d7⟩:=mr he;obtain⟨j,bg,dy⟩:=mr ao;have az:(E.map (·.1))[i]'(by rw[bk];exact ak)=(E.map (·.1))[j]'(by rw[bk];exact bg):=by rw[wD,wD,d7,dy,y]
   have:=(wC h.vL).mp az;subst this;rw[<-d7,dy])
  show fa _ _ ((if e.1=r then q r++[c]else q e.1).map lE);rw[bp jD];exact d.upd aw (by intro d z;cases z)
noncomputable def fv(due:Nat->Int)(rd:Nat->Nat)(T:Int)(go:dN)(r:Nat):List (Int×Nat):=(go.filter λn=>decide (due n<=T)&&decide (rd n=r)).map λn=>(due n,n)
theorem WD{due:Nat->Int}{rd:Nat->Nat}{T:Int}{go:dN}{n:Nat}(h:¬due n<=T):fv due rd T (go++[n])=fv due rd T go:=by funext r;unfold fv;rw[p2,fm];simp[p3,h]
theorem J9{due:Nat->Int}{rd:Nat->Nat}{T:Int}{go:dN}{n:Nat}(h:due n<=T):fv due rd T (go++[n])=λb9=>if b9=rd n then fv due rd T go (rd n)++[(due n,n)]else fv due rd T go b9:=by
 funext r;unfold fv;rw[p2,fm];by_cases e:r=rd n
 .subst e;simp[p3,h]
 .simp[p3,h,e,c2 e]
theorem UG(due:Nat->Int)(rd:Nat->Nat)(T:Int)(go:dN)(r:Nat):(fv due rd T go r).length<=go.length:=by unfold fv;rw[bk];exact nf _ _
noncomputable def ahq(hs:bF)(kvs:en)(bT:cb)(ay:eK)(due:Nat->Int)(rd:Nat->Nat)(n:Nat):Prop:=∃(ss:List Step)(s:Step)(y:Str),ay[n]?=some (ss++[s])/\s.due=due n/\bT[n]?=some y/\s.gq∈hs.map S/\y∈hs.map S/\s.gq≠y/\cy kvs (f7 s.gq y)=some (.int (rd n:Int))
noncomputable def lw(go:dN):List ar.V:=go.map λn:Nat=>V.int (n:Int)
noncomputable def agm(hs:bF)(kvs:en)(bT:cb)(ay:eK)(due:Nat->Int)(n:Nat):Prop:=∃(ss:List Step)(s:Step)(y:Str),ay[n]?=some (ss++[s])/\s.due=due n/\bT[n]?=some y/\s.gq∈hs.map S/\y∈hs.map S/\s.gq≠y/\cy kvs (f7 s.gq y)=none
noncomputable def Kp(hw:Nat->Bool)(hs:bF)(kvs:en)(bT:cb)(ay:eK)(due:Nat->Int)(rd:Nat->Nat)(n:Nat):Prop:=(hw n=true/\ahq hs kvs bT ay due rd n)\/(hw n=false/\agm hs kvs bT ay due n)
inductive Xl(K:aY)(C bw aO:Addr)(vs:aW)(H:ae)(Q:a')(el:bX):Prop where
 |mk (x n g st gl y i' t bL br:Addr) (bT:cb) (ls:cj) (ay:eK) (hs:bF) (ys:aW) (kvs:en) (go:dN) (hw:Nat->Bool) (due:Nat->Int) (rd:Nat->Nat) (T:Int) (bM:vs=[.ref x,.ref gl,.ref y,.int T]) (bu:WalkAt C H x n g st bT ls ay) (bW:aC K H gl (lw go)) (cW:qE bw aO H y i' t bL br (de hs) ys kvs) (dD:Good hs) (eS:go.length<=100) (hB:(∀k∈go,Kp hw hs kvs bT ay due rd k)) (lN:∀(p:Addr)(H':ae)(E:List (Nat×Addr)),H p=none->aH H H'->qa H H' p E (fv due rd T (go.filter hw))->(∀r,r∈E.map (·.1)↔fv due rd T (go.filter hw) r≠[])->Q (.ref p) H')
section
variable{P:cG}{w:bS}{K:aY}{mg:cw}{base:Heap}
noncomputable abbrev Jg:Stmt:=top 34
theorem CG:c3 ["walk","going","ways","turn","queues","number","came","road"] Cb (cn Jg):={}
inductive ajt(x gl y p:Addr)(T:Int)(due:Nat->Int)(rd:Nat->Nat)(go:dN)(hw:Nat->Bool)(H:ae)(i:Nat)(σ:ar.St)(b':ae):Prop where
 |mk (E:List (Nat×Addr)) (v1 v2 lK:kW) (bM:σ=[some (.ref x),some (.ref gl),some (.ref y),some (.int T),some (.ref p),v1,v2,lK]) (bu:aH H b') (bW:qa H b' p E (fv due rd T ((go.take i).filter hw))) (cW:∀r,r∈E.map (·.1)↔fv due rd T ((go.take i).filter hw) r≠[]) (dD:E.length<=i)
theorem aim(F:cC K "queues_at" "queues_at" Jg f fd)(c0:pC K C)(sR:vZ K bw)(mG:cS K C "last_turn" "Walk.last_turn" Bk dg f1 dJ)(Dc:aS P w K mg base bh 1 f1 dJ dg (JX C))(mI:cS K C "last_house" "Walk.last_house" Bj dg f2 eV)(C_:aS P w K mg base bh 1 f2 eV dg (JW C))(xS:cS K C "goal" "Walk.goal" FE dg cU h8)(aad:aS P w K mg base bh 1 cU h8 dg (Wq C))(xW:cS K bw "way" "Ways.way" Jq gk f4 qs)(QH:aS P w K mg base (f9 P w) 3 f4 qs gk (Xi bw aO gP)):
  aS P w K mg base bh 4 f fd Cb (Xl K C bw aO):=by
 have gc:=c0.cl;have kd:=sR.cl;refine F.ok CG (λ_ A _ s H vs Q E ao h=>?_)
 .obtain⟨x,n,g,st,gl,y,i',t,bL,br,bT,ls,ay,hs,ys,kvs,go,hw,due,rd,T,rfl,W,Hu,w5,G,c6,ok,q⟩:=h;obtain⟨af,av⟩:=W.ins;obtain⟨iJ,cM⟩:=w5.ins;refine⟨_,(a_ (dI (i:=4) CG.aI rfl (cR rfl) Jn)
   (a_ (jR j6 rfl (kb (U 1)) (eu (i:=5) CG.aI rfl (cR rfl))
    (a_ (dI (i:=6) CG.aI rfl (cR rfl) (fx (U 0) gc mG.d1 Dc ao.mono mG.bd .nil cm (aj (U 5) aE)))
   (bb (dQ (ej kG (U 6) (U 3) (dB _)) (a_ (dI (i:=7) CG.aI rfl (cR rfl) (fx (U 2) kd xW.d1 QH ao.mono xW.bd .nil yX (aj (fx (U 0) gc mI.d1 C_ ao.mono mI.bd .nil cm (aj (U 5) aE)) (aj (fx (U 0) gc xS.d1 aad ao.mono xS.bd .nil cm (aj (U 5) aE)) aE))))
   (bb (dQ (ej JS (U 7) hL (dB _)) (bb (gK (tQ uv wU wV tr (aeB (U 4) (U 7) (h7 aE) ⟨rfl,rfl,rfl,rfl⟩) (aj (kF (aj (U 6) (aj (U 5) aE))) aE)))) dW))) dW))))
   (bb (cp (U 4))))),?_⟩
  try dsimp only[lD,lu]
  refineλp aN=>?_
  have s0:aH H (upd H p (.bN [])):=b8 aN;refine⟨_,rfl,gl,rfl,⟨_,s0.seq Hu⟩,?_⟩;refine vy (xs:=lw go) (ajt x gl y p T due rd go hw H)
   ⟨[],none,none,none,rfl,s0,⟨aQ,uo,uo,λe he=>nomatch he⟩,λr=>⟨λz=>(nomatch z),λz=>bx rfl z⟩,bU _⟩ (λi σ b' _⟨_,_,_,_,_,h,_,_,_⟩=>h.seq Hu) ?_ ?_
  .rintro i z σ b' ee ⟨E,v1,v2,lK,rfl,ax,m3,mem,le⟩;unfold lw at ee;rw[cx]at ee;obtain⟨k,eU,rfl⟩:=e0.mp ee;have nB:i<go.length:=(eb.mp eU).1;have a5:go.take (i+1)=go.take i++[k]:=by rw[oT,eU];rfl
   have zN:=W.same ax;rcases ok k (dV eU)with⟨DA,ss,s1,oN,az,aB,cX,gB,hN,qq,sV⟩|⟨DA,ss,s1,oN,az,aB,cX,gB,hN,qq,sV⟩
   .have a5:(go.take (i+1)).filter hw=(go.take i).filter hw++[k]:=by rw[a5,p2,p3,bB DA,Ll]
    refine⟨_,rfl,x,af,_,rfl,ax _ _ av,rfl,_,rfl,x,n,g,st,bT,ls,ay,k,ss,s1,rfl,zN,az,?_⟩;refine⟨_,rfl,_,rfl,_,_,rfl,rfl,_,rfl,?_⟩;by_cases hd:due k<=T
    .refine eQ (cT (by rw[aB];exact hd)) ?_;refine⟨_,rfl,y,iJ,_,rfl,ax _ _ cM,rfl,_,rfl,x,af,_,rfl,ax _ _ av,rfl,_,rfl,x,n,g,st,bT,ls,ay,k,ss,s1,rfl,zN,az,_,rfl,x,af,_,rfl,ax _ _ av,rfl,_,rfl,x,n,g,st,bT,ls,ay,k,oN,rfl,zN,cX,?_⟩;refine⟨y,i',t,bL,br,hs,_,kvs,s1.gq,oN,rfl,w5.same ax,G,vS G gB,vS G hN,λ_ ah s2=>?_,λz=>bx (J8 gB hN qq) (by rw[z];decide)⟩;rw[sV];refine⟨_,rfl,rfl,_,rfl,eQ (by simp) ?_⟩;have r2:=ax.trans s2;have Qw:=m3.same s2;refine⟨_,rfl,p,rfl,.inl ⟨_,.inl Qw.tab⟩,_,rfl,eZ _,λko Qd=>?_⟩;have s3:=b8 (o:=.lst []) Qd;have vQ:=Qw.same s3;have Jt:=r2.trans s3;have hz:upd ah ko (.lst []) ko=some (.lst []):=aQ;have Ξ:=pG r2 Qd;have PL:∀e∈E,e.2≠ko:=λe he z=>by obtain⟨_,_,ts,c,_⟩:=Qw.each e he;rw[z,Qd]at c;cases c
     generalize upd ah ko (.lst [])=aZ at s3 vQ Jt hz⊢;have gQ:(mL E).length=E.length:=bk _;refine⟨mL E,e9 (rd k:Int),rfl,vQ.tab,fF (by omega),λv bj=>?_,λh0=>?_⟩
     .have og:rd k∈E.map (·.1):=by
       by_cases z:rd k∈E.map (·.1)
       .exact z
       .rw[Ko z]at bj;cases bj
      obtain⟨⟨r0,l⟩,he,cD⟩:=b7.mp og;have cD:r0=rd k:=cD;subst cD;rw[JD vQ.vL he]at bj;cases bj;obtain⟨nl,_,ts,aw,bV⟩:=vQ.each _ he;refine⟨.inl ⟨rfl,_,aC.of aw⟩,_,rfl,_,rfl,(by show 2<=sizeLine;decide),λr jD=>?_⟩;have s4:=b8 (o:=.tup [V.int s1.due,V.int (k:Int)]) jD;have Qx:=vQ.same s4;have ao:upd aZ r (.tup [V.int s1.due,V.int (k:Int)]) r=some (.tup (lE (due k,k))):=by rw[aQ,aB];rfl
      have dA:=bV.len;refine⟨l,_,_,rfl,rfl,s4 _ _ aw,fF (by rw[d6];rw[bk]at dA;have:=UG due rd T ((go.take i).filter hw) (rd k);have d9:=nf hw (go.take i);rw[lS]at d9;have avN:ts.length=(fv due rd T ((go.take i).filter hw) (rd k)).length:=dA;omega),?_⟩;refine⟨E,_,_,_,rfl,k7 nl (Jt.trans s4),?_,?_,by omega⟩
      .rw[a5,J9 hd];exact Qx.add he (s4 _ _ aw) (bV.same s4) ao (pG Jt jD)
      .intro b9;rw[a5,J9 hd,mem b9];dsimp only;by_cases z:b9=rd k
       .subst z;rw[bB rfl];exact⟨λ_=>by simp,λ_=>(mem _).mp og⟩
       .rw[bp z]
     .have og:rd k∉E.map (·.1):=λz=>by obtain⟨⟨r0,l⟩,he,cD⟩:=b7.mp z;have cD:r0=rd k:=cD;subst cD;rw[JD vQ.vL he]at h0;cases h0
      have rN:fv due rd T ((go.take i).filter hw) (rd k)=[]:=by
       by_cases z:fv due rd T ((go.take i).filter hw) (rd k)=[]
       .exact z
       .exact bx ((mem _).mpr z) og
      have qP:=vQ.new og rN Ξ hz PL;have Q8:aH H (upd aZ p (.bN (eN (mL E) (e9 (rd k:Int)) (.ref ko)))):=k7 aN Jt;have np:ko≠p:=λz=>by rw[z,vQ.tab]at hz;cases hz
      have HP:upd aZ p (.bN (eN (mL E) (e9 (rd k:Int)) (.ref ko))) ko=some (.lst (aG [])):=by rw[aD np];exact hz
      generalize upd aZ p (.bN (eN (mL E) (e9 (rd k:Int)) (.ref ko)))=dE at qP Q8 HP⊢;have he:(rd k,ko)∈E++[(rd k,ko)]:=hl.mpr (.inr (.head _));refine⟨.inl ⟨rfl,_,aC.of HP⟩,_,rfl,_,rfl,(by show 2<=sizeLine;decide),λr jD=>?_⟩;have s4:=b8 (o:=.tup [V.int s1.due,V.int (k:Int)]) jD;have Qx:=qP.same s4;have ao:upd dE r (.tup [V.int s1.due,V.int (k:Int)]) r=some (.tup (lE (due k,k))):=by rw[aQ,aB];rfl
      refine⟨ko,_,_,rfl,rfl,s4 _ _ HP,(by show 0<sizeLine;decide),?_⟩;refine⟨E++[(rd k,ko)],_,_,_,rfl,k7 Ξ (Q8.trans s4),?_,?_,by rw[hD];show E.length+1<=i+1;omega⟩
      .rw[a5,J9 hd];exact Qx.add (ts:=[]) he (s4 _ _ HP) (by rw[rN];exact .nil) ao (pG Q8 jD)
      .intro b9;rw[a5,J9 hd,fm,hl,mem b9];dsimp only;by_cases z:b9=rd k
       .subst z;rw[bB rfl];exact⟨λ_=>by simp,λ_=>.inr (.head _)⟩
       .rw[bp z];exact⟨λy=>y.elim id λy=>bx (g5.mp y) z,.inl⟩
    .refine dw (dn (by rw[aB];exact hd)) ?_;exact⟨E,_,_,lK,rfl,ax,by rw[a5,WD hd];exact m3,by rw[a5,WD hd];exact mem,by omega⟩
   .have a5:(go.take (i+1)).filter hw=(go.take i).filter hw:=by rw[a5,p2,p3,bp (by rw[DA];decide),Ll,q9]
    refine⟨_,rfl,x,af,_,rfl,ax _ _ av,rfl,_,rfl,x,n,g,st,bT,ls,ay,k,ss,s1,rfl,zN,az,?_⟩;refine⟨_,rfl,_,rfl,_,_,rfl,rfl,_,rfl,?_⟩;by_cases hd:due k<=T
    .refine eQ (cT (by rw[aB];exact hd)) ?_;refine⟨_,rfl,y,iJ,_,rfl,ax _ _ cM,rfl,_,rfl,x,af,_,rfl,ax _ _ av,rfl,_,rfl,x,n,g,st,bT,ls,ay,k,ss,s1,rfl,zN,az,_,rfl,x,af,_,rfl,ax _ _ av,rfl,_,rfl,x,n,g,st,bT,ls,ay,k,oN,rfl,zN,cX,?_⟩;refine⟨y,i',t,bL,br,hs,_,kvs,s1.gq,oN,rfl,w5.same ax,G,vS G gB,vS G hN,λ_ ah s2=>?_,λz=>bx (J8 gB hN qq) (by rw[z];decide)⟩;rw[sV];refine⟨_,rfl,rfl,_,rfl,dw (by simp) ?_⟩;exact⟨E,_,_,_,rfl,ax.trans s2,by rw[a5];exact m3.same s2,by rw[a5];exact mem,by omega⟩
    .refine dw (dn (by rw[aB];exact hd)) ?_;exact⟨E,_,_,lK,rfl,ax,by rw[a5];exact m3,by rw[a5];exact mem,by omega⟩
  .rintro σ b' ⟨E,v1,v2,lK,rfl,ax,m3,mem,le⟩;unfold lw at m3 mem;rw[bk,oU]at m3 mem;exact⟨_,rfl,q p b' E aN ax m3 mem⟩
end
end df
namespace cH
open PySem PySem.Spec PyProof.Rows ar
section
variable{X:bo}
theorem aqT:jV X (.builtin "sorted") (λxs H Q=>∃(p:Addr)(ns:fp),xs=[.ref p]/\aC X.K H p (ns.map V.int)/\ns.length<64/\∀l,H l=none->Q (.ref l) (upd H l (.lst ((sortI ns).map V.int)))):=by intro pins s σ H xs us Q I r h;obtain⟨p,ns,rfl,a8,HX,q⟩:=h;obtain⟨u,rfl,ez⟩:=vals1 r;cases ez;obtain⟨its,cf,pl,hz⟩:=I.list a8;have hlen:=cf.length;rw[bk]at hlen;refine ĩ (κ:=II) (lt:=ltI ns) pl.isList (by omega) (λai s1 x mx d8=>RT cf ai d8) (λai s1 x i j C ak bg ey=>SH cf ak bg ey) λD h' c hle x aq=>?_;refine⟨.ref D,_,I.laid (a:=D) (o:=.lst ((sortI ns).map V.int)) (t':=s.toks) (λb o q=>x b o q) hle ?_,rfl,q D (I.bf.fresh hle)⟩;rw[<-Km];refine⟨?_,_,c,IV cf,aq⟩;rw[JC];exact hz
theorem aq1(aq:X.calm=true):jV X (.builtin "sorted") (λxs H Q=>∃(p:Addr)(kvs:List (bA×V))(ns:fp),xs=[.ref p]/\H p=some (.bN kvs)/\kvs.map (·.1)=ns.map e9/\ns.length<64/\∀l,H l=none->Q (.ref l) (upd H l (.lst ((sortI ns).map V.int)))):=by
 intro pins s σ H xs us Q I r h;obtain⟨p,kvs,ns,rfl,aN,eU,HX,q⟩:=h;obtain⟨u,rfl,ez⟩:=vals1 r;cases ez;have dr:X.A.handled=none:=I.ok.hd aq;obtain⟨pT,lo,ys,rel,o,es,ep,aU,av,hd,_,vc,aM⟩:=yP I.bf aN;have cf:cN (ns.map V.int) (es.toList.map (·.key)):=by
  have gen:∀{kvs:List (bA×V)}{ys:List (bA×Value)}{gQ:List sy}{ns:fp},gb kvs ys->Pairs (hI X.prog X.w) gQ ys->kvs.map (·.1)=ns.map e9->cN (ns.map V.int) (gQ.map (·.key)):=by
   intro kvs ys gQ ns rel pr
   induction pr generalizing kvs ns with
   |nil=>
    intro e;cases rel;cases ns with
    |nil=>exact .nil
    |cons _ _=>cases e
   |cons ag ai t a3=>
    intro e;cases rel with
    |cons a b=>
     cases ns with
     |nil=>cases e
     |cons n ns=>
      rw[hE,hE,Lk]at e;refine .cons ?_ (a3 b e.2);rw[<-a.1,e.1]at ag;exact agk ag
  exact gen rel vc eU
 have aw:=cf.length;rw[bk]at aw;have lz:kvs.length=ns.length:=by have:=ht F8 eU;simpa using this
 refine aam (κ:=II) (lt:=ltI ns) lo dr ⟨o,aU,av,hd⟩ rfl (by omega) (λai s1 x mx d8=>RT cf ai d8) (λai s1 x i j C ak bg ey=>SH cf ak bg ey) λag D h' t c e4 hle x aq=>?_;have aR:Inv X pins σ H {s with heap:=ag,toks:=t}:=I.kept (t':=t) λb o e=>e4 b o e;refine⟨.ref D,_,aR.laid (a:=D) (o:=.lst ((sortI ns).map V.int)) (t':=t) (λb o q=>x b o q) hle ?_,rfl,q D (aR.bf.fresh hle)⟩;rw[<-Km];refine⟨?_,_,c,IV cf,aq⟩;rw[JC,bk];omega
end
end cH
namespace df
open PySem ar cH di
theorem agn{K:aY}{wi:TI}{b6:TE}{rest:ar.St}{H:ae}{Q:a'}{ds:List aW}(hw:∀R:fe->ae->Prop,(∀p H1 ts,H p=none->aH H H1->H1 p=some (.lst (aG ts))->fa H1 ts ds->R (iW K p) H1)->wi σ H R)(gd:hc cs σ=none::none::rest)(aw:ds.length<sizeLine)(f:Nat->ar.V)(two:∀d∈ds,∃u v,d=[u,v])(elt:∀(i:Nat)(u v:ar.V)(ah:ae)(R:a'),ds[i]?=some [u,v]->aH H ah->(∀ba,aH ah ba->R (f i) ba)->b6 (some u::some v::rest) ah R)(fin:∀(D:Addr)(H':ae),H D=none->H' D=some (.lst ((dK ds.length).map f))->aH H H'->Q (.ref D) H'):mf wi cs (Cn K 2 (yM (ha 0) (yM (ha 1) Gl))) q0 b6 σ H Q:=by
 refine hw _ λp H1 ts np s1 aN bV D bl=>?_;have ln:=bV.len;refine⟨λi m ys a9 H'=>m=ds.length-i/\i<=ds.length/\ys=(dK i).map f/\(∃kk tF,a9=kk::tF::rest)/\aH H1 H'/\H' D=some (.lst ys),⟨ds.length,by simp,eZ _,rfl,⟨none,none,by rw[gd]⟩,λb o e=>?_,aQ⟩,?_⟩
 .rw[aD (cA e bl)];exact e
 .rintro i m ys a9 H' ⟨rfl,ak,rfl,⟨kk,tF,rfl⟩,ax,eM⟩;obtain⟨gF,g4,gv⟩:=nA (aC.of (K:=K) aN) H' ax;refine⟨eM,oZ (by rw[bk,iD];omega) aw,?_⟩;rw[d6]at gF g4 gv;by_cases cz:i<ds.length
  .refine .inr ⟨g4 i (by omega),λx ah y=>?_⟩;obtain⟨rfl,ex⟩:=gv i x ah (by omega) y;unfold aG at ex;rw[cx]at ex;obtain⟨t,C3,rfl⟩:=e0.mp ex;obtain⟨d,dp,hd⟩:=bO.get bV C3;have hd:=ax _ _ hd;obtain⟨u,v,rfl⟩:=two d (dV dp);refine⟨t,_,rfl,bI.of hd,rfl,_,_,rfl,_,_,rfl,rfl,?_⟩;show b6 (some u::some v::rest) ah _;refine elt i u v ah _ dp (s1.trans ax) λba s5=>⟨s5 _ _ eM,ds.length-(i+1),by omega,rfl,cz,?_,⟨_,_,rfl⟩,λb ob e=>?_,aQ⟩
   .rw[B7,fm];rfl
   .rw[aD (cA e bl)];exact s5 _ _ (ax _ _ e)
  .have e:i=ds.length:=by omega
   subst e;rw[ln]at gF;exact .inl ⟨gF,fin D H' (pG s1 bl) eM (s1.trans ax)⟩
theorem WU{i:Nat}{σ:ar.St}{Q:ar.St->ae->Prop}(h:Q (σ.set i (some v)) H):ha i v σ H Q:=h
theorem i7.upd{H:ae}{b:eO×List Nat}(h:i7 H a b)(aw:H l=some (.lst xs)):i7 (ar.upd H l (.lst ys)) a b:=by obtain⟨c,ag,ai⟩:=h;exact⟨c,by rw[aD λz=>by rw[z,aw]at ag;cases ag];exact ag,by rw[aD λz=>by rw[z,aw]at ai;cases ai];exact ai⟩
theorem aeO(ts:cj){m:Int}(h:0<=m):lC (aG ts) none (some m)=aG (ts.take m.toNat):=by
 obtain⟨k,rfl⟩:∃k:Nat,m=(k:Int):=⟨m.toNat,by omega⟩
 unfold lC;have f1:hk.eg (aG ts).length 0 none=0:=rfl;have f2:hk.eg (aG ts).length (aG ts).length (some (k:Int))=min k (aG ts).length:=hk.Q1 (aG ts).length (aG ts).length k;rw[f1,f2,Nat.sub_zero,List.drop_zero,kQ];unfold aG;rw[bk,Lr];by_cases z:k<=ts.length
 .rw[Vs z]
 .rw[ac4 (by omega),aca (by rw[bk];exact bU _),aca (by rw[bk];omega)]
theorem ĵ:∀{ts:cj}{ds:List aW}(k:Nat),fa H ts ds->fa H (ts.take k) (ds.take k)
 |_,_,0,_=>by rw[Ga,Ga];exact .nil
 |_,_,k+1,.nil=>.nil
 |_,_,k+1,.cons a t=>.cons a (ĵ k t)
noncomputable def l8(ds:ck)(due:Nat->Int)(rd:Nat->Nat)(T:Int)(go:dN)(r:Nat):eO×List Nat:=((T,r),CF (md ds r) (fv due rd T go r))
theorem UH(due:Nat->Int)(rd:Nat->Nat)(T:Int)(go:dN)(r:Nat):(fv due rd T go r).map (·.2)=go.filter λn=>decide (due n<=T)&&decide (rd n=r):=by unfold fv;rw[gU];exact Lp _
theorem ahr{due:Nat->Int}{rd:Nat->Nat}{T:Int}{go:dN}{r:Nat}(aI:go.Nodup):(fv due rd T go r).Nodup:=by
 have h:((fv due rd T go r).map (·.2)).Nodup:=by rw[UH];exact aI.filter _
 exact(wF.mp h).imp λh z=>h (by rw[z])
theorem Kq{due:Nat->Int}{rd:Nat->Nat}{T:Int}{go:dN}{r:Nat}(aI:go.Nodup)(k:Nat):(((nD (fv due rd T go r)).take k).map (·.2)).Nodup:=by
 have h:((nD (fv due rd T go r)).map (·.2)).Nodup:=by refine(((H9 _).map _).nodup_iff).mpr ?_;rw[UH];exact aI.filter _
 rw[Lr];exact h.sublist (LA _ _)
theorem E_(ns:dN):lw ns=(e2 ns).map V.int:=by unfold lw e2;rw[gU];rfl
inductive WF(K:aY)(C bw aO:Addr)(vs:aW)(H:ae)(Q:a')(el:bX):Prop where
 |mk (x n g st gl y t bL br:Addr) (bT:cb) (ls rs:cj) (ay:eK) (hs:bF) (ds:ck) (kvs:en) (xA:dN) (hw:Nat->Bool) (go:dN) (due:Nat->Int) (rd:Nat->Nat) (T:Int) (bM:vs=[.ref n,.ref x,.ref gl,.ref y,.int T]) (bu:go=xA.filter hw) (bW:WalkAt C H x n g st bT ls ay) (cW:aC K H gl (lw xA)) (dD:qE bw aO H y n t bL br (de hs) (aG rs) kvs) (eS:hr H hs rs ds) (hB:Good hs) (lN:xA.length<=60) (nT:xA.Nodup) (sh:(∀k∈xA,Kp hw hs kvs bT ay due rd k)) (we:(∀k∈go,rd k<ds.length)) (E5:∀(l:Addr)(H':ae)(as:cj)(fb:dN),H l=none->aH H H'->H' l=some (.lst (aG as))->bO (i7 H') as (fb.map (l8 ds due rd T go))->fb.Pairwise (· < ·)->(∀r,r∈fb↔fv due rd T go r≠[])->Q (.ref l) H')
section
variable{P:cG}{w:bS}{K:aY}{mg:cw}{base:Heap}
noncomputable abbrev I7:Stmt:=top 35
theorem zy:c3 ["net","walk","going","ways","turn","queues","bags","road","room","chosen"] B_ (cn I7):={}
inductive aju(n x gl y p aA sl:Addr)(T:Int)(fb:dN)(ds:ck)(due:Nat->Int)(rd:Nat->Nat)(go:dN)(H1:ae)(j:Nat)(σ:ar.St)(b':ae):Prop where
 |mk (as:cj) (v1 v2 lK:kW) (bM:σ=[some (.ref n),some (.ref x),some (.ref gl),some (.ref y),some (.int T),some (.ref p),some (.ref aA),v1,v2,lK]) (bu:aH H1 b') (bW:b' sl=some (.lst (lw fb))) (cW:b' aA=some (.lst (aG as))) (dD:bO (i7 b') as ((fb.take j).map (l8 ds due rd T go)))
theorem ahs(F:cC K "bags_at" "bags_at" I7 f fd)(B:fk mg)(gz:eh K aO)(vf:cY K mg "queues_at" Jg Cb f1 dJ)(aab:aS P w K mg base bh 4 f1 dJ Cb (Xl K C bw aO))(lZ:cS K aO "road" "Net.road" yn dg f2 eV)(DO:aS P w K mg base bh 1 f2 eV dg (KD aO)):
  aS P w K mg base bh 5 f fd B_ (WF K C bw aO):=by
 refine F.ok zy (λ_ A _ s H vs Q E ao h=>?_)
 .obtain⟨x,n,g,st,gl,y,t,bL,br,bT,ls,rs,ay,hs,ds,kvs,xA,hw,go,due,rd,T,rfl,Na,W,Hu,w5,R,G,als,aok,ok,Ð,q⟩:=h;have c6:go.length<=60:=by rw[Na];exact eP (nf _ _) als
  have ω:go.Nodup:=by rw[Na];exact aok.filter _
  obtain⟨h6,aM⟩:=w5.ie.ins;refine⟨_,(a_ (dI (i:=5) zy.aI rfl (cR rfl) (ec aab ao.mono (by rfl) vf.at_ vf.fn.cI vf.bd .nil cm (aj (U 1) (aj (U 2) (aj (U 3) (aj (U 4) aE))))))
   (a_ (dI (i:=6) zy.aI rfl (cR rfl) (h7 aE))
   (a_ (jR j6 rfl (kb (dj (aq1 rfl) (by rfl) B.sorted IW (aj (U 5) aE))) (eu (i:=7) zy.aI rfl (cR rfl))
    (a_ (dI (i:=8) zy.aI rfl (cR rfl) (bG c1 (fx (U 0) gz lZ.d1 DO ao.mono lZ.bd .nil cm (aj (U 7) aE)) aV (λ_ _=>rfl)))
   (a_ (qB (i:=9) zy.aI rfl rfl rfl (N':=["came","number"]) (cs:=[none,none]) rfl (kb (Ja UK (dj Ş (by rfl) B.sorted IW (aj (vF (iO ao) (U 5) (U 7) (λ_ _=>rfl)) aE)) Kd (Eg (U 8)))) rfl (by decide+kernel) rfl (by decide+kernel) (ju (λp aN=>bx aN (eo))) rfl
    (.own (.own .nil))
    (λC s3 aZ bR eC=>⟨(Kf (K:=K) (n:=2) rfl rfl (mQ (eu (i:=0) (by show(["came","number"]:cb).Nodup;decide+kernel) rfl (.inl rfl)) (mQ (eu (i:=1) (by show(["came","number"]:cb).Nodup;decide+kernel) rfl (.inl rfl)) x'))),mX,(U 1)⟩))
   (bb (gK (tQ uv wU wV tr (U 6) (aj (kF (aj (U 4) (aj (U 7) (aj (n9 aqO (by rfl) B.tuple AI (aj (dj aqT (by rfl) B.sorted IW (aj (U 9) aE)) aE)) aE)))) aE)))))))
   (bb (cp (U 6)))))),?_⟩
  try dsimp only[lD,lu]
  refine⟨_,rfl,_,rfl,_,rfl,_,rfl,x,n,g,st,gl,y,n,t,bL,br,bT,ls,ay,hs,_,kvs,xA,hw,due,rd,T,rfl,W,Hu,w5,G,(by omega),ok,λp H1 E np s1 m3 mem=>?_⟩;rw[<-Na]at m3 mem;refine⟨eZ _,λaA Ip=>?_⟩;have s2:=b8 (o:=.lst []) Ip;have N5:upd H1 aA (.lst []) aA=some (.lst []):=aQ;generalize upd H1 aA (.lst [])=ah at s2 N5⊢;obtain⟨gS,G6⟩:∃gS,gS=E.map (·.1):=⟨_,rfl⟩
  have Α:gS.Nodup:=by rw[G6];exact m3.vL
  have eU:(mL E).map (·.1)=(e2 gS).map e9:=by rw[G6];unfold mL e2;rw[gU,gU,gU];rfl
  have au6:gS.length<=go.length:=by
   have ai:=AA (sn:=gS) (L:=go.map rd) Α λr ao=>by rw[G6]at ao;obtain⟨c,aq⟩:=Ve _ ((mem r).mp ao);unfold fv at aq;obtain⟨k,aP,_⟩:=b7.mp aq;obtain⟨bK,c8⟩:=gj.mp aP;simp only[iB,decide_eq_true_eq]at c8;exact b7.mpr ⟨k,bK,c8.2⟩
   rwa [bk]at ai
  refine⟨_,rfl,p,mL E,e2 gS,rfl,s2 _ _ m3.tab,eU,(by unfold e2;rw[bk];omega),λsl kK=>⟨sl,rfl,⟨_,aC.of aQ⟩,?_⟩⟩;rw[<-ww,<-E_];have s3:=b8 (o:=.lst (lw (ki gS))) kK;have OS:upd ah sl (.lst (lw (ki gS))) sl=some (.lst (lw (ki gS))):=aQ;have Y5:=s3 _ _ N5;have apz:sl≠aA:=c2 (gE N5 kK);generalize upd ah sl (.lst (lw (ki gS)))=aZ at s3 OS Y5⊢;obtain⟨fb,xn⟩:∃fb,fb=ki gS:=⟨_,rfl⟩
  rw[<-xn]at OS;have Pz:∀r,r∈fb↔fv due rd T go r≠[]:=λr=>by rw[xn,(Ap gS).mem_iff,G6];exact mem r
  have lz:fb.length<=100:=by rw[xn,(Ap gS).length_eq];omega
  refine vy (xs:=lw (ki gS)) (aju n x gl y p aA sl T fb ds due rd go H1)
   ⟨[],none,none,none,rfl,s2.trans s3,OS,Y5,.nil⟩ (λi σ b' _⟨_,_,_,_,_,_,h,_,_⟩=>by rw[<-xn];exact aC.of h) ?_ ?_
  .rintro j z σ b' ee ⟨as,v1,v2,lK,rfl,ax,ZN,N7,kx⟩;rw[<-xn]at ee;unfold lw at ee;rw[cx]at ee;obtain⟨r,fh,rfl⟩:=e0.mp ee;have ZM:=dV fh;obtain⟨zS,Y9⟩:=Ve _ ((Pz r).mp ZM);have avA:r<ds.length:=by unfold fv at Y9;obtain⟨k,aP,_⟩:=b7.mp Y9;obtain⟨bK,c8⟩:=gj.mp aP;simp only[iB,decide_eq_true_eq]at c8;rw[<-c8.2];exact Ð k bK
   have QV:=s1.trans ax;have aeM:=R.same QV;have avz:=R.len;obtain⟨hV,era⟩:∃hV,rs[r]?=some hV:=⟨_,cF (by omega)⟩
   obtain⟨d,dp,tK,hd⟩:=aeM.get era;have cD:ds.getD r qS=d:=lx dp;refine⟨_,rfl,n,h6,_,rfl,QV _ _ aM,rfl,_,rfl,n,bL,br,_,_,_,_,rfl,w5.ie.same QV,(by omega),(by have:=d6 rs;omega),(il (by unfold aG;rw[cx,era];rfl)),hV,_,_,_,rfl,rfl,bI.of hd,rfl,?_⟩;have em:(d.m:Int)=md ds r:=by unfold md;rw[cD]
   have m0:0<=md ds r:=by rw[<-em];have:=tK.m.1;omega
   obtain⟨cs,sW⟩:∃cs,cs=fv due rd T go r:=⟨_,rfl⟩
   have avk:cs.Nodup:=by rw[sW];exact ahr ω
   have lcs:cs.length<=60:=by rw[sW];have:=UG due rd T go r;omega
   have am4:r∈E.map (·.1):=(mem r).mpr ((Pz r).mp ZM);obtain⟨⟨r0,nG⟩,he,az⟩:=b7.mp am4;have az:r0=r:=az;subst az;obtain⟨_,_,ts,Hy,EB⟩:=(m3.same ax).each _ he;have EB:fa b' ts (cs.map lE):=by rw[sW];exact EB
   have am0:=(m3.same ax).tab;have YK:=ir.k (k:=e9 (r0:Int)) am0;rw[JD m3.vL he]at YK;have apZ:=EB.len;rw[bk]at apZ;obtain⟨k,Yj⟩:∃k,k=(md ds r0).toNat:=⟨_,rfl⟩
   obtain⟨ch,G4⟩:∃ch,ch=((nD cs).take k).map (·.2):=⟨_,rfl⟩
   have avl:ch.Nodup:=by rw[G4,sW];exact Kq ω k
   have er:((nD cs).take k).length<=60:=by rw[lS];have:=(H9 cs).length_eq;omega
   refine WU ?_;dsimp only;refine AX ?_;refine agn (K:=K) (rest:=[]) (ds:=((nD cs).take k).map lE) (λL' NQ=>?_) rfl (fF (by rw[bk];omega)) (λi=>V.int ((((nD cs).take k).getD i (0,0)).2:Int)) (λd' pd=>?_) (λi u v ba L' d7 s5 bP=>?_) (λD ba kJ bl s5=>?_)
   .refine⟨_,rfl,_,rfl,p,_,rfl,YK,nG,ts,cs.map hT,true,[true],rfl,aC.of Hy,ğ EB,(by omega),aeN cs,λdF m1=>?_⟩;obtain⟨RE,ala,ap2⟩:=acN EB;have s4:=b8 (o:=.lst (ia V.bc (tA (cs.map hT)) (ts.map V.ref))) m1;have gR:upd b' dF (.lst (ia V.bc (tA (cs.map hT)) (ts.map V.ref))) dF=some (.lst (aG RE)):=by rw[aQ];rw[show ts.map V.ref=aG ts from rfl,ala]
    refine⟨_,rfl,_,rfl,dF,_,rfl,aC.of gR,λd9 pA=>⟨d9,rfl,⟨_,aC.of aQ⟩,?_⟩⟩;rw[em,aeO RE m0,<-Yj];refine NQ d9 _ (RE.take k) (pG s4 pA) (s4.trans (b8 pA)) aQ ?_;rw[Lr];exact(ĵ k (ap2.same s4)).same (b8 pA)
   .obtain⟨c,_,rfl⟩:=b7.mp pd;exact⟨_,_,rfl⟩
   .rw[cx]at d7;obtain⟨c,iZ,aB⟩:=e0.mp d7;have cX:V.int (c.2:Int)=v:=by unfold lE at aB;simp only[Lk]at aB;exact aB.2.1
    refine⟨_,rfl,?_⟩;rw[<-cX];have:=bP ba (aH.refl _);rw[lx iZ]at this;exact this
   have M8:(dK (((nD cs).take k).map lE).length).map (λi=>V.int ((((nD cs).take k).getD i (0,0)).2:Int))=lw ch:=by rw[bk,range_getD (λc:Int×Nat=>V.int (c.2:Int)) (0,0) ((nD cs).take k),G4];unfold lw;rw[gU];rfl
   rw[M8,E_]at bl;have N6:=s5 _ _ N7;have Z6:=gW kx;rw[bk,lS]at Z6;refine⟨_,rfl,.inl ⟨rfl,_,aC.of N6⟩,_,rfl,_,rfl,_,rfl,D,e2 ch,rfl,aC.of bl,(by unfold e2;rw[bk,G4,bk];omega),λnE It=>⟨nE,_,rfl,.inl ⟨aC.of aQ,λc ic=>⟨(by show 3<=sizeLine;decide),λfy DS=>⟨aA,aG as,_,rfl,rfl,b8 DS _ _ (b8 ic _ _ (b8 It _ _ N6)),fF (by rw[d6];omega),?_⟩⟩⟩⟩⟩;rw[<-ww,<-E_];have i_:=b8 (o:=.lst (lw (ki ch))) It;have jv:∀b o,ba b=some o->upd ba nE (.lst (lw (ki ch))) b=some o:=i_;rw[<-ww,<-E_]at ic DS;generalize upd ba nE (.lst (lw (ki ch)))=f' at i_ ic DS⊢;have oE:=b8 (o:=.tup (lw (ki ch))) ic;have Y_:upd f' c (.tup (lw (ki ch))) c=some (.tup (lw (ki ch))):=aQ;generalize upd f' c (.tup (lw (ki ch)))=jG at oE Y_ DS⊢;have jZ:=b8 (o:=.tup [V.int T,V.int (r0:Int),V.ref c]) DS;have Y7:upd jG fy (.tup [V.int T,V.int (r0:Int),V.ref c]) fy=some (.tup [V.int T,V.int (r0:Int),V.ref c]):=aQ;have Za:=jZ _ _ Y_;generalize upd jG fy (.tup [V.int T,V.int (r0:Int),V.ref c])=gO at jZ Y7 Za⊢;have I5:=i_.trans (oE.trans jZ);have Y6:=I5 _ _ N6;have nb:i7 gO fy (l8 ds due rd T go r0):=by
    refine⟨c,Y7,?_⟩;have akX:(l8 ds due rd T go r0).2=ki ch:=by unfold l8 CF;rw[<-sW,<-Yj,<-G4]
    rw[akX];exact Za
   refine⟨as++[fy],_,_,_,rfl,k7 Ip (ax.trans (s5.trans I5)),by rw[aD apz];exact I5 _ _ (s5 _ _ ZN),by rw[aQ,Ax],?_⟩;rw[show fb.take (j+1)=fb.take j++[r0] by rw[oT,fh];rfl,fm];refine Paired.snoc (nb.upd Y6) (bO.gL kx λa b h=>((h.same s5).same I5).upd Y6)
  .rintro σ b' ⟨as,v1,v2,lK,rfl,ax,ZN,N7,kx⟩;rw[<-xn]at kx;unfold lw at kx;rw[bk,oU]at kx;exact⟨_,rfl,q aA b' as fb (pG s1 Ip) (s1.trans ax) N7 kx (by rw[xn];exact TN Α) Pz⟩
noncomputable def apt:Step:=⟨0,none,o4,0⟩
noncomputable def lB(ss:List Step):Step:=ss.getLastD apt
noncomputable def gT(ay:eK)(n:Nat):Step:=lB (ay.getD n [])
noncomputable def su(ay:eK)(n:Nat):Int:=(gT ay n).due
noncomputable def i0(bT:cb)(n:Nat):Str:=bT.getD n o4
noncomputable def nK(kvs:en)(bT:cb)(ay:eK)(n:Nat):Nat:=(pD kvs (gT ay n).gq (i0 bT n)).getD 0
theorem QI(ss:List Step)(s:Step):lB (ss++[s])=s:=by unfold lB;rw[ab0,Vh];rfl
theorem QJ{ss:List Step}(h:ss≠[]):∃i,ss=i++[lB ss]:=by refine⟨ss.dropLast,?_⟩;unfold lB;rw[ab0,List.getLast?_eq_getLast h];exact(List.dropLast_concat_getLast h).symm
theorem yc{α:Type}{l:List α}{i:Nat}{d:α}(h:i<l.length):l[i]?=some (l.getD i d):=by rw[eF,cF h];rfl
noncomputable def oq(m:Nat)(due:Nat->Int)(rd:Nat->Nat)(T:Int)(go:dN):List Nat:=(dK m).filter λr=>!(fv due rd T go r).isEmpty
noncomputable def rU(ds:ck)(due:Nat->Int)(rd:Nat->Nat)(T:Int)(go:dN):List (eO×List Nat):=(oq ds.length due rd T go).map (l8 ds due rd T go)
theorem aeP{m:Nat}{due:Nat->Int}{rd:Nat->Nat}{T:Int}{go:dN}(cz:∀k∈go,rd k<m){fb:dN}(up:fb.Pairwise (· < ·))(mem:∀r,r∈fb↔fv due rd T go r≠[]):fb=oq m due rd T go:=by
 have ā:(oq m due rd T go).Pairwise (· < ·):=F_.filter _;have anZ:∀r,r∈oq m due rd T go↔fv due rd T go r≠[]:=λr=>by
  unfold oq;rw[gj];constructor
  .rintro⟨_,h⟩ e;rw[e]at h;cases h
  .intro h;obtain⟨c,aq⟩:=Ve _ h;refine⟨j5.mpr ?_,?_⟩
   .unfold fv at aq;obtain⟨k,aP,_⟩:=b7.mp aq;obtain⟨bK,c8⟩:=gj.mp aP;simp only[iB,decide_eq_true_eq]at c8;rw[<-c8.2];exact cz k bK
   .cases e:fv due rd T go r with
    |nil=>exact bx e h
    |cons _ _=>rfl
 refine UD (R:=(· < ·)) (λa b ag ai=>by omega) ((List.perm_ext_iff_of_nodup (up.imp λh=>dR h) (ā.imp λh=>dR h)).mpr λr=>?_) up ā;rw[mem r,anZ r]
theorem vK{due:Nat->Int}{rd:Nat->Nat}{T:Int}{go:dN}{r i:Nat}(h:i∈(l8 ds due rd T go r).2):i∈go/\due i<=T/\rd i=r:=by unfold l8 CF at h;have ag:=(Ap _).mem_iff.mp h;obtain⟨c,aq,rfl⟩:=b7.mp ag;have ai:=(H9 _).mem_iff.mp (Vi aq);unfold fv at ai;obtain⟨k,aP,rfl⟩:=b7.mp ai;obtain⟨bK,c8⟩:=gj.mp aP;simp only[iB,decide_eq_true_eq]at c8;exact⟨bK,c8.1,c8.2⟩
theorem WE{due:Nat->Int}{rd:Nat->Nat}{T:Int}{go:dN}(aI:go.Nodup)(r:Nat):(l8 ds due rd T go r).2.Nodup:=((Ap _).nodup_iff).mpr (Kq aI _)
theorem aht{due:Nat->Int}{rd:Nat->Nat}{T:Int}{r:Nat}(hm:1<=md ds r)(h:fv due rd T go r≠[]):(l8 ds due rd T go r).2≠[]:=λe=>by have dF:=ht F8 e;unfold l8 CF at dF;rw[(Ap _).length_eq,bk,lS,(H9 _).length_eq]at dF;have d9:=zi.mpr h;simp only[B6]at dF;omega
noncomputable def kC(hs:bF)(ds:ck)(bs:j7)(ay:eK):List (List Step):=bs.foldl (λs b=>jz (stepK hs ds b.1) b.2 s) ay
theorem Ed(hs:bF)(ds:ck):∀(bs:j7)(ay:eK),(kC hs ds bs ay).length=ay.length
 |[],_=>rfl
 |b::bs,ay=>by show(kC hs ds bs (jz (stepK hs ds b.1) b.2 ay)).length=_;rw[Ed hs ds bs,qt]
theorem JE(hs:bF)(ds:ck):∀(bs:j7)(ay:eK)(i:Nat),(kC hs ds bs ay)[i]?=(ay[i]?).map λss=>ss++((bs.filter λb=>decide (i∈b.2)).map λb=>stepK hs ds b.1)
 |[],ay,i=>by show ay[i]?=_;cases ay[i]?<;>simp
 |b::bs,ay,i=>by
  show(kC hs ds bs (jz (stepK hs ds b.1) b.2 ay))[i]?=_;rw[JE hs ds bs,pb,Option.map_map];congr 1;funext ss;show(if i∈b.2 then ss++[stepK hs ds b.1]else ss)++_=_;rw[p3];by_cases z:i∈b.2
  .rw[bB z,bB (cT z),hE,F4];rfl
  .rw[bp z,bp (by rw[dn z];decide)]
theorem Ķ(hs:bF)(ds:ck)(bs:j7)(b:eO×List Nat)(ay:eK):kC hs ds (bs++[b]) ay=jz (stepK hs ds b.1) b.2 (kC hs ds bs ay):=by unfold kC;rw[List.foldl_append];rfl
theorem aaH{L:dN}(aI:L.Nodup){p:Nat->Bool}{r0:Nat}(h:∀r∈L,p r=true->r=r0)(h0:p r0=true->r0∈L):L.filter p=if p r0=true then[r0]else[]:=by
 by_cases z:p r0=true
 .rw[bB z];have gr:=aI.filter p;have all:∀r∈L.filter p,r=r0:=λr ao=>h r (gj.mp ao).1 (gj.mp ao).2;have m0:r0∈L.filter p:=gj.mpr ⟨h0 z,z⟩
  match e:L.filter p with
  |[]=>rw[e]at m0;exact bx m0 eo
  |[a]=>rw[e]at all;rw[all a (.head _)]
  |a::b::l=>
   rw[e]at all gr;have:=(iE.mp gr).1;exact bx (by rw[all a (.head _),all b (.tail _ (.head _))];exact .head _) this
 .rw[bp z];refine List.filter_eq_nil_iff.mpr λr ao aN=>z ?_;rw[<-h r ao aN];exact aN
noncomputable def Md(ds:ck)(due:Nat->Int)(rd:Nat->Nat)(T:Int)(go:dN)(i:Nat):Bool:=decide (i∈(l8 ds due rd T go (rd i)).2)
theorem ago{ds:ck}{due:Nat->Int}{rd:Nat->Nat}{T:Int}{go:dN}(cz:∀k∈go,rd k<ds.length)(i:Nat):(rU ds due rd T go).filter (λb=>decide (i∈b.2))=if Md ds due rd T go i=true then[l8 ds due rd T go (rd i)]else[]:=by
 unfold rU;rw[zg];have aI:(oq ds.length due rd T go).Nodup:=(F_.filter _).imp λh=>dR h;rw[aaH (r0:=rd i) aI (p:=(λb:eO×List Nat=>decide (i∈b.2))∘l8 ds due rd T go) (λr _ aN=>((vK (kL aN)).2.2).symm) (λaN=>?_)]
 .show List.map _ (if Md ds due rd T go i=true then[rd i]else[])=_;cases Md ds due rd T go i<;>rfl
 .have m:=vK (kL aN);unfold oq;refine gj.mpr ⟨j5.mpr (cz i m.1),?_⟩;have hm:(due i,i)∈fv due rd T go (rd i):=by unfold fv;refine b7.mpr ⟨i,gj.mpr ⟨m.1,?_⟩,rfl⟩;rw[cT m.2.1,cT rfl];rfl
  cases e:fv due rd T go (rd i)with
  |nil=>rw[e]at hm;exact bx hm eo
  |cons _ _=>rfl
end
structure Mw(mg:cw):Prop where
 acA:sx mg "MOST_LETTERS" 40
 acE:sx mg "MOST_TURN" 1000000000
 acy:sx mg "MOST_APART" 30
noncomputable def jj(hs:gx):PyData->Bool
 |.tuple [a,t,g]=>hJ hs a g&&Em 0 1000000000 t
 |_=>false
theorem Ŗ{ds:gx}(h:ds.length≠3):jj hs (.tuple ds)=false:=by rcases ds with _|⟨a,_|⟨b,_|⟨c,_|⟨e,r⟩⟩⟩⟩<;>first|rfl|(simp at h)
noncomputable def ox:PyData->Int
 |.tuple [_,.int t,_]=>t
 |_=>0
theorem ű{d:PyData}(h:jj hs d=true):∃a t g,d=.tuple [a,.int t,g]/\0<=t/\t<=1000000000:=by
 unfold jj at h;split at h
 .rename_i a t g;rw[iB]at h;cases t with
  |int i=>
   have ai:(decide (0<=i)&&decide (i<=1000000000))=true:=h.2;rw[iB]at ai;exact⟨a,i,g,rfl,kL ai.1,kL ai.2⟩
  |_=>cases h.2
 .cases h
noncomputable def Bm(ns:fp):Int:=if ns=[]then 0 else v3 ns-pF ns
inductive WG(vs:aW)(H:ae)(Q:a')(el:bX):Prop where
 |mk (a:Addr) (hs:gx) (v:ar.V) (d:PyData) (bM:vs=[.ref a,v]) (bu:dH H (.ref a) (.list hs)) (bW:dH H v d) (cW:d.depth<=61) (dD:Q (.aA (jj hs d)) H)
inductive UI(vs:aW)(H:ae)(Q:a')(el:bX):Prop where
 |mk (v:ar.V) (hs ds:gx) (bM:vs=[v]) (bu:dH H v (.list ds)) (bW:(∀d∈ds,jj hs d=true)) (cW:∀H',aH H H'->Q (.int (Bm (ds.map ox))) H')
inductive CH(C:Addr)(vs:aW)(H:ae)(Q:a')(el:bX):Prop where
 |mk (e:Addr) (v:ar.V) (bM:vs=[.ref e,v]) (bu:H e=some (mP e C)) (bW:∀af,H af=none->af≠e->Q .bc (upd (upd H af (lM af [("number",v)])) e (mO e C af)))
noncomputable def nv(hs:gx):List PyData->Option Nat
 |[]=>none
 |d::r=>if jj hs d=true then(nv hs r).map (·+1)else some 0
noncomputable def Mx:Option Nat->ar.V
 |some i=>.int i
 |none=>.bc
noncomputable def zz(hs ds:gx):Prop:=nv hs ds=none/\ds.length<=40/\Bm (ds.map ox)<=30
inductive WV(C d5:Addr)(vs:aW)(H:ae)(Q:a')(E:bX):Prop where
 |mk (x bL br:Addr) (hs:bF) (zs:aW) (v:ar.V) (ds:gx) (bM:vs=[.ref x,v]) (bu:i6 C H x bL br (de hs) zs) (bW:Good hs) (cW:dH H v (.list ds)) (dD:(p9 ds).depth<=62) (eS:(zz (bl hs) ds->∀l H',H l=none->aH H H'->dH H' (.ref l) (.list ds)->Q (.ref l) H')) (hB:(¬zz (bl hs) ds->∀af H',H af=none->aH H H'->H' af=some (lM af [("number",Mx (nv (bl hs) ds))])->E (.ref d5) (some af) H'))
section
variable{P:cG}{w:bS}{K:aY}{mg:cw}{base:Heap}
noncomputable abbrev Q0:Stmt:=fT (top 6) 0
theorem ajv:c3 dg dg (cn Q0):={}
theorem ain(F:cC K "__init__" "NoLetter.__init__" Q0 f fd)(j2:qe K mg "RoadError" C R)(s8:mg "RoadError"=some (.ref R))(aM:cJ K (.ref C) "number"=some none):aS P w K mg base bh 1 f fd dg (CH C):=by
 refine F.ok ajv (λ_ A _ s H vs Q E ao h=>?_)
 .obtain⟨e,v,rfl,he,q⟩:=h;refine⟨_,(a_ (gK (aeh (by rfl) s8 j2.rd j2.Nl j2.Q5 (aj (U 0) (aj g8 aE))))
   (bb (afK (y:="RoadError") (R:=R) (U 0) (U 1) rfl))),?_⟩
  refine⟨_,rfl,e,C,_,rfl,he,j2,(by show 1<=sizeLine;decide),?_⟩;exact⟨_,rfl,_,rfl,e,C,rfl,j2,aM,.inl ⟨he,q⟩⟩
noncomputable abbrev GJ:Stmt:=top 17
theorem aio:c3 oW oW (cn GJ):={}
theorem ahu(F:cC K "is_letter" "is_letter" GJ f fd)(wh:Mw mg)(j':cY K mg "is_tuple_of" ym p4 f1 dJ)(uR:aS P w K mg base bh 1 f1 dJ p4 TB)(j8:cY K mg "are_unlike_houses" ya p5 f2 eV)(xb:aS P w K mg base bh 1 f2 eV p5 RQ)(kY:cY K mg "is_whole_within" AS sM cU h8)(zV:aS P w K mg base bh 2 cU h8 sM ĭ):
  aS P w K mg base bh 3 f fd oW WG:=by
 refine F.ok aio (λ_ A _ s H vs Q E ao h=>?_)
 .obtain⟨a,hs,v,d,rfl,aF,h,dd,q⟩:=h;refine⟨_,(bb (cp (hM (ec uR ao.mono (by rfl) j'.at_ j'.fn.cI j'.bd .nil cm (aj (U 1) (aj aV aE))) (hM (ec xb ao.mono (by rfl) j8.at_ j8.fn.cI j8.bd .nil cm (aj (U 0) (aj (bG c1 (U 1) aV (λ_ _=>rfl)) (aj (bG c1 (U 1) aV (λ_ _=>rfl)) aE)))) (l5 (ec zV ao.mono (by rfl) kY.at_ kY.fn.cI kY.bd .nil cm (aj (bG c1 (U 1) aV (λ_ _=>rfl)) (aj aV (aj (vA (by rfl) wh.acE) aE))))))))),?_⟩;refine⟨_,rfl,v,d,_,rfl,h,_,rfl,?_⟩;cases h with
  |@tup r xs ds gX z t=>
   show if decide ((ds.length:Int)=3)=true then _ else _
   by_cases c8:ds.length=3
   .refine eQ (cT (by omega)) ?_;have DC:xs.length=3:=by rw[t.len];exact c8
    obtain⟨x0,e4,jF,rfl⟩:∃x0 e4 jF,xs=[x0,e4,jF]:=by rcases xs with _|⟨a,_|⟨b,_|⟨c,_|⟨d,r⟩⟩⟩⟩<;>first|exact⟨_,_,_,rfl⟩|(simp at DC)
    cases t with
    |cons t0 t=>
     cases t with
     |cons t1 t=>
      cases t with
      |cons dU t=>
       cases t;rename_i e6 hK kA;have q:Q (.aA (hJ hs e6 kA&&Em 0 1000000000 hK)) H:=q;have amm:wQ [e6,hK,kA]+1<=61:=dd;have j9:e6.depth<=60:=eP (RR (by simp:e6∈[e6,hK,kA])) (by omega);have e5:kA.depth<=60:=eP (RR (by simp:kA∈[e6,hK,kA])) (by omega);refine⟨_,rfl,_,rfl,r,_,_,_,rfl,rfl,bI.of gX,rfl,_,rfl,r,_,_,_,rfl,rfl,bI.of gX,rfl,a,hs,x0,jF,e6,kA,rfl,aF,t0,dU,j9,e5,_,rfl,?_⟩;cases ag:hJ hs e6 kA with
       |false=>
        rw[ag]at q;exact fI q
       |true=>
        rw[ag,BK]at q;exact gD ⟨_,rfl,r,_,_,_,rfl,rfl,bI.of gX,rfl,e4,hK,_,_,rfl,t1,q⟩
   .refine dw (dn (by omega)) ?_;rw[Ŗ c8]at q;exact q
  |_=>exact fI q
noncomputable abbrev Fi:Stmt:=top 18
theorem Un:c3 ["letters","turns"] ["letters"] (cn Fi):={}
theorem ķ:∀{vs:aW}{ds:gx},fo H vs ds->(∀d∈ds,jj hs d=true)->vs.map (λv=>V.int (ox (GZ H v)))=(ds.map ox).map V.int
 |_,_,.nil,_=>rfl
 |_,_,.cons a b,h=>by simp only[hE];rw[S' a,ķ b λd hd=>h d (ng _ hd)]
theorem aeR(F:cC K "turns_apart" "turns_apart" Fi f fd)(B:fk mg):aS P w K mg base bh 1 f fd ["letters"] UI:=by
 refine F.ok Un (λ_ A _ s H vs Q E ao h=>?_)
 .obtain⟨v,hs,ds,rfl,bj,aw,q⟩:=h;obtain⟨a,xs,rfl,aF,hz,t⟩:=K3 bj;refine⟨_,(a_ (qB (i:=1) Un.aI rfl rfl rfl (N':=["letter"]) (cs:=[none]) rfl (kb (U 0)) rfl (by decide+kernel) rfl (by decide+kernel) (ju (λp aN=>bx aN (eo))) rfl
    (.own .nil)
    (λC s3 aZ bR eC=>⟨(eu (i:=0) (by show(["letter"]:cb).Nodup;decide+kernel) rfl (.inl rfl)),mX,(bG (tw (K:=K) rfl) (U 0) aV (λ_ _=>rfl))⟩))
   (bb (cp (cq rL (age rfl (by rfl) B.max (aj (U 1) aE) aV) (agf rfl (by rfl) B.min (aj (U 1) aE) aV))))),?_⟩
  dsimp only[iQ,so];refine vG (J:=iW K a) (H1:=H) (xs:=xs) (rest:=[]) (λR h=>⟨_,rfl,a,rfl,⟨_,aC.of aF⟩,h⟩) rfl (nA (aC.of aF)) (fF (by omega)) (λv=>.int (ox (GZ H v))) (λi x ah R ex ax cK=>?_) (λD H' ag ai bK=>?_)
  .obtain⟨d,dp,hd⟩:=t.get ex;obtain⟨akN,JH,M5,rfl,_,_⟩:=ű (aw d (dV dp));have qv:=cK ah (aH.refl _);rw[S' hd]at qv;clear cK;obtain⟨r,ys,rfl,gX,_,ty⟩:=VS (hd.same ax);cases ty with
   |cons t0 ty=>
    cases ty with
    |cons t1 ty=>
     cases ty with
     |cons dU ty=>
      cases ty;obtain rfl:=agW t1;exact⟨_,rfl,r,_,_,_,rfl,rfl,bI.of gX,rfl,qv⟩
  .rw[ķ t aw]at ai;have q:=q H' bK;unfold Bm at q;by_cases hz:ds.map ox=[]
   .rw[bB hz]at q;refine⟨_,rfl,.int 0,D,ds.map ox,rfl,rfl,aC.of ai,λ_=>?_,λz=>bx hz z⟩;exact⟨_,rfl,.int 0,D,ds.map ox,rfl,rfl,aC.of ai,λ_=>⟨_,_,rfl,rfl,q⟩,λz=>bx hz z⟩
   .rw[bp hz]at q;refine⟨_,rfl,.int 0,D,ds.map ox,rfl,rfl,aC.of ai,λz=>bx z hz,λ_=>?_⟩;exact⟨_,rfl,.int 0,D,ds.map ox,rfl,rfl,aC.of ai,λz=>bx z hz,λ_=>⟨_,_,rfl,rfl,q⟩⟩
noncomputable abbrev GK:Stmt:=top 19
theorem Fz:c3 ["net","some","houses","number","thing"] Ci (cn GK):={}
theorem Ă:∀{ds:gx}{i:Nat},(∀j,j<i->∀d,ds[j]?=some d->jj hs d=true)->(∃d,ds[i]?=some d/\jj hs d=false)->nv hs ds=some i
 |[],i,_,⟨d,e,_⟩=>by simp at e
 |x::r,0,_,⟨d,e,h⟩=>by simp at e;subst e;unfold nv;rw[bp (by rw[h];exact fU)]
 |x::r,i+1,h0,⟨d,e,h⟩=>by unfold nv;rw[bB (h0 0 (by omega) x rfl),Ă (ds:=r) (i:=i) (λj bg d dp=>h0 (j+1) (by omega) d (by simpa using dp)) ⟨d,by simpa using e,h⟩];rfl
theorem HV:∀{ds:gx},(∀d∈ds,jj hs d=true)↔nv hs ds=none
 |[]=>by simp[nv]
 |x::r=>by
  unfold nv;by_cases h:jj hs x=true
  .rw[bB h];constructor
   .intro q;rw[HV.mp λd hd=>q d (ng _ hd)];rfl
   .intro q;have cv:nv hs r=none:=by
     cases e:nv hs r with
     |none=>rfl
     |some k=>rw[e]at q;cases q
    intro d hd;rcases dv.mp hd with rfl|hd
    .exact h
    .exact HV.mpr cv d hd
  .rw[bp h];constructor
   .intro q;exact bx (q x (um ..)) h
   .intro q;cases q
theorem ahv(F:cC K "letters_of" "letters_of" GK f fd)(B:fk mg)(wh:Mw mg)(gz:eh K C)(kZ:cS K C "houses" "Net.houses" AJ eA f1 dJ)(rn:aS P w K mg base bh 1 f1 dJ eA (I0 C))(vg:cY K mg "is_letter" GJ oW f2 eV)(QA:aS P w K mg base bh 3 f2 eV oW WG)(uS:cY K mg "turns_apart" Fi ["letters"] cU h8)(PQ:aS P w K mg base bh 1 cU h8 ["letters"] UI)(vk:qe K mg "RoadError" d5 R)(o9:mg "NoLetter"=some (.ref d5))(IC:mw K (.ref d5)=true)(Ib:cJ K (.ref d5) "__init__"=some (some (.ref n8)))(Ih:sQ K (.ref n8)=true)(xh:aS P w K mg base bh 1 n8 Np dg (CH d5))(Ik:Binds K Np dg []):
  aS P w K mg base (m' P w) 4 f fd Ci (WV C d5):=by
 refine Ql F Fz (λ_ A _ s H vs Q E ao h=>?_)
 .obtain⟨x,bL,br,hs,zs,v,ds,rfl,n,G,bj,dd,q,hU⟩:=h;obtain⟨af,av⟩:=n.ins;obtain⟨a,xs,rfl,aF,hz,t⟩:=K3 bj;refine⟨_,(a_ (dI (i:=2) Fz.aI rfl (cR rfl) (k8 (U 0) gz kZ.d1 rn ao.mono kZ.bd .nil cm))
   (a_ (jR PassesOwn.leaving rfl (JU rfl B.enumerate (aj (U 1) aE)) (EG rfl (mQ (eu (i:=3) Fz.aI rfl (cR rfl)) (mQ (eu (i:=4) Fz.aI rfl (cR rfl)) x')))
    (bb (dQ (g9 (ip (ec QA ao.mono (by rfl) vg.at_ vg.fn.cI vg.bd .nil cm (aj (U 2) (aj (U 4) aE))))) (bb (RL vk o9 IC Ib Ih xh ao.mono Ik rfl (aj (U 3) aE))) dW)))
   (a_ (dQ (h1.pt (lq (ej qM (dj fQ (by rfl) B.len fG (aj (U 1) aE)) (vA (by rfl) wh.acA) (dB _)) (pw (ej qM (ec PQ ao.mono (by rfl) uS.at_ uS.fn.cI uS.bd .nil cm (aj (U 1) aE)) (vA (by rfl) wh.acy) (dB _))))) (bb (RL vk o9 IC Ib Ih xh ao.mono Ik rfl (aj hL aE))) dW)
   (bb (cp (n9 u0 (by rfl) B.list qC (aj (U 1) aE))))))),?_⟩
  refine⟨_,rfl,x,af,_,rfl,av,rfl,x,bL,br,_,_,rfl,n,λl nl=>?_⟩;have s1:aH H (upd H l (.lst (de hs))):=b8 nl;have gR:=W5 (H:=upd H l (.lst (de hs))) G aQ;generalize upd H l (.lst (de hs))=H1 at s1 gR⊢;have go:∀(ah:ae)(v:ar.V),aH H ah->v=Mx (nv (bl hs) ds)->¬zz (bl hs) ds->∀e,ah e=none->CH d5 (V.ref e::[v]) (upd ah e (mP e d5)) (λu aZ=>u=.bc/\∃af,aZ e=some (mO e d5 af)/\E (.ref d5) (some af) (del aZ e)) sz:=λah v s2 ev xI e ne=>by
   refine⟨e,v,rfl,aQ,λaf aI x4=>⟨rfl,af,aQ,?_⟩⟩;have tC:ah af=none:=by rw[aD x4]at aI;exact aI
   have az:del (upd (upd (upd ah e (mP e d5)) af (lM af [("number",v)])) e (mO e d5 af)) e=upd ah af (lM af [("number",v)]):=by
    funext b;by_cases aa:b=e
    .subst aa;rw[Sk,aD (c2 x4)];exact ne.symm
    .rw[tH aa,aD aa];by_cases fS:b=af
     .subst fS;rw[aQ,aQ]
     .rw[aD fS,aD fS,aD aa]
   rw[az];refine hU xI af _ (s2.free tC) (s2.trans (b8 tC)) ?_;rw[aQ,ev]
  refine⟨_,rfl,a,rfl,⟨_,aC.of (s1 _ _ aF)⟩,?_⟩;refine Sl (K:=K) (a:=a) (xs:=xs) (λi σ ah=>aH H1 ah/\(∀j,j<i->∀d,ds[j]?=some d->jj (bl hs) d=true)/\∃u v,σ=[some (.ref x),some (.ref a),some (.ref l),u,v]) ⟨aH.refl _,λj bg=>bx bg (by omega),none,none,rfl⟩ (λi σ ah h=>aC.of (h.1 _ _ (s1 _ _ aF))) ?_ ?_
  .rintro i z σ ah p ee ⟨s2,aa,u,v,rfl⟩ np;obtain⟨d,dp,hd⟩:=t.get ee;have s3:=b8 (o:=.tup [V.int (i:Int),z]) np;have oC:=s1.trans (s2.trans s3);have amm:wQ ds+1<=62:=dd;have j9:d.depth<=61:=eP (RR (dV dp)) (by omega);refine⟨p,_,rfl,bI.of aQ,rfl,_,_,rfl,_,_,rfl,rfl,?_⟩;refine⟨_,rfl,_,rfl,l,bl hs,z,d,rfl,gR.same (s2.trans s3),hd.same oC,j9,_,rfl,?_⟩;cases ak:jj (bl hs) d with
   |true=>exact fI ⟨s2.trans s3,λj bg d' ro=>by
     rcases wM j i with h|h
     .exact aa j h d' ro
     .rw[show j=i by omega,dp]at ro;cases ro;exact ak,some (.int (i:Int)),some z,rfl⟩
   |false=>
    have z1:=Ă (hs:=bl hs) aa ⟨d,dp,ak⟩;refine gD ⟨_,rfl,(by show 1<=sizeLine;decide),go _ _ oC (by rw[z1];rfl) λl2=>?_⟩;have:=l2.1;rw[z1]at this;cases this
  .rintro σ ah ⟨s2,aa,u,v,rfl⟩;have ih:=s1.trans s2;have Zk:∀d∈ds,jj (bl hs) d=true:=λd hd=>by obtain⟨j,bg,rfl⟩:=Lv.mp hd;exact aa j (by rw[t.len];exact bg) _ (cF bg)
   have z1:=HV.mp Zk;have tf:=ih _ _ aF;have hlen:=t.len;refine⟨_,rfl,a,xs,rfl,.inl (aC.of tf),_,_,rfl,rfl,_,rfl,?_⟩;by_cases YP:ds.length<=40
   .refine dw (dn (by omega)) ⟨_,rfl,.ref a,bl hs,ds,rfl,bj.same ih,Zk,λaZ s3=>?_⟩;have oC:=ih.trans s3;refine⟨_,_,rfl,rfl,_,rfl,?_⟩;by_cases YN:Bm (ds.map ox)<=30
    .refine dw (dn (by omega)) ?_;refine⟨_,rfl,a,xs,rfl,.inl (aC.of (oC _ _ aF)),λd9 pA=>?_⟩;have s4:=b8 (o:=.lst xs) pA;exact q ⟨z1,YP,YN⟩ d9 _ (oC.free pA) (oC.trans s4) (.lst aQ hz (t.same (oC.trans s4)))
    .refine eQ (cT (by omega)) ⟨(by show 1<=sizeLine;decide),go _ _ oC (by rw[z1];rfl) λl2=>YN l2.2.2⟩
   .refine eQ (cT (by omega)) ?_;exact gD ⟨(by show 1<=sizeLine;decide),go _ _ ih (by rw[z1];rfl) λl2=>YP l2.2.1⟩
noncomputable def oz(n pl y b5 b2 cP:Addr)(pr:Int):List (Str×ar.V):=[("net",.ref n),("present",.int pr),("posted",.ref pl),("ways",.ref y),("shut_roads",.ref b5),("walk",.ref b2),("sent",.ref cP)]
end
structure oH(K:aY)(C:Addr):Prop where
 cl:eh K C
 nn:cJ K (.ref C) "net"=some none
 np:cJ K (.ref C) "present"=some none
 no:cJ K (.ref C) "posted"=some none
 gZ:cJ K (.ref C) "ways"=some none
 vJ:cJ K (.ref C) "shut_roads"=some none
 nw:cJ K (.ref C) "walk"=some none
 ns:cJ K (.ref C) "sent"=some none
set_option genInjectivity false in
structure cL where
 (af n pl y b5 b2 mK cP g sl t bL br:Addr)
 (rs eY ls eH:cj)
noncomputable def cL.b0(A:cL)(x:Addr):List Addr:=x::A.pl::A.y::A.t::A.b5::A.b2::A.g::A.sl::A.cP::A.ls
structure ajw(A:cL)(x:Addr):Prop where
 e4:x≠A.pl
 jF:x≠A.y
 oL:x≠A.t
 oM:x≠A.b5
 Bv:x≠A.b2
 ES:x≠A.g
 yT:x≠A.sl
 ET:x≠A.cP
 Bw:x∉A.ls
 dz:A.pl≠A.y
 d_:A.pl≠A.t
 qL:A.pl≠A.b5
 kn:A.pl≠A.b2
 D5:A.pl≠A.g
 AP:A.pl≠A.sl
 Qp:A.pl≠A.cP
 yf:A.pl∉A.ls
 oN:A.y≠A.t
 EY:A.y≠A.b5
 ĝ:A.y≠A.b2
 SE:A.y≠A.g
 yY:A.y≠A.sl
 yZ:A.y≠A.cP
 SF:A.y∉A.ls
 t1:A.t≠A.b5
 dU:A.t≠A.b2
 t3:A.t≠A.g
 Jw:A.t≠A.sl
 Jx:A.t≠A.cP
 vY:A.t∉A.ls
 bz:A.b5≠A.b2
 cv:A.b5≠A.g
 gg:A.b5≠A.sl
 pH:A.b5≠A.cP
 tL:A.b5∉A.ls
 gF:A.b2≠A.g
 g4:A.b2≠A.sl
 gv:A.b2≠A.cP
 t7:A.b2∉A.ls
 g1:A.g≠A.sl
 g2:A.g≠A.cP
 g3:A.g∉A.ls
 s1:A.sl≠A.cP
 s2:A.sl∉A.ls
 az:A.cP∉A.ls
 aI:A.ls.Nodup
theorem FA{A:cL}(aI:(A.b0 x).Nodup):ajw A x:=by unfold cL.b0 at aI;simp only[iE,dv,not_or]at aI;obtain⟨⟨e4,jF,oL,oM,Bv,ES,yT,ET,Bw⟩,⟨dz,d_,qL,kn,D5,AP,Qp,yf⟩,⟨oN,EY,ĝ,SE,yY,yZ,SF⟩,⟨t1,dU,t3,Jw,Jx,vY⟩,⟨bz,cv,gg,pH,tL⟩,⟨gF,g4,gv,t7⟩,⟨g1,g2,g3⟩,⟨s1,s2⟩,az,aI⟩:=aI;exact⟨e4,jF,oL,oM,Bv,ES,yT,ET,Bw,dz,d_,qL,kn,D5,AP,Qp,yf,oN,EY,ĝ,SE,yY,yZ,SF,t1,dU,t3,Jw,Jx,vY,bz,cv,gg,pH,tL,gF,g4,gv,t7,g1,g2,g3,s1,s2,az,aI⟩
theorem cL.m0{A:cL}{x:Addr}:x∈A.b0 x:=.head _
theorem cL.ib{A:cL}:A.pl∈A.b0 x:=.tail _ (.head _)
theorem cL.jA{A:cL}:A.y∈A.b0 x:=.tail _ (.tail _ (.head _))
theorem cL.H4{A:cL}:A.t∈A.b0 x:=.tail _ (.tail _ (.tail _ (.head _)))
theorem cL.H5{A:cL}:A.b5∈A.b0 x:=.tail _ (.tail _ (.tail _ (.tail _ (.head _))))
theorem cL.Pw{A:cL}:A.b2∈A.b0 x:=.tail _ (.tail _ (.tail _ (.tail _ (.tail _ (.head _)))))
theorem cL.η{A:cL}:A.g∈A.b0 x:=.tail _ (.tail _ (.tail _ (.tail _ (.tail _ (.tail _ (.head _))))))
theorem cL.θ{A:cL}:A.sl∈A.b0 x:=.tail _ (.tail _ (.tail _ (.tail _ (.tail _ (.tail _ (.tail _ (.head _)))))))
theorem cL.Px{A:cL}:A.cP∈A.b0 x:=.tail _ (.tail _ (.tail _ (.tail _ (.tail _ (.tail _ (.tail _ (.tail _ (.head _))))))))
theorem cL.H6{A:cL}{b:Addr}(h:b∈A.ls):b∈A.b0 x:=.tail _ (.tail _ (.tail _ (.tail _ (.tail _ (.tail _ (.tail _ (.tail _ (.tail _ h))))))))
theorem K8{A:cL}{p:Addr->Prop}(h0:p x)(ag:p A.pl)(ai:p A.y)(bK:p A.t)(c8:p A.b5)(dX:p A.b2)(jv:p A.g)(De:p A.sl)(mS:p A.cP)(od:∀b∈A.ls,p b):∀b∈A.b0 x,p b:=by
 intro b aa;rcases dv.mp aa with rfl|aa
 .exact h0
 rcases dv.mp aa with rfl|aa
 .exact ag
 rcases dv.mp aa with rfl|aa
 .exact ai
 rcases dv.mp aa with rfl|aa
 .exact bK
 rcases dv.mp aa with rfl|aa
 .exact c8
 rcases dv.mp aa with rfl|aa
 .exact dX
 rcases dv.mp aa with rfl|aa
 .exact jv
 rcases dv.mp aa with rfl|aa
 .exact De
 rcases dv.mp aa with rfl|aa
 .exact mS
 exact od b aa
theorem Uo{A:cL}{l l7 b:Addr}{eY:cj}(h:b∈cL.b0 {A with pl:=l,eY:=eY,ls:=A.ls++[l7]} x):b∈A.b0 x\/b=l\/b=l7:=by
 have h:b∈x::l::([A.y,A.t,A.b5,A.b2,A.g,A.sl,A.cP]++(A.ls++[l7])):=h;rw[<-F4]at h;rcases dv.mp h with rfl|h
 .exact .inl (.head _)
 rcases dv.mp h with h|h
 .exact .inr (.inl h)
 rcases hl.mp h with h|h
 .exact .inl (.tail _ (.tail _ h))
 .exact .inr (.inr (g5.mp h))
theorem aaI{A:cL}{l l7:Addr}{eY:cj}(aI:(A.b0 x).Nodup)(aw:l∉A.b0 x)(jv:l7∉A.b0 x)(n:l≠l7):(cL.b0 {A with pl:=l,eY:=eY,ls:=A.ls++[l7]} x).Nodup:=by
 show(x::l::([A.y,A.t,A.b5,A.b2,A.g,A.sl,A.cP]++(A.ls++[l7]))).Nodup;have aI:(x::A.pl::([A.y,A.t,A.b5,A.b2,A.g,A.sl,A.cP]++A.ls)).Nodup:=aI;have aw:l∉x::A.pl::([A.y,A.t,A.b5,A.b2,A.g,A.sl,A.cP]++A.ls):=aw;have jv:l7∉x::A.pl::([A.y,A.t,A.b5,A.b2,A.g,A.sl,A.cP]++A.ls):=jv;rw[<-F4];generalize[A.y,A.t,A.b5,A.b2,A.g,A.sl,A.cP]++A.ls=M at aI aw jv⊢;obtain⟨cE,aI⟩:=iE.mp aI;obtain⟨c',aI⟩:=iE.mp aI;have no:∀a∈M++[l7],a∈M\/a=l7:=λa aF=>(hl.mp aF).imp id g5.mp;refine iE.mpr ⟨λz=>?_,iE.mpr ⟨λz=>?_,?_⟩⟩
 .rcases dv.mp z with z|z
  .exact aw (z▸.head _)
  .rcases no _ z with z|z
   .exact cE (.tail _ z)
   .exact jv (z▸.head _)
 .rcases no _ z with z|z
  .exact aw (.tail _ (.tail _ z))
  .exact n z
 .exact F9.mpr ⟨aI,iE.mpr ⟨eo,uo⟩,λa aF b aa e=>jv (.tail _ (.tail _ (g5.mp aa▸e▸aF)))⟩
set_option genInjectivity false in
structure ct where
 pr:Int
 a6:List w2
 ay:List (List Step)
 iw:List (eO×List Nat)
 kvs:en
 eD:List Nat
noncomputable def fw(l:dN):List (bA×ar.V):=l.map λr:Nat=>(e9 (r:Int),.aA true)
noncomputable def d0(a6:qd):List Str:=a6.map λd=>d.2.2
structure ew(aJ C bw aO:Addr)(a7 H:ae)(x:Addr)(A:cL)(hs:bF)(ds:ck)(s:ct):Prop where
 b4:aH a7 H
 ie:i6 aO a7 A.n A.bL A.br (de hs) (aG A.rs)
 oB:hr a7 hs A.rs ds
 ins:H x=some (.ins aJ A.af (oz A.n A.pl A.y A.b5 A.b2 A.cP s.pr))
 po:H A.pl=some (.lst (aG A.eY))
 pt:fa H A.eY (s.a6.map lA)
 q1:∃iJ,H A.y=some (.ins bw iJ (rO A.n A.t))
 t8:H A.t=some (.d4 s.kvs)
 b5:H A.b5=some (.bN (fw s.eD))
 wi:H A.b2=some (.ins C A.mK (EU A.n A.g A.sl))
 pP:H A.g=some (.lst ((d0 s.a6).map V.str))
 ws:H A.sl=some (.lst (aG A.ls))
 pO:bO (g7 H) A.ls s.ay
 cP:H A.cP=some (.lst (aG A.eH))
 sp:bO (i7 H) A.eH s.iw
 aI:(A.b0 x).Nodup
 fr:∀b∈A.b0 x,a7 b=none
structure hZ(M wK:cj)(H H':ae):Prop where
 keep:∀b o,b∉M->H b=some o->H' b=some o
 own:∀b∈wK,b∈M\/H b=none
theorem hZ.refl(ax:aH H H'):hZ M M H H':=⟨λb o _ e=>ax b o e,λ_ h=>.inl h⟩
theorem hZ.trans(a:hZ M wK H H')(b:hZ wK acn H' K6):hZ M acn H K6:=by
 refine⟨λc o ic e=>b.keep c o (λz=>?_) (a.keep c o ic e),λc aq=>?_⟩
 .rcases a.own c z with h|h
  .exact ic h
  .rw[h]at e;cases e
 .rcases b.own c aq with h|h
  .exact a.own c h
  .by_cases hm:c∈M
   .exact .inl hm
   .right;cases e:H c with
    |none=>rfl
    |some o=>rw[a.keep c o hm e]at h;cases h
theorem ew.same{A:cL}{s:ct}(D:ew aJ C bw aO a7 H x A hs ds s)(ax:aH H H'):ew aJ C bw aO a7 H' x A hs ds s:=
 let⟨iJ,h⟩:=D.q1
 ⟨D.b4.trans ax,D.ie,D.oB,ax _ _ D.ins,ax _ _ D.po,D.pt.same ax,⟨iJ,ax _ _ h⟩,ax _ _ D.t8,ax _ _ D.b5,ax _ _ D.wi,ax _ _ D.pP,ax _ _ D.ws,IX D.pO ax,ax _ _ D.cP,bO.gL D.sp λ_ _ h=>h.same ax,D.aI,D.fr⟩
theorem RU{H:ae}{ls:cj}(p:bO (g7 H) ls ay){l:Addr}(aw:l∈ls):∃ts,H l=some (.lst ts):=by obtain⟨i,ak,d7⟩:=mr aw;obtain⟨_,_,ts,e,_⟩:=bO.get p (eb.mpr ⟨ak,d7⟩);exact⟨_,e⟩
theorem ew.live{H:ae}{A:cL}{s:ct}(D:ew aJ C bw aO a7 H x A hs ds s){l:Addr}(nl:H l=none):l∉A.b0 x:=λaa=>by
 obtain⟨iJ,cM⟩:=D.q1;have ok:∀{b:Addr}{o:f_},H b=some o->b≠l:=λe z=>by rw[z,nl]at e;cases e
 exact K8 (p:=λb=>b≠l) (ok D.ins) (ok D.po) (ok cM) (ok D.t8) (ok D.b5) (ok D.wi) (ok D.pP) (ok D.ws) (ok D.cP) (λb h=>let⟨_,e⟩:=RU D.pO h;ok e) l aa rfl
theorem ew.frame{H H':ae}{A:cL}{s:ct}(D:ew aJ C bw aO a7 H x A hs ds s){M:cj}(apx:aH a7 H')(k:∀b o,b∉M->H b=some o->H' b=some o)(akQ:∀b∈A.b0 x,b∉M)(eB:∀b∈M,∀v,H b≠some (.tup v)):ew aJ C bw aO a7 H' x A hs ds s:=by
 have qD:∀b o,b∈A.b0 x->H b=some o->H' b=some o:=λb o aa e=>k b o (akQ b aa) e;have kt:∀b v,H b=some (.tup v)->H' b=some (.tup v):=λb v e=>k b _ (λz=>eB b z v e) e;obtain⟨iJ,cM⟩:=D.q1;refine⟨apx,D.ie,D.oB,qD _ _ cL.m0 D.ins,qD _ _ cL.ib D.po,bO.gL D.pt λ_ _ e=>kt _ _ e,⟨iJ,qD _ _ cL.jA cM⟩,qD _ _ cL.H4 D.t8,qD _ _ cL.H5 D.b5,qD _ _ cL.Pw D.wi,qD _ _ cL.η D.pP,qD _ _ cL.θ D.ws,?_,qD _ _ cL.Px D.cP,bO.gL D.sp λ_ _⟨c,ag,ai⟩=>⟨c,kt _ _ ag,kt _ _ ai⟩,D.aI,D.fr⟩;have go:∀{ls:cj}{ay:eK},bO (g7 H) ls ay->(∀l∈ls,l∈A.ls)->bO (g7 H') ls ay:=λ{ls ay}p=>by
  induction p with
  |nil=>exactλ_=>.nil
  |cons r t a3=>
   refineλh=>.cons ?_ (a3 λl aw=>h l (.tail _ aw))
   obtain⟨ts,ag,ai⟩:=r;exact⟨ts,qD _ _ (cL.H6 (h _ (.head _))) ag,bO.gL ai λ_ _ e=>kt _ _ e⟩
 exact go D.pO λ_ h=>h
theorem ew.walk{A:cL}{s:ct}(D:ew aJ C bw aO a7 H x A hs ds s):WalkAt C H A.b2 A.n A.g A.sl (d0 s.a6) A.ls s.ay:=⟨⟨_,D.wi⟩,D.pP,D.ws,D.pO⟩
theorem ew.Sb{A:cL}{s:ct}(D:ew aJ C bw aO a7 H x A hs ds s):qE bw aO H A.y A.n A.t A.bL A.br (de hs) (aG A.rs) s.kvs:=⟨D.q1,D.ie.same D.b4,D.t8⟩
section
variable{P:cG}{w:bS}{K:aY}{mg:cw}{base:Heap}
inductive BX(aJ C bw aO:Addr)(vs:aW)(H:ae)(Q:a')(el:bX):Prop where
 |mk (a7:ae) (x:Addr) (A:cL) (hs:bF) (ds:ck) (s:ct) (bM:vs=[.ref x]) (bu:ew aJ C bw aO a7 H x A hs ds s) (bW:Q (.int s.pr) H)
noncomputable abbrev zA:Stmt:=fT (top 54) 1
theorem aip:c3 eA eA (cn zA):={}
theorem ahw(F:cC K "now" "Day.now" zA f fd)(cg:oH K aJ):aS P w K mg base bh 1 f fd eA (BX aJ C bw aO):=by
 refine F.ok aip (λ_ A _ s H vs Q E ao h=>?_)
 .obtain⟨a7,x,A,hs,ds,s,rfl,D,q⟩:=h;refine⟨_,(bb (cp (ed (U 0) (by rfl)))),?_⟩;exact⟨_,rfl,x,aJ,_,_,_,rfl,D.ins,cg.cl,cg.np,rfl,q⟩
inductive FC(aJ C bw aO:Addr)(vs:aW)(H:ae)(Q:a')(el:bX):Prop where
 |mk (a7:ae) (x:Addr) (A:cL) (hs:bF) (ds:ck) (s:ct) (bM:vs=[.ref x]) (bu:ew aJ C bw aO a7 H x A hs ds s) (bW:∀l,H l=none->Q (.ref l) (upd H l (.lst (aG A.eY))))
noncomputable abbrev CI:Stmt:=fT (top 54) 9
theorem aiq:c3 eA eA (cn CI):={}
theorem ahx(F:cC K "letters" "Day.letters" CI f fd)(B:fk mg)(cg:oH K aJ):aS P w K mg base bh 1 f fd eA (FC aJ C bw aO):=by
 refine F.ok aiq (λ_ A _ s H vs Q E ao h=>?_)
 .obtain⟨a7,x,A,hs,ds,s,rfl,D,q⟩:=h;refine⟨_,(bb (cp (n9 u0 (by rfl) B.list qC (aj (ed (U 0) (by rfl)) aE)))),?_⟩;exact⟨_,rfl,x,aJ,_,_,_,rfl,D.ins,cg.cl,cg.no,rfl,A.pl,_,rfl,.inl (aC.of D.po),q⟩
noncomputable def GW(n:Addr):List (Str×ar.V):=[("net",.ref n)]
noncomputable def GX(n:Addr)(pr:Int):List (Str×ar.V):=[("net",.ref n),("present",.int pr)]
noncomputable def CZ(n:Addr)(pr:Int)(pl:Addr):List (Str×ar.V):=[("net",.ref n),("present",.int pr),("posted",.ref pl)]
noncomputable def xd(n:Addr)(pr:Int)(pl:Addr)(y:Addr):List (Str×ar.V):=[("net",.ref n),("present",.int pr),("posted",.ref pl),("ways",.ref y)]
noncomputable def zU(n:Addr)(pr:Int)(pl:Addr)(y:Addr)(b5:Addr):List (Str×ar.V):=[("net",.ref n),("present",.int pr),("posted",.ref pl),("ways",.ref y),("shut_roads",.ref b5)]
noncomputable def C0(n:Addr)(pr:Int)(pl:Addr)(y:Addr)(b5:Addr)(b2:Addr):List (Str×ar.V):=[("net",.ref n),("present",.int pr),("posted",.ref pl),("ways",.ref y),("shut_roads",.ref b5),("walk",.ref b2)]
theorem ne_objs{H:ae}(aF:H a=some o)(aa:H b=some u)(h:o≠u):a≠b:=λz=>by rw[z,aa]at aF;exact h (gV aF).symm
inductive Me(aJ C bw aO:Addr)(vs:aW)(H:ae)(Q:a')(el:bX):Prop where
 |mk (x af n bL br:Addr) (hs:bF) (rs:cj) (ds:ck) (pr:Int) (bM:vs=[.ref x,.ref n,.int pr]) (bu:H x=some (.ins aJ af [])) (bW:i6 aO H n bL br (de hs) (aG rs)) (cW:Good hs) (dD:hr H hs rs ds) (eS:rs.length<=40) (hB:∀(H':ae)(A:cL)(kvs:en),SameBut x H H'->ew aJ C bw aO (mask H [x]) H' x A hs ds ⟨pr,[],[],[],kvs,[]⟩->A.n=n->A.rs=rs->pn hs ds kvs->(∀b∈A.b0 x,b=x\/H b=none)->Q .bc H')
noncomputable abbrev GL:Stmt:=fT (top 54) 0
theorem air:c3 zp zp (cn GL):={}
theorem ahk(F:cC K "__init__" "Day.__init__" GL f fd)(cg:oH K aJ)(vH:mg "Walk"=some (.ref C))(vu:cY K mg "shortest" Jj ["net"] f1 dJ)(aaJ:aS P w K mg base bh 4 f1 dJ ["net"] (Xk bw aO))(KN:p6 K C C8)(qo:lP K C "Walk.__init__" CD wH C8 Nt)(QB:aS P w K mg base bh 2 C8 Nt wH (L7 C)):aS P w K mg base bh 5 f fd zp (Me aJ C bw aO):=by
 refine F.ok air (λ_ A _ s H vs Q E ao h=>?_)
 .obtain⟨x,af,n,bL,br,hs,rs,ds,pr,rfl,av,N,G,R,apg,q⟩:=h;refine⟨_,(a_ (jt (U 0) (U 1) rfl)
   (a_ (jt (U 0) (U 2) rfl)
   (a_ (jt (U 0) (h7 aE) rfl)
   (a_ (jt (U 0) (ec aaJ ao.mono (by rfl) vu.at_ vu.fn.cI vu.bd .nil cm (aj (U 1) aE)) rfl)
   (a_ (jt (U 0) Jn rfl)
   (a_ (jt (U 0) (vE KN QB ao.mono (by rfl) vH qo.bd .nil cm (aj (U 1) (aj (h7 aE) aE))) rfl)
   (bb (jt (U 0) (h7 aE) rfl)))))))),?_⟩
  try dsimp only[lD,lu]
  have rJ:∀b o,b≠x->H b=some o->mask H [x] b=some o:=λb o nb e=>kc e (by simpa using nb);obtain⟨h6,aM⟩:=N.ins;have aou:n≠x:=λz=>by rw[z,av]at aM;cases aM
  have aof:bL≠x:=ne_objs N.ry av (by intro z;cases z);have aog:br≠x:=ne_objs N.rV av (by intro z;cases z);have Vo:i6 aO (mask H [x]) n bL br (de hs) (aG rs):=⟨⟨h6,rJ _ _ aou aM⟩,rJ _ _ aof N.ry,rJ _ _ aog N.rV⟩
  have Ww:hr (mask H [x]) hs rs ds:=⟨bO.gL R.ij λa d e=>rJ _ _ (ne_objs e av (by intro z;cases z)) e,R.ok⟩
  have up:∀{j4:ae}{o:f_},aH (mask H [x]) j4->aH (mask H [x]) (upd j4 x o):=λ{j4 o}Q7=>k7 (yb (by simp)) Q7;have s0:=Az H [x];have uV:∀{j4:ae}{o:f_},aH (mask H [x]) j4->j4 x=some o->∀{b},j4 b=none->H b=none/\b≠x:=λ{j4 o}Q7 ex{b}e=>by
   have nb:b≠x:=λz=>by rw[z,ex]at e;cases e
   refine⟨?_,nb⟩;cases aB:H b with
   |none=>rfl
   |some u=>rw[Q7 _ _ (rJ b u nb aB)]at e;cases e
  refine⟨_,rfl,_,rfl,x,aJ,af,_,rfl,av,cg.cl,cg.nn,(by show 0<1000;decide),?_⟩;refine⟨_,rfl,_,rfl,x,aJ,af,_,rfl,aQ,cg.cl,cg.np,(by show 1<1000;decide),?_⟩;have s2:aH (mask H [x]) (upd (upd H x (.ins aJ af (GW n))) x (.ins aJ af (GX n pr))):=up (up s0);have ai:upd (upd H x (.ins aJ af (GW n))) x (.ins aJ af (GX n pr)) x=_:=aQ;show iQ _ _ _ _ (upd (upd H x (.ins aJ af (GW n))) x (.ins aJ af (GX n pr)));generalize upd (upd H x (.ins aJ af (GW n))) x (.ins aJ af (GX n pr))=ah at s2 ai⊢;refine⟨(by show 0<=sizeLine;decide),λpl Ν=>?_⟩;have f1:=uV s2 ai Ν;have s3:=s2.trans (b8 (o:=.lst []) Ν);refine⟨_,rfl,x,aJ,af,_,rfl,(aD f1.2.symm).trans ai,cg.cl,cg.no,(by show 2<1000;decide),?_⟩;have s4:=up (o:=.ins aJ af (CZ n pr pl)) s3;have c8:upd (upd ah pl (.lst [])) x (.ins aJ af (CZ n pr pl)) x=_:=aQ;have kn:upd (upd ah pl (.lst [])) x (.ins aJ af (CZ n pr pl)) pl=some (.lst (aG [])):=(aD f1.2).trans aQ;show iQ _ _ _ _ (upd (upd ah pl (.lst [])) x (.ins aJ af (CZ n pr pl)));generalize upd (upd ah pl (.lst [])) x (.ins aJ af (CZ n pr pl))=dE at s4 c8 kn⊢;refine⟨_,rfl,n,bL,br,hs,rs,ds,rfl,Vo.same s4,G,Ww.same s4,apg,λy t ba kvs gZ eB yu Mq ST=>?_⟩;have f2:=uV s4 c8 gZ;have cU:=uV s4 c8 eB;obtain⟨iJ,cM⟩:=Mq.ins;have aoQ:y≠t:=ar.gE cM Mq.told (by intro z;cases z);have aoG:pl≠y:=cA kn gZ;have aoF:pl≠t:=cA kn eB;have s5:=s4.trans yu;refine⟨_,rfl,x,aJ,af,_,rfl,yu _ _ c8,cg.cl,cg.gZ,(by show 3<1000;decide),?_⟩;have i_:=up (o:=.ins aJ af (xd n pr pl y)) s5;have jv:upd ba x (.ins aJ af (xd n pr pl y)) x=_:=aQ;have AP:upd ba x (.ins aJ af (xd n pr pl y)) pl=_:=(aD f1.2).trans (yu _ _ kn);have yZ:upd ba x (.ins aJ af (xd n pr pl y)) y=_:=(aD f2.2).trans cM;have vY:upd ba x (.ins aJ af (xd n pr pl y)) t=_:=(aD cU.2).trans Mq.told;show iQ _ _ _ _ (upd ba x (.ins aJ af (xd n pr pl y)));generalize upd ba x (.ins aJ af (xd n pr pl y))=f' at i_ jv AP yZ vY⊢
  refineλb5 x9=>?_
  have f4:=uV i_ jv x9;have yG:=b8 (o:=.bN []) x9;refine⟨_,rfl,x,aJ,af,_,rfl,yG _ _ jv,cg.cl,cg.vJ,(by show 4<1000;decide),?_⟩;have jZ:=up (o:=.ins aJ af (zU n pr pl y b5)) (i_.trans yG);have mS:upd (upd f' b5 (.bN [])) x (.ins aJ af (zU n pr pl y b5)) x=_:=aQ;have HS:∀b o,b≠x->f' b=some o->upd (upd f' b5 (.bN [])) x (.ins aJ af (zU n pr pl y b5)) b=some o:=λb o nb e=>(aD nb).trans (yG _ _ e);have tM:upd (upd f' b5 (.bN [])) x (.ins aJ af (zU n pr pl y b5)) b5=some (.bN []):=(aD f4.2).trans aQ;show iQ _ _ _ _ (upd (upd f' b5 (.bN [])) x (.ins aJ af (zU n pr pl y b5)));generalize upd (upd f' b5 (.bN [])) x (.ins aJ af (zU n pr pl y b5))=gO at jZ mS HS tM⊢;have yf:=HS _ _ f1.2 AP;have SG:=HS _ _ f2.2 yZ;have RB:=HS _ _ cU.2 vY;have aoD:pl≠b5:=cA AP x9;have aoP:y≠b5:=cA yZ x9;have aoN:t≠b5:=cA vY x9;refine⟨_,rfl,(by show 0<=sizeLine;decide),λH2 aor=>λb2 mK ID Γ avu=>?_⟩;have qX:=b8 (o:=.lst []) aor;have Z3:upd gO H2 (.lst []) H2=some (.lst (aG [])):=aQ;generalize upd gO H2 (.lst [])=q7 at qX Z3 ID Γ⊢;have RG:aH q7 (upd (upd q7 mK (.own b2)) b2 (.ins C mK [])):=λb u e=>by rw[aD (cA e ID),aD (cA e Γ)];exact e
  have JZ:upd (upd q7 mK (.own b2)) b2 (.ins C mK []) b2=some (.ins C mK []):=aQ;generalize upd (upd q7 mK (.own b2)) b2 (.ins C mK [])=art at RG JZ⊢;have A7:=qX.trans RG;have QU:=jZ.trans A7;have NI:=A7 _ _ mS;have xt:=uV (jZ.trans qX) (qX _ _ mS) ID;have old:∀{b o},gO b=some o->b≠b2:=λ{b o}e=>cA (qX _ _ e) ID;have Qo:=A7 _ _ yf;have SD:=A7 _ _ SG;have RA:=A7 _ _ RB;have Qv:=A7 _ _ tM;refine⟨b2,mK,n,H2,[],[],rfl,JZ,RG _ _ Z3,.nil,eZ _,λy8 g sl hh b4 GN hi kK _ _ Ir=>⟨rfl,?_⟩⟩;have nl:hh=[]:=by have:=gW GN.each;exact sH.mp this
  subst nl;obtain⟨akU,DA⟩:=GN.ins;have z2:=uV QU NI hi;have fs:=uV QU NI kK;have aqK:=b4 _ _ xt.2.symm NI;have aoX:=b4 _ _ (old yf) Qo;have aqM:=b4 _ _ (old SG) SD;have apN:=b4 _ _ (old RB) RA;have apb:=b4 _ _ (old tM) Qv;have apu:aH (mask H [x]) y8:=λb o e=>by refine b4 b o (λz=>?_) (QU b o e);have:=(Az H [x]) _ _ e;rw[z,xt.1]at this;cases this
  refine⟨_,rfl,x,aJ,af,_,rfl,aqK,cg.cl,cg.nw,(by show 5<1000;decide),?_⟩;have ih:=up (o:=.ins aJ af (C0 n pr pl y b5 b2)) apu;have xC:upd y8 x (.ins aJ af (C0 n pr pl y b5 b2)) x=_:=aQ;have vx:∀b o,b≠x->y8 b=some o->upd y8 x (.ins aJ af (C0 n pr pl y b5 b2)) b=some o:=λb o nb e=>(aD nb).trans e;dsimp only;show Xd _ _ _ _ _ _ (upd y8 x (.ins aJ af (C0 n pr pl y b5 b2)));generalize upd y8 x (.ins aJ af (C0 n pr pl y b5 b2))=T5 at ih xC vx⊢;have Ψ:=vx _ _ f1.2 aoX;have Ĝ:=vx _ _ f2.2 aqM;have í:=vx _ _ cU.2 apN;have Æ:=vx _ _ f4.2 apb;have Ć:=vx _ _ xt.2 DA;have YG:=vx _ _ z2.2 GN.goals;have Z1:=vx _ _ fs.2 GN.steps;refine⟨(by show 0<=sizeLine;decide),λcP tE=>?_⟩;have G':=uV ih xC tE;have Bg:=b8 (o:=.lst []) tE;refine⟨_,rfl,x,aJ,af,_,rfl,Bg _ _ xC,cg.cl,cg.ns,(by show 6<1000;decide),?_⟩;have Ó:=up (o:=.ins aJ af (oz n pl y b5 b2 cP pr)) (ih.trans Bg);have xY:∀b o,b≠x->T5 b=some o->upd (upd T5 cP (.lst [])) x (.ins aJ af (oz n pl y b5 b2 cP pr)) b=some o:=λb o nb e=>(aD nb).trans (Bg _ _ e);have az:=cA Ψ tE;have aB:=cA Ĝ tE;have cX:=cA í tE;have gB:=cA Æ tE;have hN:=cA Ć tE;have qq:=cA YG tE;have sV:=cA Z1 tE;refine q _ ⟨af,n,pl,y,b5,b2,akU,cP,g,sl,t,bL,br,rs,[],[],[]⟩ kvs (λb o nb e=>Ó _ _ (rJ b o nb e)) ⟨Ó,Vo,Ww,aQ,xY _ _ f1.2 Ψ,.nil,⟨iJ,xY _ _ f2.2 Ĝ⟩,xY _ _ cU.2 í,xY _ _ f4.2 Æ,xY _ _ xt.2 Ć,xY _ _ z2.2 YG,xY _ _ fs.2 Z1,.nil,(aD G'.2).trans aQ,.nil,?_,?_⟩ rfl rfl ST ?_
  .have kk:=old yf;have tF:=old SG;have aoR:=old RB;have aoS:=old tM;have g1:=cA Qo hi;have g2:=cA SD hi;have g3:=cA RA hi;have C9:=cA Qv hi;have C':=cA JZ hi;have dF:=cA Qo kK;have d9:=cA SD kK;have nE:=cA RA kK;have nF:=cA Qv kK;have Aw:=cA JZ kK;unfold cL.b0;simp only[iE,dv,eo,or_false,not_or];exact⟨⟨f1.2.symm,f2.2.symm,cU.2.symm,f4.2.symm,xt.2.symm,z2.2.symm,fs.2.symm,G'.2.symm⟩,⟨aoG,aoF,aoD,kk,g1,dF,az⟩,⟨aoQ,aoP,tF,g2,d9,aB⟩,⟨aoN,aoR,g3,nE,cX⟩,⟨aoS,C9,nF,gB⟩,⟨C',Aw,hN⟩,⟨Ir,qq⟩,sV,not_false,uo⟩
  .have qH:∀{b},H b=none->mask H [x] b=none:=λ{b}e=>by
    cases aB:mask H [x] b with
    |none=>rfl
    |some o=>rw[(Az H [x]) _ _ aB]at e;cases e
   exact K8 (yb (.head _)) (qH f1.1) (qH f2.1) (qH cU.1) (qH f4.1) (qH xt.1) (qH z2.1) (qH fs.1) (qH G'.1) λ_ h=>nomatch h
  .exact K8 (.inl rfl) (.inr f1.1) (.inr f2.1) (.inr cU.1) (.inr f4.1) (.inr xt.1) (.inr z2.1) (.inr fs.1) (.inr G'.1) λ_ h=>nomatch h
end
end df
namespace cH
open PySem PySem.Spec PyProof.Rows ar
section
variable{P:cG}{w:bS}{K:aY}{mg:cw}{base:Heap}{N:cb}{qual:Str}{scope:Scope}{f:Addr}{cdv:Value}{A:du}{outer:List Env}{s:aK}{H:ae}{E:bX}
theorem aeS{E2:cc}(I:Inv (fZ P w K mg base N qual scope f cdv A outer s H E) pins σ b' sc)(T:om P w (fZ P w K mg base N qual scope f cdv A outer s H E).stack b' sc a4 cls a0 H' B s')(i2:E cls none H'):
  aL (aX P w) (A.deeper (o_ qual scope s.heap.objs.size f cdv)) (leaving (o_ qual scope s.heap.objs.size f cdv) (.ref a4)) (λ_ s2=>f9 P w outer H s E (.ref a4) s2) E2 s':=by
 refine aqv I.ok.frames rfl T.ft λai e4 jF=>?_;have uy:h2 (fu (fZ P w K mg base N qual scope f cdv A outer s H E).stack) [] b' H' sc.heap s'.heap:=T.un;have ye:∀b o,s.heap.get? b=some o->b∉fu outer->∃cB,B.get? b=some cB/\(H b=none->cB=o):=λb o e aa=>by obtain⟨kk,z⟩:=I.base.there b o e (by simp[fZ,jB]);obtain⟨cB,dk,q⟩:=T.ll b kk z (A1 I e aa);refine⟨cB,dk,λn=>?_⟩;have bu:=I.base.keep b o e n aa (by simp[fZ,jB]);rw[z]at bu;cases bu;exact q (I.base.free b _ e n (by simp[fZ,jB]))
 refine⟨a4,cls,a0,H',B,rfl,⟨e4,T.os.trans I.os,T.bare,T.ok,⟨λb o e n aa fB=>?_,λb o e n aa fB=>?_,λb o e n fB=>?_,λb o e fB=>?_,λb xs q=>T.un.ij b xs (I.base.ij b xs q),λb o u q=>T.un.jr b o u (I.base.jr b o u q),λb ps q=>?_⟩,ye⟩,i2⟩
 .obtain⟨cB,z,q⟩:=ye b o e aa;rw[q n]at z;exact e4.1 b o z
 .obtain⟨sl,z⟩:=I.base.slot b o e n aa fB;have dC:b∈fu (fZ P w K mg base N qual scope f cdv A outer s H E).stack:=by show b∈fu (_::outer);unfold fu;rw[B4];exact ng _ aa
  obtain⟨Er,bu⟩:=uy.slot b _ z (I.base.free b o e n fB) dC (by simp);obtain⟨_,ob,bJ,gr⟩:=T.ft.2.2.1.mem dC;rw[bu]at bJ;cases bJ;obtain⟨kp,dk⟩:=jF b _ bu gr;exact⟨kp,dk⟩
 .obtain⟨kk,z⟩:=I.base.there b o e fB;exact uy.free b kk z (I.base.free b o e n fB) (by simp)
 .by_cases aa:b∈fu outer
  .obtain⟨_,ob,bJ,gr⟩:=e4.2.2.1.mem aa;exact⟨ob,bJ⟩
  .obtain⟨cB,z,_⟩:=ye b o e aa;exact⟨cB,e4.1 b cB z⟩
 .obtain⟨ib,az⟩:=I.base.j0 b ps q;obtain⟨jA,aB⟩:=T.un.j0 b _ az;exact⟨ib++jA,by rw[aB,SU]⟩
theorem acP:qG (m' P w) (jN P w K mg base N qual scope f cdv A outer s H E) E:=by rintro pins σ b' sc e s' I ⟨a4,cls,a0,H',B,cV,rfl,T,L,i2⟩;have h0:=aeS (K:=K) (mg:=mg) (base:=base) (N:=N) (qual:=qual) (scope:=scope) (f:=f) (cdv:=cdv) (A:=A) (outer:=outer) (s:=s) (H:=H) (E:=λc _ K6=>c=cls/\K6=H') (E2:=λ_ _=>False) (I.nR _) T ⟨rfl,rfl⟩;refine gi (D_ Ø h0) (λ_ s2 ai=>?_) λ_ _ z=>z.1.elim;obtain⟨⟨Yb,akJ,aib,ah,Ŕ,az,uy,aB,cX⟩,dO⟩:=ai;cases az;subst aB cX;refine⟨a4,akJ,aib,ah,Ŕ,cV,rfl,uy,λaf hd=>?_,i2⟩;obtain⟨o,aU,hd2⟩:=L af hd;obtain⟨ob,oi,_⟩:=uy.ft.there;exact⟨ob,oi,(dO.dict aU oi).trans hd2⟩
end
end cH
namespace df
open PySem ar cH di
noncomputable def kI(d:w2):PyData:=.tuple [.str d.1,.int d.2.1,.str d.2.2]
theorem Up:∀{rs:cj}{a6:qd},fa H rs (a6.map lA)->(∀d∈a6,dH H (.str d.1) (.str d.1)/\dH H (.str d.2.2) (.str d.2.2))->fo H (aG rs) (a6.map kI)
 |[],[],_,_=>.nil
 |_::_,d::_,.cons h t,g=>.cons (.tup h (by show 3<=100;decide) (.cons (g d (.head _)).1 (.cons (.int _) (.cons (g d (.head _)).2 .nil)))) (Up t λe he=>g e (.tail _ he))
theorem Uq:∀{a6:qd}{vs:aW},fo H vs (a6.map kI)->∃rs,vs=aG rs/\fa H rs (a6.map lA)
 |[],_,.nil=>⟨[],rfl,.nil⟩
 |d::a6,_,.cons (v:=v) (vs:=vs) h t=>by
  obtain⟨a,xs,rfl,aF,_,av⟩:=VS h;obtain⟨rs,rfl,bV⟩:=Uq t;refine⟨a::rs,rfl,.cons ?_ bV⟩;cases av with
  |cons ag b3=>cases b3 with
   |cons ai dh=>cases dh with
    |cons bK qQ=>
     cases qQ;cases ag;cases ai;cases bK;exact aF
theorem acQ(a6:qd):(p9 (a6.map kI)).depth<=62:=by refine eP (LH (IU (n:=1) λy cM=>?_)) (by decide);obtain⟨d,_,rfl⟩:=b7.mp cM;exact bU _
theorem Ġ{H H':ae}{x g sl:Addr}(k:∀{b o},b≠x->b≠g->b≠sl->H b=some o->H' b=some o)(kt:∀b v,H b=some (.tup v)->H' b=some (.tup v)){ls:cj}(p:bO (g7 H) ls ay)(cE:x∉ls)(c':g∉ls)(rK:sl∉ls):bO (g7 H') ls ay:=by
 induction p with
 |nil=>exact .nil
 |cons h t a3=>
  obtain⟨ts,ag,ai⟩:=h;exact .cons ⟨ts,k (λz=>cE (z▸.head _)) (λz=>c' (z▸.head _)) (λz=>rK (z▸.head _)) ag,bO.gL ai λ_ _ e=>kt _ _ e⟩ (a3 (λz=>cE (.tail _ z)) (λz=>c' (.tail _ z)) λz=>rK (.tail _ z))
noncomputable def WH(hs:bF)(a6:qd):Prop:=∀d∈a6,d.1∈hs.map S/\d.2.2∈hs.map S
noncomputable def BA(s:ct)(h g:Str):ct:={s with a6:=s.a6++[(h,s.pr,g)],ay:=s.ay++[jT (h,s.pr,g)]}
inductive K9(aJ C bw aO d5:Addr)(vs:aW)(H:ae)(Q:a')(E:bX):Prop where
 |mk (a7:ae) (x:Addr) (A:cL) (hs:bF) (ds:ck) (s:ct) (h g:Str) (bM:vs=[.ref x,.str h,.str g]) (bu:ew aJ C bw aO a7 H x A hs ds s) (bW:Good hs) (cW:WH hs s.a6) (dD:s.a6.length<=40) (eS:s.ay.length=s.a6.length) (hB:(∀H,dH H (.str h) (.str h))) (lN:(∀H,dH H (.str g) (.str g))) (nT:(zz (bl hs) ((s.a6++[(h,s.pr,g)]).map kI)->∀H' e7,hZ (A.b0 x) (e7.b0 x) H H'->ew aJ C bw aO a7 H' x e7 hs ds (BA s h g)->Q (.int (s.a6.length:Int)) H')) (sh:(¬zz (bl hs) ((s.a6++[(h,s.pr,g)]).map kI)->∀af H',H af=none->aH H H'->H' af=some (lM af [("number",Mx (nv (bl hs) ((s.a6++[(h,s.pr,g)]).map kI)))])->E (.ref d5) (some af) H'))
section
variable{P:cG}{w:bS}{K:aY}{mg:cw}{base:Heap}
noncomputable abbrev FD:Stmt:=fT (top 54) 2
theorem WI:c3 ["self","house","goal","letter"] gk (cn FD):={}
theorem agp(F:cC K "post" "Day.post" FD f fd)(B:fk mg)(cg:oH K aJ)(gc:eh K C)(uW:cY K mg "letters_of" GK Ci f1 dJ)(ų:aS P w K mg base (m' P w) 4 f1 dJ Ci (WV aO d5))(qh:cS K C "take_in" "Walk.take_in" BS uq f2 eV)(PC:aS P w K mg base bh 1 f2 eV uq (KX C)):aS P w K mg base (m' P w) 5 f fd gk (K9 aJ C bw aO d5):=by
 refine Ql F WI (λ_ A _ s H vs Q E ao h=>?_)
 .obtain⟨a7,x,A,hs,ds,s,h',g',rfl,D,G,F1,ou,anR,pJ,ea,q,hU⟩:=h;refine⟨_,(a_ (dI (i:=3) WI.aI rfl (cR rfl) (kF (aj (U 1) (aj (ed (U 0) (by rfl)) (aj (U 2) aE)))))
   (a_ (jt (U 0) (ec ų ao.mono (by rfl) uW.at_ uW.fn.cI uW.bd .nil acP (aj (ed (U 0) (by rfl)) (aj (cq VI (ed (U 0) (by rfl)) (h7 (aj (U 3) aE))) aE))) rfl)
   (a_ (gK (fx (ed (U 0) (by rfl)) gc qh.d1 PC ao.mono qh.bd .nil cm (aj (U 3) aE)))
   (bb (cp (cq rL (dj fQ (by rfl) B.len fG (aj (ed (U 0) (by rfl)) aE)) aV)))))),?_⟩
  try dsimp only[lD,lu]
  refine⟨_,rfl,_,rfl,x,aJ,_,_,_,rfl,D.ins,cg.cl,cg.np,rfl,_,rfl,(by show 3<=sizeLine;decide),λbV aoM=>?_⟩;have iz:=b8 (o:=.tup (lA (h',s.pr,g'))) aoM;have t1:upd H bV (.tup (lA (h',s.pr,g'))) bV=some (.tup (lA (h',s.pr,g'))):=aQ;show iQ _ _ _ _ (upd H bV (.tup (lA (h',s.pr,g'))));generalize upd H bV (.tup (lA (h',s.pr,g')))=H1 at iz t1⊢;have jc:=D.same iz;have Z_:A.eY.length=s.a6.length:=by have:=gW D.pt;rw[bk]at this;exact this
  refine⟨_,rfl,x,aJ,_,_,_,rfl,jc.ins,cg.cl,cg.nn,rfl,_,rfl,x,aJ,_,_,_,rfl,jc.ins,cg.cl,cg.no,rfl,_,rfl,(by show 1<=sizeLine;decide),λdF cE=>?_⟩;have iA:=b8 (o:=.lst [V.ref bV]) cE;have ai:upd H1 dF (.lst [V.ref bV]) dF=some (.lst [V.ref bV]):=aQ;generalize upd H1 dF (.lst [V.ref bV])=ah at iA ai⊢;have ei:=jc.same iA;refine⟨A.pl,dF,_,_,rfl,rfl,ei.po,ai,(by rw[d6];show _+1<=sizeLine;exact q' (fF (by omega))),λd9 c'=>?_⟩;rw[Ax];have tZ:=b8 (o:=.lst (aG (A.eY++[bV]))) c';have bK:upd ah d9 (.lst (aG (A.eY++[bV]))) d9=some (.lst (aG (A.eY++[bV]))):=aQ;generalize upd ah d9 (.lst (aG (A.eY++[bV])))=aZ at tZ bK⊢;have hj:=ei.same tZ;have tP:=iz.trans (iA.trans tZ);have ap3:fa aZ (A.eY++[bV]) ((s.a6++[(h',s.pr,g')]).map lA):=by rw[fm];exact Paired.snoc (F:=λr d=>aZ r=some (.tup d)) (tZ _ _ (iA _ _ t1)) hj.pt
  have apX:dH aZ (.ref d9) (.list ((s.a6++[(h',s.pr,g')]).map kI)):=by
   refine .lst bK (by rw[d6,hD];show _+1<=100;omega) (Up ap3 λd hd=>?_);rcases hl.mp hd with z|z
   .exact⟨vS G (F1 d z).1,vS G (F1 d z).2⟩
   .rw[g5.mp z];exact⟨pJ _,ea _⟩
  refine⟨A.n,A.bL,A.br,hs,_,.ref d9,_,rfl,hj.ie.same hj.b4,G,apX,acQ _,λuA l dE nl s4 apW=>?_,λna af dE aI s4 hd=>?_⟩
  .obtain⟨_,xs,gQ,Zy,_,DC⟩:=K3 apW;cases gQ;obtain⟨eY,rfl,õ⟩:=Uq DC;have j3:=hj.same s4;obtain⟨iJ,anl⟩:=j3.q1;have rY:=tP.trans s4;have DW:H l=none:=by
    cases e:H l with
    |none=>rfl
    |some o=>rw[tP _ _ e]at nl;cases nl
   have M:=FA D.aI;refine⟨_,rfl,x,aJ,A.af,_,rfl,j3.ins,cg.cl,cg.no,(by show 7<1000;decide),?_⟩;have dX:upd dE x (.ins aJ A.af (oz A.n l A.y A.b5 A.b2 A.cP s.pr)) x=_:=aQ;have k5:∀b o,b≠x->dE b=some o->upd dE x (.ins aJ A.af (oz A.n l A.y A.b5 A.b2 A.cP s.pr)) b=some o:=λb o nb e=>(aD nb).trans e;have ρ:∀b,upd dE x (.ins aJ A.af (oz A.n l A.y A.b5 A.b2 A.cP s.pr)) b=none->dE b=none:=λb e=>by
    have nb:b≠x:=λz=>by rw[z,aQ]at e;cases e
    rw[aD nb]at e;exact e
   show iQ _ _ _ _ (upd dE x (.ins aJ A.af (oz A.n l A.y A.b5 A.b2 A.cP s.pr)));generalize upd dE x (.ins aJ A.af (oz A.n l A.y A.b5 A.b2 A.cP s.pr))=ba at dX k5 ρ⊢;have l':(d0 s.a6).length=s.a6.length:=bk _;have hh:A.ls.length=s.a6.length:=(gW D.pO).trans anR;refine⟨_,rfl,x,aJ,_,_,_,rfl,dX,cg.cl,cg.nw,rfl,A.b2,A.mK,_,rfl,k5 _ _ (c2 M.Bv) j3.wi,rfl,_,rfl,A.b2,A.mK,A.n,A.g,A.sl,bV,d0 s.a6,A.ls,(h',s.pr,g'),rfl,k5 _ _ (c2 M.Bv) j3.wi,k5 _ _ (c2 M.ES) j3.pP,k5 _ _ (c2 M.yT) j3.ws,M.g1,k5 _ _ (ar.gE (s4 _ _ (tZ _ _ (iA _ _ t1))) j3.ins (by intro z;cases z)) (s4 _ _ (tZ _ _ (iA _ _ t1))),(by omega),(by omega),λf' l7 apO ZX amy am6 aoq avt OB anb=>?_⟩;have k2:∀{b o},b≠x->b≠A.g->b≠A.sl->dE b=some o->f' b=some o:=λ{b o}cE c' rK e=>ZX b o c' rK (k5 b o cE e);have kt:∀b v,dE b=some (.tup v)->f' b=some (.tup v):=λb v e=>k2 (ar.gE e j3.ins (by intro z;cases z)) (ar.gE e j3.pP (by intro z;cases z)) (ar.gE e j3.ws (by intro z;cases z)) e;have nm:∀b o,dE b=some o->b≠l7:=λb o e z=>by rw[z,ρ _ aoq]at e;cases e
   have AF:l≠x:=c2 (cA hj.ins nl);have anP:l≠A.g:=c2 (cA hj.pP nl);have anT:l≠A.sl:=c2 (cA hj.ws nl);have YR:=ZX x _ M.ES M.yT dX;have YQ:=k2 AF anP anT Zy;have anQ:eY.length=s.a6.length+1:=by have:=gW õ;rw[bk,hD]at this;exact this
   refine⟨_,rfl,x,aJ,_,_,_,rfl,YR,cg.cl,cg.no,rfl,l,_,rfl,.inl (aC.of YQ),_,_,rfl,rfl,?_⟩;rw[d6,anQ];show Q (.int (((s.a6.length+1:Nat):Int)-1)) f';rw[show(((s.a6.length+1:Nat):Int)-1)=(s.a6.length:Int) by omega];have Iu:H l7=none:=by
    cases e:H l7 with
    |none=>rfl
    |some o=>exact bx rfl (nm _ _ (rY _ _ e))
   have old:∀{b o},a7 b=some o->b∉A.b0 x:=λ{b o}e z=>by rw[D.fr b z]at e;cases e
   have hi:∀{b o},b∉A.b0 x->dE b=some o->f' b=some o:=λ{b o}n e=>k2 (λz=>n (z▸cL.m0)) (λz=>n (z▸cL.η)) (λz=>n (z▸cL.θ)) e;have new:∀{b},H b=none->a7 b=none:=λ{b}e=>by
    cases aB:a7 b with
    |none=>rfl
    |some o=>rw[D.b4 _ _ aB]at e;cases e
   refine q uA f' {A with pl:=l,eY:=eY,ls:=A.ls++[l7]} ⟨λb o nb e=>hi nb (rY _ _ e),λb aa=>(Uo aa).imp id λz=>z.elim (λz=>z▸DW) λz=>z▸Iu⟩ ⟨λb o e=>hi (old e) (rY _ _ (D.b4 _ _ e)),D.ie,D.oB,YR,YQ,bO.gL õ λ_ _ e=>kt _ _ e,⟨iJ,k2 (c2 M.jF) M.SE M.yY anl⟩,k2 (c2 M.oL) M.t3 M.Jw j3.t8,k2 (c2 M.oM) M.cv M.gg j3.b5,k2 (c2 M.Bv) M.gF M.g4 j3.wi,?_,am6,Paired.snoc ⟨[apO],OB,.cons anb .nil⟩ (Ġ k2 kt j3.pO M.Bw M.g3 M.s2),k2 (c2 M.ET) (c2 M.g2) (c2 M.s1) j3.cP,bO.gL j3.sp λ_ _⟨c,ag,ai⟩=>⟨c,kt _ _ ag,kt _ _ ai⟩,aaI D.aI (D.live DW) (D.live Iu) (nm _ _ Zy),λb aa=>(Uo aa).elim (D.fr b) λz=>z.elim (λz=>new (z▸DW)) λz=>new (z▸Iu)⟩;rw[amy];show _=some (f_.lst ((d0 (s.a6++[(h',s.pr,g')])).map V.str));unfold d0;rw[fm,fm,fm];rfl
  .have rY:=tP.trans s4;have aoh:H af=none:=by
    cases e:H af with
    |none=>rfl
    |some o=>rw[tP _ _ e]at aI;cases aI
   exact hU na af dE aoh rY hd
noncomputable def la(s:ct):List Nat:=(dK s.a6.length).filter λn=>decide ((gT s.ay n).gq≠i0 (d0 s.a6) n)
noncomputable def mW(s:ct)(n:Nat):Bool:=(pD s.kvs (gT s.ay n).gq (i0 (d0 s.a6) n)).isSome
noncomputable def h_(ds:ck)(s:ct):List (eO×List Nat):=(rU ds (su s.ay) (nK s.kvs (d0 s.a6) s.ay) s.pr ((la s).filter (mW s))).filter λb=>decide (b.1.2∉s.eD)
noncomputable def BY(hs:bF)(ds:ck)(s:ct):ct:={s with pr:=s.pr+1,ay:=kC hs ds (h_ ds s) s.ay,iw:=s.iw++h_ ds s}
structure hR(hs:bF)(ds:ck)(k:Nat)(s:ct):Prop where
 len:s.ay.length=s.a6.length
 ou:s.a6.length<=40
 CY:ds.length<=40
 lets:WH hs s.a6
 tab:w1 s.kvs ds.length
 ne:∀ss∈s.ay,ss≠[]
 ry:∀ss∈s.ay,(lB ss).gq∈hs.map S
 c6:∀ss∈s.ay,ss.length<=k+1
 yx:s.iw.length<=50*k
theorem hR.last{hs:bF}{k:Nat}{s:ct}(O:hR hs ds k s){n:Nat}(h:n<s.a6.length):∃i,s.ay[n]?=some (i++[gT s.ay n])/\(gT s.ay n).gq∈hs.map S:=by have az:s.ay[n]?=some (s.ay.getD n []):=yc (by rw[O.len];exact h);have hm:=dV az;obtain⟨i,d7⟩:=QJ (O.ne _ hm);refine⟨i,?_,O.ry _ hm⟩;rw[az];congr 1
theorem Ez{s:ct}{n:Nat}(h:n<s.a6.length):(d0 s.a6)[n]?=some (i0 (d0 s.a6) n):=yc (by unfold d0;rw[bk];exact h)
theorem hR.goal{hs:bF}{k:Nat}{s:ct}(O:hR hs ds k s){n:Nat}(h:n<s.a6.length):i0 (d0 s.a6) n∈hs.map S:=by have e:=Ez h;unfold d0 at e;rw[cx]at e;obtain⟨d,hd,aB⟩:=e0.mp e;have:=(O.lets d (dV hd)).2;unfold d0;rw[<-aB];exact this
theorem KO{s:ct}{n:Nat}:n∈la s↔n<s.a6.length/\(gT s.ay n).gq≠i0 (d0 s.a6) n:=by unfold la;rw[gj,j5,decide_eq_true_eq]
end
theorem hR.on{k:Nat}{s:ct}(O:hR hs ds k s){n:Nat}(h:n∈la s):Kp (mW s) hs s.kvs (d0 s.a6) s.ay (su s.ay) (nK s.kvs (d0 s.a6) s.ay) n:=by
 obtain⟨aM,dr⟩:=KO.mp h;obtain⟨i,d7,hm⟩:=O.last aM;rcases O.tab.get (gT s.ay n).gq (i0 (d0 s.a6) n)with⟨v,w⟩|⟨r,v,w,_⟩
 .exact .inr ⟨by unfold mW;rw[w];rfl,i,_,_,d7,rfl,Ez aM,hm,O.goal aM,dr,v⟩
 .exact .inl ⟨by unfold mW;rw[w];rfl,i,_,_,d7,rfl,Ez aM,hm,O.goal aM,dr,by unfold nK;rw[w];exact v⟩
theorem hR.rd{ds:ck}{k:Nat}{s:ct}(O:hR hs ds k s){n:Nat}(h:n∈(la s).filter (mW s)):nK s.kvs (d0 s.a6) s.ay n<ds.length:=by
 obtain⟨_,ai⟩:=gj.mp h;unfold mW at ai;rcases O.tab.get (gT s.ay n).gq (i0 (d0 s.a6) n)with⟨v,w⟩|⟨r,v,w,ao⟩
 .rw[w]at ai;cases ai
 .unfold nK;rw[w];exact ao
theorem agq{α:Type}{F:Addr->α->Prop}{wi:TI}{tt:TT}{rest:ar.St}{H1:ae}{Q:a'}{J:fe}{as:cj}{Bs:List α}(hw:∀R:fe->ae->Prop,R J H1->wi σ H R)(gd:hc cs σ=none::rest)(b2:mF J H1 (aG as))(aw:as.length<sizeLine)(pr:bO F as Bs)(q:α->Bool)(test:∀(i:Nat)(a:Addr)(b:α)(ah:ae)(R:Bool->ae->Prop),as[i]?=some a->Bs[i]?=some b->aH H1 ah->R (q b) ah->tt (some (.ref a)::rest) ah R)(fin:∀(D:Addr)(H':ae)(iY:cj),H1 D=none->H' D=some (.lst (aG iY))->bO F iY (Bs.filter q)->aH H1 H'->Q (.ref D) H'):mf wi cs (ha 0) tt (Mo 0) σ H Q:=by
 have anL:=gW pr;have jX:=d6 as;refine hw _ λD bl=>?_;refine⟨λi m ys a9 H'=>m=as.length-i/\i<=as.length/\(∃iY,ys=aG iY/\iY.length<=i/\bO F iY ((Bs.take i).filter q))/\(∃o,a9=o::rest)/\aH H1 H'/\H' D=some (.lst ys),⟨as.length,by simp,eZ _,⟨[],rfl,bU _,.nil⟩,⟨none,by rw[gd]⟩,λb o e=>?_,aQ⟩,?_⟩
 .rw[aD (cA e bl)];exact e
 .rintro i m ys a9 H' ⟨rfl,ak,⟨iY,rfl,nG,fj⟩,⟨o,rfl⟩,ax,eM⟩;obtain⟨gF,g4,gv⟩:=b2 H' ax;refine⟨eM,by rw[d6];omega,?_⟩;by_cases cz:i<as.length
  .refine .inr ⟨g4 i (by omega),λx ah y=>?_⟩;obtain⟨rfl,ex⟩:=gv i x ah (by omega) y;unfold aG at ex;rw[cx]at ex;obtain⟨a,a4,rfl⟩:=e0.mp ex;obtain⟨b,dx,aa⟩:=bO.get pr a4;have a5:Bs.take (i+1)=Bs.take i++[b]:=by rw[oT,dx];rfl
   show tt (some (.ref a)::rest) ah _;refine test i a b ah _ a4 dx ax ?_;cases a8:q b with
   |true=>
    refine gD ⟨_,rfl,eM,as.length-(i+1),by omega,rfl,cz,⟨iY++[a],Ax iY a,by rw[hD];show iY.length+1<=i+1;omega,?_⟩,⟨_,rfl⟩,λc ob e=>?_,aQ⟩
    .rw[a5,p2,p3,bB a8,Ll];exact Paired.snoc aa fj
    .rw[aD (cA e bl)];exact ax _ _ e
   |false=>
    refine fI ⟨as.length-(i+1),by omega,rfl,cz,⟨iY,rfl,by omega,?_⟩,⟨_,rfl⟩,ax,eM⟩;rw[a5,p2,p3,bp (by rw[a8];decide),Ll,q9];exact fj
  .have e:i=as.length:=by omega
   subst e;rw[anL,oU]at fj;rw[jX]at gF;exact .inl ⟨gF,fin D H' iY bl eM fj ax⟩
theorem Ur(l:dN)(r:Nat):(!(cy (fw l) (e9 (r:Int):bA)).isSome)=decide (r∉l):=by
 induction l with
 |nil=>rfl
 |cons a l a3=>
  show(!(cy ((e9 (a:Int),V.aA true)::fw l) (e9 (r:Int):bA)).isSome)=_;by_cases h:a=r
  .subst h;rw[k9 rfl];simp
  .rw[ka (λz=>h (by have:=CL z;omega)),a3];simp[c2 h]
theorem agr{k:Nat}{s:ct}(O:hR hs ds k s){bs:j7}(h:bs.Sublist (h_ ds s))(i:Nat):(bs.filter λb=>decide (i∈b.2)).length<=1:=by have ag:(bs.filter λb=>decide (i∈b.2)).Sublist ((rU ds (su s.ay) (nK s.kvs (d0 s.a6) s.ay) s.pr ((la s).filter (mW s))).filter λb=>decide (i∈b.2)):=(h.trans List.filter_sublist).filter _;have ai:=ag.length_le;rw[ago (λn aM=>O.rd aM) i]at ai;refine eP ai ?_;split<;>simp
theorem TU{k:Nat}{s:ct}(O:hR hs ds k s){bs:j7}(h:bs.Sublist (h_ ds s)):∀ss∈kC hs ds bs s.ay,ss.length<=k+2:=λss hb=>by obtain⟨i,ak⟩:=ab6.mp hb;rw[JE]at ak;obtain⟨s0,cD,rfl⟩:=e0.mp ak;have:=O.c6 s0 (dV cD);have:=agr O h i;rw[hD,bk];omega
inductive K'(K:aY)(aJ C bw aO:Addr)(vs:aW)(H:ae)(Q:a')(el:bX):Prop where
 |mk (a7:ae) (x:Addr) (A:cL) (hs:bF) (ds:ck) (s:ct) (k:Nat) (bM:vs=[.ref x]) (bu:ew aJ C bw aO a7 H x A hs ds s) (bW:Good hs) (cW:hR hs ds k s) (dD:k<=98) (eS:∀H' e7 aA eH,hZ (A.b0 x) (e7.b0 x) H H'->ew aJ C bw aO a7 H' x e7 hs ds (BY hs ds s)->H aA=none->aA∉e7.b0 x->H' aA=some (.lst (aG eH))->bO (i7 H') eH (h_ ds s)->Q (.ref aA) H')
section
variable{P:cG}{w:bS}{K:aY}{mg:cw}{base:Heap}
noncomputable abbrev FR:Stmt:=fT (top 54) 7
theorem E0:c3 ["self","going","ready","bags","bag"] eA (cn FR):={}
theorem ags(F:cC K "pass_turn" "Day.pass_turn" FR f fd)(B:fk mg)(cg:oH K aJ)(gc:eh K C)(qf:cS K C "home_turn" "Walk.home_turn" EV dg f1 dJ)(Pa:aS P w K mg base bh 2 f1 dJ dg (Kw C))(vo:cY K mg "bags_at" I7 B_ f2 eV)(acR:aS P w K mg base bh 5 f2 eV B_ (WF K C bw aO))(qr:cS K C "send" "Walk.send" BU wJ cU h8)(QC:aS P w K mg base bh 2 cU h8 wJ (KZ C aO)):aS P w K mg base bh 6 f fd eA (K' K aJ C bw aO):=by
 refine F.ok E0 (λ_ A _ s H vs Q E ao h=>?_)
 .obtain⟨a7,x,A,hs,ds,s,k,rfl,D,G,O,anC,q⟩:=h;refine⟨_,(a_ (qB (i:=1) E0.aI rfl rfl rfl (N':=["number","self"]) (cs:=[none,some 0]) rfl (tq rfl B.range (aj (dj fQ (by rfl) B.len fG (aj (ed (U 0) (by rfl)) aE)) aE)) rfl (by decide+kernel) rfl (by decide+kernel) (ju (kv.mpr ⟨rfl,(λp aN=>bx aN (eo))⟩)) rfl
    (.own (.jk rfl (.inl rfl) (.inl rfl) rfl .nil))
    (λC s3 aZ bR eC=>⟨(eu (i:=0) (by show(["number","self"]:cb).Nodup;decide+kernel) rfl (.inl rfl)),(A0 (ej E7 (fx (UM (K:=K) rfl (U 1) (by rfl)) gc qf.d1 Pa ao.mono qf.bd .nil cm (aj (U 0) aE)) hL (dB _))),(U 0)⟩))
   (a_ (dI (i:=2) E0.aI rfl (cR rfl) (ec acR ao.mono (by rfl) vo.at_ vo.fn.cI vo.bd .nil cm (aj (ed (U 0) (by rfl)) (aj (ed (U 0) (by rfl)) (aj (U 1) (aj (ed (U 0) (by rfl)) (aj (ed (U 0) (by rfl)) aE)))))))
   (a_ (qB (i:=3) E0.aI rfl rfl rfl (N':=["bag","self"]) (cs:=[none,some 0]) rfl (kb (U 2)) rfl (by decide+kernel) rfl (by decide+kernel) (ju (kv.mpr ⟨rfl,(λp aN=>bx aN (eo))⟩)) rfl
    (.own (.jk rfl (.inl rfl) (.inl rfl) rfl .nil))
    (λC s3 aZ bR eC=>⟨(eu (i:=0) (by show(["bag","self"]:cb).Nodup;decide+kernel) rfl (.inl rfl)),(A0 (K4 (RW (iO ao) (bG (tw (K:=K) rfl) (U 0) aV (λ_ _=>rfl)) (UM (K:=K) rfl (U 1) (by rfl))))),(U 0)⟩))
   (a_ (jR j6 rfl (kb (U 3)) (eu (i:=4) E0.aI rfl (cR rfl))
    (bb (gK (fx (ed (U 0) (by rfl)) gc qr.d1 QC ao.mono qr.bd .nil cm (aj (U 4) aE)))))
   (a_ (gK (tQ uv PySem.F.slot_list_extend PySem.F.type_list_extend abi (ed (U 0) (by rfl)) (aj (U 3) aE)))
   (a_ (jt (U 0) (cq i1 (ed (U 0) (by rfl)) aV) rfl)
   (bb (cp (U 3))))))))),?_⟩
  try dsimp only[lD,lu]
  have Z_:A.eY.length=s.a6.length:=by have:=gW D.pt;rw[bk]at this;exact this
  have ou:=O.ou;dsimp only[iQ,so];refine Wo (J:=nd 0 s.a6.length) (H1:=H) (xs:=(dK s.a6.length).map λi:Nat=>V.int (0+i)) (rest:=[some (.ref x)]) (λR h=>⟨_,rfl,x,aJ,_,_,_,rfl,D.ins,cg.cl,cg.no,rfl,A.pl,_,rfl,.inl (aC.of D.po),_,rfl,?_,?_,?_⟩) rfl (D7 0 s.a6.length) (fF (by simp;omega)) (λn=>decide ((gT s.ay n).gq≠i0 (d0 s.a6) n)) (λn=>.int (n:Int)) (λn v ah R ev ax k=>?_) (λn v ah R ev _ ax k=>?_) (λjc H1 kJ bl s1=>?_)
  .rw[d6];omega
  .rw[d6];omega
  .rw[d6,Z_,kQ];exact h
  .have aM:n<s.a6.length/\v=.int (n:Int):=by rw[cx]at ev;obtain⟨i,d7,rfl⟩:=e0.mp ev;obtain⟨ag,ai⟩:=eb.mp d7;rw[zh]at ai;subst ai;rw[iD]at ag;exact⟨ag,by rw[nc]⟩
   obtain⟨aM,rfl⟩:=aM;obtain⟨i,d7,_⟩:=O.last aM;have ei:=D.same ax;refine⟨_,rfl,x,aJ,_,_,_,rfl,ei.ins,cg.cl,cg.nw,rfl,A.b2,A.mK,_,rfl,ei.wi,rfl,_,rfl,A.b2,A.n,A.g,A.sl,_,_,_,n,i,_,_,rfl,ei.walk,d7,Ez aM,rfl,_,rfl,?_⟩;have:=k ah (aH.refl _);unfold yU;by_cases z:(gT s.ay n).gq=i0 (d0 s.a6) n
   .rw[bB z];rw[dn (λw=>w z)]at this;exact this
   .rw[bp z];rw[cT z]at this;exact this
  .obtain rfl:v=.int (n:Int):=by rw[cx]at ev;obtain⟨i,d7,rfl⟩:=e0.mp ev;obtain⟨ag,ai⟩:=eb.mp d7;rw[zh]at ai;subst ai;rw[nc]
   exact⟨_,rfl,k ah (aH.refl _)⟩
  have AF:((dK s.a6.length).map λi:Nat=>V.int (0+i)).length=s.a6.length:=by simp
  rw[AF]at bl;have Hd:H1 jc=some (.lst (lw (la s))):=bl;have Da:=D.same s1;have gl:(la s).length<=40:=by unfold la;refine eP (nf _ _) ?_;rw[iD];exact ou
  have Dd:(la s).Nodup:=Lw.filter _;refine⟨_,rfl,x,aJ,_,_,_,rfl,Da.ins,cg.cl,cg.nn,rfl,_,rfl,x,aJ,_,_,_,rfl,Da.ins,cg.cl,cg.nw,rfl,_,rfl,_,rfl,x,aJ,_,_,_,rfl,Da.ins,cg.cl,cg.gZ,rfl,_,rfl,x,aJ,_,_,_,rfl,Da.ins,cg.cl,cg.np,rfl,A.b2,A.n,A.g,A.sl,jc,A.y,A.t,A.bL,A.br,_,A.ls,A.rs,s.ay,hs,ds,s.kvs,la s,mW s,_,su s.ay,nK s.kvs (d0 s.a6) s.ay,s.pr,rfl,rfl,Da.walk,aC.of Hd,Da.Sb,Da.oB.same Da.b4,G,by omega,Dd,λn aM=>O.on aM,λn aM=>O.rd aM,λaA ah as fb Ip s2 u4 kx up mem=>?_⟩;obtain rfl:=aeP (λn aM=>O.rd aM) up mem;obtain⟨Bs,M7⟩:∃Bs,Bs=rU ds (su s.ay) (nK s.kvs (d0 s.a6) s.ay) s.pr ((la s).filter (mW s)):=⟨_,rfl⟩
  have kx:bO (i7 ah) as Bs:=by rw[M7];exact kx
  have Db:=Da.same s2;have anJ:Bs.length<=40:=by rw[M7];unfold rU oq;rw[bk];refine eP (nf _ _) ?_;rw[iD];exact O.CY
  have Z6:=gW kx;refine WU ?_;dsimp only;refine AX ?_;refine agq (F:=i7 ah) (J:=iW K aA) (H1:=ah) (as:=as) (Bs:=Bs) (rest:=[some (.ref x)]) (λR h=>⟨_,rfl,aA,rfl,⟨_,aC.of u4⟩,h⟩) rfl (nA (aC.of u4)) (fF (by omega)) kx (λb=>decide (b.1.2∉s.eD)) (λi a b aZ R a4 dx ax cK=>?_) (λhj aZ iY PD NM w8 s3=>?_)
  .obtain⟨eT,Yc,c,hP,fS⟩:=bO.get kx a4;rw[dx]at Yc;cases Yc;have hj:=Db.same ax;refine⟨_,rfl,a,_,_,_,rfl,rfl,bI.of (ax _ _ hP),rfl,_,rfl,x,aJ,_,_,_,rfl,hj.ins,cg.cl,cg.vJ,rfl,A.b5,_,rfl,ir.k (k:=e9 (b.1.2:Int)) hj.b5,_,rfl,?_⟩;rw[Ur];exact cK
  have X7:Bs.filter (λb=>decide (b.1.2∉s.eD))=h_ ds s:=by rw[M7];rfl
  rw[X7]at w8;have fl:=Db.same s3;have au7:(h_ ds s).length<=40:=by rw[<-X7];exact eP (nf _ _) anJ
  have anK:=gW w8;have w8:=bO.gL w8 λa b h=>h.same s3;have bin:∀b∈h_ ds s,b.1.2<ds.length/\b.2.Nodup/\∀i∈b.2,i<s.ay.length:=λb aa=>by
   unfold h_ rU at aa;obtain⟨r,ao,qR⟩:=b7.mp (gj.mp aa).1;subst qR;refine⟨?_,WE (Dd.filter _) r,λi ak=>?_⟩
   .unfold oq at ao;exact j5.mp (gj.mp ao).1
   .have:=(KO.mp (gj.mp (vK ak).1).1).1;rw[O.len];exact this
  have M:=FA D.aI;have alB:∀l∈A.ls,a7 l=none:=λl aw=>D.fr l (cL.H6 aw);have Ij:hj∉A.b0 x:=Db.live PD;have τ:hj∉A.ls:=λz=>Ij (cL.H6 z);refine⟨_,rfl,hj,rfl,⟨_,aC.of NM⟩,?_⟩;refine vy (K:=K) (a:=hj) (xs:=aG iY) (λj σ dG=>∃v4,σ=[some (.ref x),some (.ref jc),some (.ref aA),some (.ref hj),v4]/\aH (mask aZ A.ls) dG/\bO (g7 dG) A.ls (kC hs ds ((h_ ds s).take j) s.ay))
   ⟨none,rfl,Az _ _,fl.pO⟩ (λj σ dG _⟨_,_,h,_⟩=>aC.of (h _ _ (kc NM τ))) ?_ ?_
  .rintro j z σ dG ee ⟨v4,rfl,g0,dy⟩;unfold aG at ee;rw[cx]at ee;obtain⟨dS,xl,rfl⟩:=e0.mp ee;obtain⟨b,dx,c,hP,fS⟩:=bO.get w8 xl;obtain⟨e5,eT,ji⟩:=bin b (dV dx);have eB:∀{c:Addr}{v:aW},aZ c=some (.tup v)->c∉A.ls:=λ{c v}e z=>by obtain⟨ts,aB⟩:=RU fl.pO z;rw[e]at aB;cases aB
   have a5:(h_ ds s).take (j+1)=(h_ ds s).take j++[b]:=by rw[oT,dx];rfl
   have pj:=g0 _ _ (kc fl.ins M.Bw);have anh:=g0 _ _ (kc fl.wi M.t7);have Ú:aH a7 (mask aZ A.ls):=λb o e=>kc (fl.b4 _ _ e) λz=>by rw[alB b z]at e;cases e
   refine⟨_,rfl,x,aJ,_,_,_,rfl,pj,cg.cl,cg.nw,rfl,A.b2,A.mK,_,rfl,anh,rfl,_,rfl,mask aZ A.ls,A.b2,A.n,A.g,A.sl,A.bL,A.br,dS,d0 s.a6,A.ls,A.rs,_,hs,ds,b,rfl,g0,⟨⟨_,kc fl.wi M.t7⟩,kc fl.pP M.g3,kc fl.ws M.s2⟩,dy,M.aI,(λl aw=>yb aw),D.ie.same Ú,D.oB.same Ú,⟨c,kc hP (eB hP),kc fS (eB fS)⟩,e5,eT,?_,?_,λH' s' bJ=>⟨_,rfl,s',?_⟩⟩
   .intro i ak;rw[Ed];exact ji i ak
   .intro ss hb;have:=TU O (LA j (h_ ds s)) ss hb;omega
   .rw[a5,Ķ];exact bJ
  .rintro σ dG ⟨v4,rfl,g0,dy⟩;rw[d6,anK,oU]at dy;have pj:=g0 _ _ (kc fl.ins M.Bw);have rA:=g0 _ _ (kc fl.cP M.az);have YU:=g0 _ _ (kc NM τ);have ava:=gW D.sp;have yx:=O.yx;refine⟨_,rfl,x,aJ,_,_,_,rfl,pj,cg.cl,cg.ns,rfl,.inl ⟨rfl,_,aC.of rA⟩,_,rfl,A.cP,hj,_,_,rfl,rfl,rA,YU,?_,?_⟩
   .rw[d6,d6];exact eP (show _<=10000 by omega) (by decide)
   rw[show aG A.eH++aG iY=aG (A.eH++iY) by unfold aG;rw[fm]];have k1:∀b o,b≠A.cP->dG b=some o->upd dG A.cP (.lst (aG (A.eH++iY))) b=some o:=λb o nb e=>(aD nb).trans e;have uO:upd dG A.cP (.lst (aG (A.eH++iY))) A.cP=some (.lst (aG (A.eH++iY))):=aQ;dsimp only;generalize upd dG A.cP (.lst (aG (A.eH++iY)))=j4 at k1 uO⊢;have ZP:=k1 _ _ M.ET pj;refine⟨_,rfl,x,aJ,_,_,_,rfl,ZP,cg.cl,cg.np,rfl,_,_,rfl,rfl,_,rfl,x,aJ,A.af,_,rfl,ZP,cg.cl,cg.np,(by show 7<1000;decide),_,rfl,?_⟩;have ot:∀{b o},b≠x->b≠A.cP->dG b=some o->upd j4 x (.ins aJ A.af (oz A.n A.pl A.y A.b5 A.b2 A.cP (s.pr+1))) b=some o:=λ{b o}cE c' e=>(aD cE).trans (k1 _ _ c' e);have tv:∀{b o},b≠x->b≠A.cP->b∉A.ls->aZ b=some o->upd j4 x (.ins aJ A.af (oz A.n A.pl A.y A.b5 A.b2 A.cP (s.pr+1))) b=some o:=λ{b o}cE c' rK e=>ot cE c' (g0 _ _ (kc e rK));have eB:∀{c:Addr}{v:aW},aZ c=some (.tup v)->c∉A.ls:=λ{c v}e z=>by obtain⟨ts,aB⟩:=RU fl.pO z;rw[e]at aB;cases aB
   have kt:∀b v,aZ b=some (.tup v)->upd j4 x (.ins aJ A.af (oz A.n A.pl A.y A.b5 A.b2 A.cP (s.pr+1))) b=some (.tup v):=λb v e=>tv (ar.gE e fl.ins (by intro z;cases z)) (ar.gE e fl.cP (by intro z;cases z)) (eB e) e;have tP:=s1.trans (s2.trans s3);have tO:=s1.trans s2;have an7:H hj=none:=by
    cases e:H hj with
    |none=>rfl
    |some o=>rw[tO _ _ e]at PD;cases PD
   obtain⟨iJ,ank⟩:=fl.q1;have an9:hj≠x:=λz=>Ij (z▸cL.m0);have an8:hj≠A.cP:=λz=>Ij (z▸cL.Px);have hi:∀{b o},b∉A.b0 x->aZ b=some o->upd j4 x (.ins aJ A.af (oz A.n A.pl A.y A.b5 A.b2 A.cP (s.pr+1))) b=some o:=λ{b o}n e=>tv (λz=>n (z▸cL.m0)) (λz=>n (z▸cL.Px)) (λz=>n (cL.H6 z)) e;have anG:∀b v,dG b=some (.tup v)->upd j4 x (.ins aJ A.af (oz A.n A.pl A.y A.b5 A.b2 A.cP (s.pr+1))) b=some (.tup v):=λb v e=>ot (ar.gE e pj (by intro z;cases z)) (ar.gE e rA (by intro z;cases z)) e;have aoZ:∀{l pv:cj}{m dc:j7}{F:Addr->eO×List Nat->Prop},bO F l m->bO F pv dc->bO F (l++pv) (m++dc):=λ{l pv m dc F}p hx=>by
    induction p with
    |nil=>exact hx
    |cons r t a3=>exact .cons r a3
   exact q _ {A with eH:=A.eH++iY} hj iY ⟨λb o nb e=>hi nb (tP _ _ e),λb aa=>.inl aa⟩ ⟨λb o e=>hi (λz=>by rw[D.fr b z]at e;cases e) (fl.b4 _ _ e),D.ie,D.oB,aQ,tv (c2 M.e4) M.Qp M.yf fl.po,bO.gL fl.pt λ_ _ e=>kt _ _ e,⟨iJ,tv (c2 M.jF) M.yZ M.SF ank⟩,tv (c2 M.oL) M.Jx M.vY fl.t8,tv (c2 M.oM) M.pH M.tL fl.b5,tv (c2 M.Bv) M.gv M.t7 fl.wi,tv (c2 M.ES) M.g2 M.g3 fl.pP,tv (c2 M.yT) M.s1 M.s2 fl.ws,Ġ (λcE c' _ e=>ot cE c' e) anG dy M.Bw M.az M.az,(aD (c2 M.ET)).trans uO,aoZ (bO.gL fl.sp λ_ _⟨c,ag,ai⟩=>⟨c,kt _ _ ag,kt _ _ ai⟩) (bO.gL w8 λ_ _⟨c,ag,ai⟩=>⟨c,kt _ _ ag,kt _ _ ai⟩),D.aI,D.fr⟩ an7 Ij (ot an9 an8 YU) (bO.gL w8 λ_ _⟨c,ag,ai⟩=>⟨c,kt _ _ ag,kt _ _ ai⟩)
theorem acS(ss:List Step):∀l:List Step,l=[]/\lB (ss++l)=lB ss\/∃st∈l,lB (ss++l)=st:=λl=>by
 rcases Vd l with rfl|⟨i,st,rfl⟩
 .exact .inl ⟨rfl,by rw[q9]⟩
 .refine .inr ⟨st,by simp,?_⟩;rw[Vc,<-F4];exact QI _ _
theorem aeT{hs:bF}{ds:ck}(R:∀d∈ds,d.Ok hs.length){r:Nat}(h:r<ds.length):q2 hs ds r∈hs.map S:=by
 unfold q2;have e:ds.getD r qS∈ds:=by rw[eF,cF h];exact sG h
 have aa:=(R _ e).b;refine b7.mpr ⟨hs.getD (ds.getD r qS).b [],?_,rfl⟩;rw[eF,cF aa];exact sG aa
theorem hR.pass{hs:bF}{ds:ck}{k:Nat}{s:ct}(R:∀d∈ds,d.Ok hs.length)(O:hR hs ds k s):hR hs ds (k+1) (BY hs ds s):=by
 have gQ:∀ss∈kC hs ds (h_ ds s) s.ay,∃s0∈s.ay,∃bs:List (eO×List Nat),(∀b∈bs,b∈h_ ds s)/\ss=s0++bs.map λb=>stepK hs ds b.1:=λss hb=>by obtain⟨i,ak⟩:=ab6.mp hb;rw[JE]at ak;obtain⟨s0,cD,rfl⟩:=e0.mp ak;exact⟨s0,dV cD,_,λb aa=>(gj.mp aa).1,rfl⟩
 refine⟨(Ed _ _ _ _).trans O.len,O.ou,O.CY,O.lets,O.tab,λss hb=>?_,λss hb=>?_,λss hb=>?_,?_⟩
 .obtain⟨s0,h0,bs,_,rfl⟩:=gQ ss hb;intro z;exact O.ne s0 h0 (List.append_eq_nil_iff.mp z).1
 .obtain⟨s0,h0,bs,aa,rfl⟩:=gQ ss hb;rcases acS s0 (bs.map λb=>stepK hs ds b.1)with⟨_,e⟩|⟨st,iM,e⟩
  .rw[e];exact O.ry s0 h0
  .obtain⟨b,dC,rfl⟩:=b7.mp iM;rw[e];have:=aa b dC;unfold h_ rU at this;obtain⟨r,ao,qR⟩:=b7.mp (gj.mp this).1;subst qR;unfold oq at ao;exact aeT R (j5.mp (gj.mp ao).1)
 .exact TU O (List.Sublist.refl _) ss hb
 .show(s.iw++h_ ds s).length<=_;rw[hD];have ag:=O.yx;have ai:(h_ ds s).length<=40:=by unfold h_ rU oq;refine eP (nf _ _) ?_;rw[bk];refine eP (nf _ _) ?_;rw[iD];exact O.CY
  omega
theorem hR.post{hs:bF}{k:Nat}{s:ct}(O:hR hs ds k s){h g:Str}(dr:h∈hs.map S)(bE:g∈hs.map S)(l:s.a6.length+1<=40):hR hs ds k (BA s h g):=by
 have mem:∀ss∈s.ay++[jT (h,s.pr,g)],ss∈s.ay\/ss=jT (h,s.pr,g):=λss tk=>by
  rcases hl.mp tk with z|z
  .exact .inl z
  .exact .inr (g5.mp z)
 refine⟨?_,?_,O.CY,λd hd=>?_,O.tab,λss hb=>?_,λss hb=>?_,λss hb=>?_,O.yx⟩
 .show(s.ay++[_]).length=(s.a6++[_]).length;rw[hD,hD,O.len];rfl
 .show(s.a6++[_]).length<=40;rw[hD];exact l
 .rcases hl.mp hd with z|z
  .exact O.lets d z
  .rw[g5.mp z];exact⟨dr,bE⟩
 .rcases mem ss hb with z|rfl
  .exact O.ne ss z
  .unfold jT;simp
 .rcases mem ss hb with z|rfl
  .exact O.ry ss z
  .exact dr
 .rcases mem ss hb with z|rfl
  .exact O.c6 ss z
  .show 1<=k+1;omega
end
theorem agt{hs:bF}{h g:Str}{t:Int}:jj (bl hs) (kI (h,t,g))=true↔h∈hs.map S/\g∈hs.map S/\h≠g/\0<=t/\t<=1000000000:=by
 show(hJ (bl hs) (.str h) (.str g)&&Em 0 1000000000 (.int t))=true↔_;rw[iB];have w:Em 0 1000000000 (.int t)=(decide (0<=t)&&decide (t<=1000000000)):=rfl;rw[w,iB,decide_eq_true_eq,decide_eq_true_eq];constructor
 .rintro⟨u,t0,t1⟩;unfold hJ at u;rw[iB,iB]at u;refine⟨?_,?_,?_,t0,t1⟩
  .by_cases z:h∈hs.map S
   .exact z
   .rw[Fb z]at u;cases u.1.1
  .by_cases z:g∈hs.map S
   .exact z
   .rw[Fb z]at u;cases u.1.2
  .rintro rfl;have:=u.2;simp[hn]at this
 .rintro⟨a,b,c,t0,t1⟩;exact⟨J8 a b c,t0,t1⟩
structure oj(hs:bF)(s:ct):Prop where
 is:∀d∈s.a6,jj (bl hs) (kI d)=true
 lo:∀d∈s.a6,∀e6,s.a6.head?=some e6->e6.2.1<=d.2.1
 ak:∀d∈s.a6,d.2.1<=s.pr
theorem aeH{s:ct}(kR:oj hs s){h g:Str}(b:jj (bl hs) (kI (h,s.pr,g))=true):nv (bl hs) ((s.a6++[(h,s.pr,g)]).map kI)=none:=by
 refine HV.mp λd hd=>?_;obtain⟨e,he,rfl⟩:=b7.mp hd;rcases hl.mp he with z|z
 .exact kR.is e z
 .rw[g5.mp z];exact b
theorem aaK{s:ct}(kR:oj hs s)(h g:Str):Bm (((s.a6++[(h,s.pr,g)]).map kI).map ox)=s.pr-((s.a6.head?.map λd=>d.2.1).getD s.pr):=by
 have e:((s.a6++[(h,s.pr,g)]).map kI).map ox=(s.a6++[(h,s.pr,g)]).map λd=>d.2.1:=by rw[gU];rfl
 rw[e];have ne:(s.a6++[(h,s.pr,g)]).map (λd=>d.2.1)≠[]:=by simp
 unfold Bm;rw[bp ne];obtain⟨ib,jA⟩:=ahP ne;obtain⟨cE,c'⟩:=Wf ne;have rJ:v3 ((s.a6++[(h,s.pr,g)]).map λd=>d.2.1)=s.pr:=by
  have a1:=jA s.pr (b7.mpr ⟨(h,s.pr,g),by simp,rfl⟩);obtain⟨d,hd,az⟩:=b7.mp ib;rcases hl.mp hd with z|z
  .have:=kR.ak d z;omega
  .rw[g5.mp z]at az;exact az.symm
 rw[rJ];cases aw:s.a6 with
 |nil=>
  rw[aw]at cE;obtain⟨d,hd,az⟩:=b7.mp cE;have:d=(h,s.pr,g):=by simpa using hd
  rw[this]at az;simp only[List.head?_nil,Option.map_none,Option.getD_none];have az:s.pr=pF ((([]:qd)++[(h,s.pr,g)]).map λd=>d.2.1):=az;rw[<-az]
 |cons e6 r=>
  rw[aw]at cE c';have e5:=c' e6.2.1 (b7.mpr ⟨e6,by simp,rfl⟩);obtain⟨d,hd,az⟩:=b7.mp cE;have eT:e6.2.1<=d.2.1:=by
   rcases hl.mp hd with z|z
   .exact kR.lo d (by rw[aw];exact z) e6 (by rw[aw];rfl)
   .rw[g5.mp z];exact kR.ak e6 (by rw[aw];exact .head _)
  simp only[List.head?_cons,Gd,Option.getD_some];omega
theorem oj.pass{s:ct}(kR:oj hs s):oj hs (BY hs ds s):=⟨kR.is,kR.lo,λd hd=>by have:=kR.ak d hd;show d.2.1<=s.pr+1;omega⟩
theorem oj.post{s:ct}(kR:oj hs s)(b:jj (bl hs) (kI (h,s.pr,g))=true):oj hs (BA s h g):=by
 have mem:∀d∈s.a6++[(h,s.pr,g)],d∈s.a6\/d=(h,s.pr,g):=λd hd=>by
  rcases hl.mp hd with z|z
  .exact .inl z
  .exact .inr (g5.mp z)
 refine⟨λd hd=>?_,λd hd e6 cD=>?_,λd hd=>?_⟩
 .rcases mem d hd with z|rfl
  .exact kR.is d z
  .exact b
 .have cD:(s.a6++[(h,s.pr,g)]).head?=some e6:=cD;cases aw:s.a6 with
  |nil=>
   rw[aw]at cD;cases cD;rcases mem d hd with z|rfl
   .rw[aw]at z;cases z
   .exact oR _
  |cons c r=>
   rw[aw]at cD;cases cD;rcases mem d hd with z|rfl
   .exact kR.lo d z e6 (by rw[aw];rfl)
   .exact kR.ak e6 (by rw[aw];exact .head _)
 .rcases mem d hd with z|rfl
  .exact kR.ak d z
  .exact oR _
theorem aeI{s:ct}(kR:oj hs s){h g:Str}(b:jj (bl hs) (kI (h,s.pr,g))=true)(l:s.a6.length<40){dq:Int}(lo:∀d∈s.a6,dq<=d.2.1)(ak:s.pr-dq<=30):zz (bl hs) ((s.a6++[(h,s.pr,g)]).map kI):=by
 refine⟨aeH kR b,by rw[bk,hD];exact l,?_⟩;rw[aaK kR];cases e:s.a6 with
 |nil=>show s.pr-s.pr<=30;omega
 |cons d r=>
  have:=lo d (by rw[e];exact .head _);show s.pr-d.2.1<=30;omega
inductive Xm(C aO gP:Addr)(vs:aW)(H:ae)(Q:a')(E:bX):Prop where
 |mk (x n t bL br:Addr) (hs:bF) (ys:aW) (kvs:en) (h g:Str) (bM:vs=[.ref x,.str h,.str g]) (bu:qE C aO H x n t bL br (de hs) ys kvs) (bW:Good hs) (cW:dH H (.str h) (.str h)) (dD:dH H (.str g) (.str g)) (eS:(hJ (bl hs) (.str h) (.str g)=true->∀H',aH H H'->Q .bc (upd H' t (.d4 (sg kvs (f7 h g)))))) (hB:(hJ (bl hs) (.str h) (.str g)=false->∀H',aH H H'->E (.ref gP) none H'))
section
variable{P:cG}{w:bS}{K:aY}{mg:cw}{base:Heap}
noncomputable abbrev I':Stmt:=fT (top 50) 2
theorem ajx:c3 gk gk (cn I'):={}
theorem ais(F:cC K "drop_way" "Ways.drop_way" I' f fd)(c0:vZ K C)(mH:cS K C "need_pair" "Ways.need_pair" A8 gk f2 eV)(sT:aS P w K mg base (f9 P w) 2 f2 eV gk (Gx C aO gP)):
  aS P w K mg base (f9 P w) 3 f fd gk (Xm C aO gP):=by
 have kd:=c0.cl;refine pE F ajx (λ_ A _ s H vs Q E ao h=>?_)
 .obtain⟨x,n,t,bL,br,hs,ys,kvs,h',g',rfl,W,G,bj,b_,q,hU⟩:=h;obtain⟨af,av⟩:=W.ins;refine⟨_,(a_ (gK (fx (U 0) kd mH.d1 sT ao.mono mH.bd .nil rF (aj (U 1) (aj (U 2) aE))))
   (bb (gK (aeA (iO ao) (ed (U 0) (by rfl)) (kF (aj (U 1) (aj (U 2) aE))) hL ⟨rfl,rfl,rfl,rfl⟩)))),?_⟩
  refine⟨_,rfl,x,af,_,rfl,av,rfl,_,rfl,_,rfl,x,n,t,bL,br,hs,_,kvs,.str h',.str g',.str h',.str g',rfl,W,G,bj,b_,(by show 0<=60;decide),(by show 0<=60;decide),λaq H1 s1=>?_,hU⟩;refine⟨_,rfl,x,C,af,_,_,rfl,s1 _ _ av,c0.cl,c0.eB,rfl,t,rfl,.inr ⟨_,.inl (s1 _ _ W.told)⟩,_,rfl,_,rfl,(by show 2<=sizeLine;decide),λr jD=>?_⟩;have s3:=b8 (o:=.tup [V.str h',V.str g']) jD;exact⟨kvs,f7 h' g',r,rfl,s3 _ _ (s1 _ _ W.told),aQ,q aq _ (s1.trans s3)⟩
noncomputable def Xn(s:ct)(h g:Str)(i:Int):ct:={s with kvs:=eN s.kvs (f7 h g) (.int i)}
noncomputable def WW(s:ct)(h g:Str):ct:={s with kvs:=sg s.kvs (f7 h g)}
noncomputable def v5(l:dN)(r:Nat):List Nat:=if r∈l then l else l++[r]
noncomputable def FT(s:ct)(r:Nat):ct:={s with eD:=v5 s.eD r}
noncomputable def AY(s:ct)(r:Nat):ct:={s with eD:=s.eD.filter λk=>decide (k≠r)}
theorem TV(l:dN)(r:Nat):eN (fw l) (e9 (r:Int)) (.aA true)=fw (v5 l r):=by
 unfold eN v5;have aF:((fw l).any λbZ=>decide (bZ.1=(e9 (r:Int):bA)))=decide (r∈l):=by
  unfold fw;rw[List.any_map,BI,q8,decide_eq_true_iff];constructor
  .rintro⟨k,aP,e⟩;have e:=kL e;have e:(k:Int)=(r:Int):=CL e;rw[<-aa9 e];exact aP
  .exactλh=>⟨r,h,cT rfl⟩
 rw[aF];by_cases h:r∈l
 .rw[bB (cT h),bB h];unfold fw;rw[gU];refine sI λk _=>?_;show(if(e9 (k:Int):bA)=e9 (r:Int)then((e9 (k:Int):bA),V.aA true)else(e9 (k:Int),V.aA true))=_;split<;>rfl
 .rw[bp (by simp[h]),bp h];unfold fw;rw[fm];rfl
theorem ĸ(l:dN)(r:Nat):wc (fw l) (e9 (r:Int))=fw (l.filter λk=>decide (k≠r)):=by
 unfold wc fw;rw[zg];congr 1;refine List.filter_congr λk _=>?_;show decide ((e9 (k:Int):bA)≠e9 (r:Int))=decide (k≠r);by_cases e:k=r
 .subst e;rw[dn (by simp),dn (by simp)]
 .rw[cT e,cT (show(e9 (k:Int):bA)≠e9 (r:Int) fromλz=>e (aa9 (CL z)))]
theorem Ĺ(l:dN)(r:Nat)(h:cy (fw l) (e9 (r:Int):bA)=none):(l.filter λk=>decide (k≠r))=l:=by have:=Ur l r;rw[h]at this;have aM:r∉l:=kL this.symm;exact F7.mpr λk aP=>cT λz=>aM (z▸aP)
end
section
variable{P:cG}{w:bS}{K:aY}{mg:cw}{base:Heap}{aJ C bw aO:Addr}{a7 H:ae}{x:Addr}{A:cL}{hs:bF}{ds:ck}{s:ct}
theorem ew.Ia(D:ew aJ C bw aO a7 H x A hs ds s):A.t∈A.b0 x/\A.b5∈A.b0 x:=⟨cL.H4,cL.H5⟩
theorem KP{α β:Type}{F G:α->β->Prop}:∀{xs:List α}{ys:List β},bO F xs ys->(∀x∈xs,∀y,F x y->G x y)->bO G xs ys
 |_,_,.nil,_=>.nil
 |_,_,.cons h r,k=>.cons (k _ (by simp) _ h) (KP r λx av=>k x (by simp[av]))
theorem ew.IT(D:ew aJ C bw aO a7 H x A hs ds s)(ax:aH H H')(kvs:en):ew aJ C bw aO a7 (upd H' A.t (.d4 kvs)) x A hs ds {s with kvs:=kvs}/\hZ (A.b0 x) (A.b0 x) H (upd H' A.t (.d4 kvs)):=by
 have cQ:=D.same ax;have eB:∀{b v},H' b=some (.tup v)->b≠A.t:=λ{b v}e z=>by rw[z,cQ.t8]at e;cases e
 have M:=FA D.aI;obtain⟨iJ,cM⟩:=cQ.q1;refine⟨⟨λb o e=>?_,D.ie,D.oB,?_,?_,bO.gL cQ.pt λa v e=>?_,⟨iJ,?_⟩,aQ,?_,?_,?_,?_,?_,?_,bO.gL cQ.sp λa v e=>?_,D.aI,D.fr⟩,⟨λb o nb e=>?_,λb aa=>.inl aa⟩⟩
 .rw[aD (λz=>by rw[z,D.fr _ D.Ia.1]at e;cases e)];exact cQ.b4 _ _ e
 .rw[aD M.oL];exact cQ.ins
 .rw[aD M.d_];exact cQ.po
 .rw[aD (eB e)];exact e
 .rw[aD M.oN];exact cM
 .rw[aD (c2 M.t1)];exact cQ.b5
 .rw[aD (c2 M.dU)];exact cQ.wi
 .rw[aD (c2 M.t3)];exact cQ.pP
 .rw[aD (c2 M.Jw)];exact cQ.ws
 .exact KP cQ.pO λl aw ss⟨ts,az,aB⟩=>⟨ts,by rw[aD (λz=>M.vY (by rw[<-z];exact aw))];exact az,bO.gL aB λa v e=>by rw[aD (eB e)];exact e⟩
 .rw[aD (c2 M.Jx)];exact cQ.cP
 .obtain⟨c,az,aB⟩:=e;exact⟨c,by rw[aD (eB az)];exact az,by rw[aD (eB aB)];exact aB⟩
 .rw[aD (λz=>nb (by rw[z];exact D.Ia.1))];exact ax _ _ e
theorem ew.Å(D:ew aJ C bw aO a7 H x A hs ds s)(ax:aH H H')(l:dN):ew aJ C bw aO a7 (upd H' A.b5 (.bN (fw l))) x A hs ds {s with eD:=l}/\hZ (A.b0 x) (A.b0 x) H (upd H' A.b5 (.bN (fw l))):=by
 have cQ:=D.same ax;have eB:∀{b v},H' b=some (.tup v)->b≠A.b5:=λ{b v}e z=>by rw[z,cQ.b5]at e;cases e
 have M:=FA D.aI;obtain⟨iJ,cM⟩:=cQ.q1;refine⟨⟨λb o e=>?_,D.ie,D.oB,?_,?_,bO.gL cQ.pt λa v e=>?_,⟨iJ,?_⟩,?_,aQ,?_,?_,?_,?_,?_,bO.gL cQ.sp λa v e=>?_,D.aI,D.fr⟩,⟨λb o nb e=>?_,λb aa=>.inl aa⟩⟩
 .rw[aD (λz=>by rw[z,D.fr _ D.Ia.2]at e;cases e)];exact cQ.b4 _ _ e
 .rw[aD M.oM];exact cQ.ins
 .rw[aD M.qL];exact cQ.po
 .rw[aD (eB e)];exact e
 .rw[aD M.EY];exact cM
 .rw[aD M.t1];exact cQ.t8
 .rw[aD (c2 M.bz)];exact cQ.wi
 .rw[aD (c2 M.cv)];exact cQ.pP
 .rw[aD (c2 M.gg)];exact cQ.ws
 .exact KP cQ.pO λl aw ss⟨ts,az,aB⟩=>⟨ts,by rw[aD (λz=>M.tL (by rw[<-z];exact aw))];exact az,bO.gL aB λa v e=>by rw[aD (eB e)];exact e⟩
 .rw[aD (c2 M.pH)];exact cQ.cP
 .obtain⟨c,az,aB⟩:=e;exact⟨c,by rw[aD (eB az)];exact az,by rw[aD (eB aB)];exact aB⟩
 .rw[aD (λz=>nb (by rw[z];exact D.Ia.2))];exact ax _ _ e
end
section
variable{P:cG}{w:bS}{K:aY}{mg:cw}{base:Heap}
inductive Mc(aJ C bw aO gP jg:Addr)(vs:aW)(H:ae)(Q:a')(E:bX):Prop where
 |mk (a7:ae) (x:Addr) (A:cL) (hs:bF) (ds:ck) (s:ct) (h g:Str) (i:Int) (bM:vs=[.ref x,.str h,.str g,.int i]) (bu:ew aJ C bw aO a7 H x A hs ds s) (bW:Good hs) (cW:A.rs.length<=40) (dD:∀H,dH H (.str h) (.str h)) (eS:∀H,dH H (.str g) (.str g)) (hB:s.kvs.length<sizeLine)
   (lN:hJ (bl hs) (.str h) (.str g)=true->i∈ja hs ds (·.a) h->∀H',hZ (A.b0 x) (A.b0 x) H H'->ew aJ C bw aO a7 H' x A hs ds (Xn s h g i)->Q .bc H') (nT:hJ (bl hs) (.str h) (.str g)=false->∀H',aH H H'->E (.ref gP) none H') (sh:hJ (bl hs) (.str h) (.str g)=true->i∉ja hs ds (·.a) h->∀H',aH H H'->E (.ref jg) none H')
noncomputable abbrev GA:Stmt:=fT (top 54) 3
theorem ait:c3 nh nh (cn GA):={}
theorem ahl(F:cC K "set_way" "Day.set_way" GA f fd)(cg:oH K aJ)(kd:eh K bw)(qi:cS K bw "set_way" "Ways.set_way" Ek nh f1 dJ)(z3:aS P w K mg base (f9 P w) 3 f1 dJ nh (My bw aO gP jg)):
  aS P w K mg base (f9 P w) 4 f fd nh (Mc aJ C bw aO gP jg):=by
 refine pE F ait (λ_ sk _ s0 H vs Q E ao h=>?_)
 .obtain⟨a7,x,A,hs,ds,s,h',g',i,rfl,D,G,c6,pJ,ea,lz,q,Qz,ape⟩:=h;refine⟨_,(bb (gK (fx (ed (U 0) (by rfl)) kd qi.d1 z3 ao.mono qi.bd .nil rF (aj (U 1) (aj (U 2) (aj (U 3) aE)))))),?_⟩;obtain⟨iJ,cM⟩:=D.q1;exact⟨_,rfl,x,aJ,_,_,_,rfl,D.ins,cg.cl,cg.gZ,rfl,A.y,iJ,_,rfl,cM,rfl,_,rfl,_,rfl,_,rfl,A.y,A.n,A.t,A.bL,A.br,hs,A.rs,ds,s.kvs,h',g',i,rfl,D.Sb,G,D.oB.same D.b4,c6,pJ _,ea _,lz,λu m H' ax=>q u m _ (D.IT ax _).2 (D.IT ax _).1,Qz,ape⟩
inductive Gk(aJ C bw aO gP:Addr)(vs:aW)(H:ae)(Q:a')(E:bX):Prop where
 |mk (a7:ae) (x:Addr) (A:cL) (hs:bF) (ds:ck) (s:ct) (h g:Str) (bM:vs=[.ref x,.str h,.str g]) (bu:ew aJ C bw aO a7 H x A hs ds s) (bW:Good hs) (dD:∀H,dH H (.str h) (.str h)) (eS:∀H,dH H (.str g) (.str g))
   (lN:hJ (bl hs) (.str h) (.str g)=true->∀H',hZ (A.b0 x) (A.b0 x) H H'->ew aJ C bw aO a7 H' x A hs ds (WW s h g)->Q .bc H') (nT:hJ (bl hs) (.str h) (.str g)=false->∀H',aH H H'->E (.ref gP) none H')
noncomputable abbrev GB:Stmt:=fT (top 54) 4
theorem aiK:c3 gk gk (cn GB):={}
theorem ahm(F:cC K "drop_way" "Day.drop_way" GB f fd)(cg:oH K aJ)(kd:eh K bw)(xi:cS K bw "drop_way" "Ways.drop_way" I' gk f1 dJ)(aqh:aS P w K mg base (f9 P w) 3 f1 dJ gk (Xm bw aO gP)):
  aS P w K mg base (f9 P w) 4 f fd gk (Gk aJ C bw aO gP):=by
 refine pE F aiK (λ_ sk _ s0 H vs Q E ao h=>?_)
 .obtain⟨a7,x,A,hs,ds,s,h',g',rfl,D,G,pJ,ea,q,Qz⟩:=h;refine⟨_,(bb (gK (fx (ed (U 0) (by rfl)) kd xi.d1 aqh ao.mono xi.bd .nil rF (aj (U 1) (aj (U 2) aE))))),?_⟩;obtain⟨iJ,cM⟩:=D.q1;exact⟨_,rfl,x,aJ,_,_,_,rfl,D.ins,cg.cl,cg.gZ,rfl,A.y,iJ,_,rfl,cM,rfl,_,rfl,_,rfl,A.y,A.n,A.t,A.bL,A.br,hs,_,s.kvs,h',g',rfl,D.Sb,G,pJ _,ea _,λu H' ax=>q u _ (D.IT ax _).2 (D.IT ax _).1,Qz⟩
inductive GC(aJ C bw aO jg:Addr)(vs:aW)(H:ae)(Q:a')(E:bX):Prop where
 |mk (a7:ae) (x:Addr) (A:cL) (hs:bF) (ds:ck) (s:ct) (i:Int) (bM:vs=[.ref x,.int i]) (bu:ew aJ C bw aO a7 H x A hs ds s) (bW:0<=i/\i<ds.length->Q .bc H) (cW:¬(0<=i/\i<ds.length)->∀H',aH H H'->E (.ref jg) none H')
noncomputable abbrev Ej:Stmt:=fT (top 54) 11
theorem ajy:c3 dg dg (cn Ej):={}
theorem aiL(F:cC K "need_road" "Day.need_road" Ej f fd)(cg:oH K aJ)(gz:eh K aO)(lZ:cS K aO "road" "Net.road" yn dg f1 dJ)(DO:aS P w K mg base (f9 P w) 1 f1 dJ dg (UR aO jg)):
  aS P w K mg base (f9 P w) 2 f fd dg (GC aJ C bw aO jg):=by
 refine pE F ajy (λ_ sk _ s0 H vs Q E ao h=>?_)
 .obtain⟨a7,x,A,hs,ds,s,i,rfl,D,q,hU⟩:=h;refine⟨_,(bb (gK (fx (ed (U 0) (by rfl)) gz lZ.d1 DO ao.mono lZ.bd .nil rF (aj (U 1) aE)))),?_⟩;have ie:=D.ie.same D.b4;obtain⟨h6,aM⟩:=ie.ins;have az:((aG A.rs).length:Int)=ds.length:=by rw[d6,D.oB.len]
  refine⟨_,rfl,x,aJ,_,_,_,rfl,D.ins,cg.cl,cg.nn,rfl,A.n,h6,_,rfl,aM,rfl,_,rfl,A.n,A.bL,A.br,_,_,i,rfl,ie,λak=>?_,λak=>hU (λz=>ak (by rw[az];exact z)) H (aH.refl _)⟩;rw[az]at ak;obtain⟨v,bj⟩:∃v,ar.gn (aG A.rs) i=some v:=by
   have ai:i.toNat < (aG A.rs).length:=by omega
   refine⟨(aG A.rs)[i.toNat],?_⟩;have:=il (xs:=aG A.rs) (cF ai)
   rwa [ug ak.1]at this
  exact⟨v,bj,q ak⟩
inductive BB(aJ C bw aO jg:Addr)(up:ct->Nat->ct)(vs:aW)(H:ae)(Q:a')(E:bX):Prop where
 |mk (a7:ae) (x:Addr) (A:cL) (hs:bF) (ds:ck) (s:ct) (i:Int) (bM:vs=[.ref x,.int i]) (bu:ew aJ C bw aO a7 H x A hs ds s) (dD:s.eD.length<=900) (bW:∀r:Nat,i=r->r<ds.length->∀H',hZ (A.b0 x) (A.b0 x) H H'->ew aJ C bw aO a7 H' x A hs ds (up s r)->Q .bc H') (cW:¬(0<=i/\i<ds.length)->∀H',aH H H'->E (.ref jg) none H')
noncomputable abbrev FU:Stmt:=fT (top 54) 5
theorem ahn:c3 oV oV (cn FU):={}
theorem af7(F:cC K "shut" "Day.shut" FU f fd)(cg:oH K aJ)(qg:cS K aJ "need_road" "Day.need_road" Ej dg f1 dJ)(Pn:aS P w K mg base (f9 P w) 2 f1 dJ dg (GC aJ C bw aO jg)):
  aS P w K mg base (f9 P w) 3 f fd oV (BB aJ C bw aO jg FT):=by
 have fR:=cg.cl;refine pE F ahn (λ_ sk _ s0 H vs Q E ao h=>?_)
 .obtain⟨a7,x,A,hs,ds,s,i,rfl,D,anI,q,hU⟩:=h;refine⟨_,(a_ (gK (fx (U 0) fR qg.d1 Pn ao.mono qg.bd .nil rF (aj (U 1) aE)))
   (bb (A3 (iO ao) (ed (U 0) (by rfl)) (U 1) iq rfl))),?_⟩
  refine⟨_,rfl,x,A.af,_,rfl,D.ins,rfl,_,rfl,a7,x,A,hs,ds,s,i,rfl,D,λak=>?_,hU⟩;obtain⟨r,rfl⟩:∃r:Nat,i=(r:Int):=⟨i.toNat,by omega⟩
  have ei:=D.Å (aH.refl H) (v5 s.eD r);rw[<-TV]at ei;exact⟨_,rfl,x,aJ,_,_,_,rfl,D.ins,cg.cl,cg.vJ,rfl,_,rfl,A.b5,_,rfl,pM.k (k:=e9 (r:Int)) D.b5 (fF (by unfold fw;rw[bk];omega)),q r rfl (by omega) _ ei.2 ei.1⟩
noncomputable abbrev GD:Stmt:=fT (top 54) 6
theorem aiM:c3 oV oV (cn GD):={}
theorem aho(F:cC K "reopen" "Day.reopen" GD f fd)(cg:oH K aJ)(qg:cS K aJ "need_road" "Day.need_road" Ej dg f1 dJ)(Pn:aS P w K mg base (f9 P w) 2 f1 dJ dg (GC aJ C bw aO jg)):
  aS P w K mg base (f9 P w) 3 f fd oV (BB aJ C bw aO jg AY):=by
 have fR:=cg.cl;refine pE F aiM (λ_ sk _ s0 H vs Q E ao h=>?_)
 .obtain⟨a7,x,A,hs,ds,s,i,rfl,D,anI,q,hU⟩:=h;refine⟨_,(a_ (gK (fx (U 0) fR qg.d1 Pn ao.mono qg.bd .nil rF (aj (U 1) aE)))
   (bb (gK (Tu (ed (U 0) (by rfl)) (U 1) hL ⟨rfl,rfl,rfl,rfl⟩)))),?_⟩
  refine⟨_,rfl,x,A.af,_,rfl,D.ins,rfl,_,rfl,a7,x,A,hs,ds,s,i,rfl,D,λak=>?_,hU⟩;obtain⟨r,rfl⟩:∃r:Nat,i=(r:Int):=⟨i.toNat,by omega⟩
  have ei:=D.Å (aH.refl H) (s.eD.filter λk=>decide (k≠r));rw[<-ĸ]at ei;refine⟨_,rfl,x,aJ,_,_,_,rfl,D.ins,cg.cl,cg.vJ,rfl,A.b5,rfl,.inl ⟨_,.inl D.b5⟩,_,rfl,_,e9 (r:Int),D.b5,rfl,λv ev=>q r rfl (by omega) _ ei.2 ei.1,λev=>?_⟩;refine q r rfl (by omega) H (hZ.refl (aH.refl _)) ?_;have e:AY s r=s:=by unfold AY;rw[Ĺ _ _ ev]
  rw[e];exact D
inductive FV(aJ C bw aO:Addr)(vs:aW)(H:ae)(Q:a')(E:bX):Prop where
 |mk (a7:ae) (x:Addr) (A:cL) (hs:bF) (ds:ck) (s:ct) (bM:vs=[.ref x]) (bu:ew aJ C bw aO a7 H x A hs ds s) (bW:∀l,H l=none->Q (.ref l) (upd H l (.lst (aG A.eH))))
noncomputable abbrev CE:Stmt:=fT (top 54) 8
theorem aiN:c3 eA eA (cn CE):={}
theorem ah2(F:cC K "log" "Day.log" CE f fd)(B:fk mg)(cg:oH K aJ):aS P w K mg base bh 1 f fd eA (FV aJ C bw aO):=by
 refine F.ok aiN (λ_ A _ s H vs Q E ao h=>?_)
 .obtain⟨a7,x,A,hs,ds,s,rfl,D,q⟩:=h;refine⟨_,(bb (cp (n9 u0 (by rfl) B.list qC (aj (ed (U 0) (by rfl)) aE)))),?_⟩;exact⟨_,rfl,x,aJ,_,_,_,rfl,D.ins,cg.cl,cg.ns,rfl,A.cP,_,rfl,.inl (aC.of D.cP),q⟩
inductive i8 where
 |m6 (r:Nat)
 |m5 (r:Nat)
 |drop (h g:Str)
 |set (h g:Str) (r:Nat)
noncomputable def i8.act(s:ct):i8->ct
 |.m6 r=>FT s r
 |.m5 r=>AY s r
 |.drop h g=>WW s h g
 |.set h g r=>Xn s h g (r:Int)
inductive yp(H:ae)(l:Addr):i8->Prop
 |m6 {r:Nat}:H l=some (.lst [.str "shut",.int (r:Int),.bc])->yp H l (.m6 r)
 |m5 {r:Nat}:H l=some (.lst [.str "reopen",.int (r:Int),.bc])->yp H l (.m5 r)
 |drop {h g:Str} {c:Addr}:H l=some (.lst [.str "way",.ref c,.bc,.bc])->H c=some (.tup [.str h,.str g])->yp H l (.drop h g)
 |set {h g:Str} {r:Nat} {c:Addr}:H l=some (.lst [.str "way",.ref c,.int (r:Int),.bc])->H c=some (.tup [.str h,.str g])->yp H l (.set h g r)
inductive rM(hs:bF)(ds:ck):i8->Prop
 |m6 {r:Nat}:r<ds.length->rM hs ds (.m6 r)
 |m5 {r:Nat}:r<ds.length->rM hs ds (.m5 r)
 |drop {h g:Str}:h∈hs.map S->g∈hs.map S->h≠g->rM hs ds (.drop h g)
 |set {h g:Str} {r:Nat}:h∈hs.map S->g∈hs.map S->h≠g->r<ds.length->oG hs ds r=h->rM hs ds (.set h g r)
theorem BC{hs:bF}(G:Good hs){c:Str}(h:c∈hs.map S):dH H (.str c) (.str c):=by obtain⟨x,av,rfl⟩:=b7.mp h;have n:=G.nm x av;exact .str _ (by rw[BP];have:=n.2.1;omega) (Jo n)
end
theorem acU{hs:bF}{h g:Str}(x1:h∈hs.map S)(mg:g∈hs.map S)(ne:h≠g):hJ (bl hs) (.str h) (.str g)=true:=by
 obtain⟨u,b_,rfl⟩:=b7.mp x1;obtain⟨v,bj,rfl⟩:=b7.mp mg;obtain⟨i,ak,rfl⟩:=mr b_;obtain⟨j,bg,rfl⟩:=mr bj;have az:hs.getD i []=hs[i]:=by rw[eF,cF ak];rfl
 have aB:hs.getD j []=hs[j]:=by rw[eF,cF bg];rfl
 have a:=Ku ak;have b:=Ku bg;rw[az]at a;rw[aB]at b;show(inD _ _&&inD _ _&&!hn _ _)=true;rw[a,b,UX,dn ne];rfl
theorem E1{α:Type}(f:α->ar.V){L:List α}(h:0<L.length)(z:Int):∃y,ar.gn (L.map f) (z%((L.map f).length:Int))=some (f y)/\L[(z%(L.length:Int)).toNat]?=some y:=by
 have AE:(L.map f).length=L.length:=bk _;rw[AE];have h0:0<=z%(L.length:Int):=lQ _ (by omega);have ag:z%(L.length:Int)<(L.length:Int):=p1 _ (by omega);have cz:(z%(L.length:Int)).toNat < L.length:=by omega
 refine⟨L[(z%(L.length:Int)).toNat],?_,cF cz⟩;have e:=il (show(L.map f)[(z%(L.length:Int)).toNat]?=some (f L[(z%(L.length:Int)).toNat]) by rw[cx,cF cz];rfl)
 rwa [ug h0]at e
theorem Wx{x c m:Int}(h0:0<c)(ag:c<m):(x+c)%m≠x%m:=λh=>by have e:=Int.sub_emod (x+c) x m;rw[h,Int.sub_self,Int.zero_emod,show x+c-x=c by omega,Ug (by omega) ag]at e;omega
theorem hZ.new{M:cj}{H H':ae}(gf:hZ M wK H H'){l:Addr}(aoa:l∉M)(nl:H' l=none):H l=none:=by
 cases e:H l with
 |none=>rfl
 |some o=>rw[gf.keep l o aoa e]at nl;cases nl
section
variable{P:cG}{w:bS}{K:aY}{mg:cw}{base:Heap}
noncomputable abbrev I9:Stmt:=top 60
noncomputable abbrev an6:List Str:=["_law_day","_law_names","_law_lines","_law_n","_law_house","_law_goal","_law_road_here","_law_what","_law_mine"]
noncomputable abbrev IL:List Str:=["_law_day","_law_names","_law_lines","_law_n"]
theorem wt:c3 an6 IL (cn I9):={}
inductive MD(aJ C bw aO:Addr)(vs:aW)(H:ae)(Q:a')(E:bX):Prop where
 |mk (a7:ae) (x:Addr) (A:cL) (hs:bF) (ds:ck) (s:ct) (dz ei:Addr) (rs:cj) (n:Int) (bM:vs=[.ref x,.ref dz,.ref ei,.int n]) (bu:ew aJ C bw aO a7 H x A hs ds s) (bW:Good hs) (cW:2<=hs.length) (dD:1<=ds.length) (eS:A.rs.length<=40) (hB:s.kvs.length<=900) (lN:s.eD.length<=900) (nT:a7 dz=some (.lst (de hs))) (sh:a7 ei=some (.lst (aG rs))) (E5:hr a7 hs rs ds)
   (we:∀d H' l,rM hs ds d->hZ (A.b0 x) (A.b0 x) H H'->ew aJ C bw aO a7 H' x A hs ds (d.act s)->H l=none->l∉A.b0 x->yp H' l d->Q (.ref l) H')
seal gw bq gI g6
theorem aiO(F:cC K "_law_change" "_law_change" I9 f fd)(B:fk mg)(fR:eh K aJ)(xX:cS K aJ "shut" "Day.shut" FU oV f1 dJ)(aaL:aS P w K mg base (f9 P w) 3 f1 dJ oV (BB aJ C bw aO jg FT))(xO:cS K aJ "reopen" "Day.reopen" GD oV f2 eV)(Ŵ:aS P w K mg base (f9 P w) 3 f2 eV oV (BB aJ C bw aO jg AY))(xo:cS K aJ "drop_way" "Day.drop_way" GB gk cU h8)(aq2:aS P w K mg base (f9 P w) 4 cU h8 gk (Gk aJ C bw aO gP))(xu:cS K aJ "set_way" "Day.set_way" GA nh f4 qs)(aqU:aS P w K mg base (f9 P w) 4 f4 qs nh (Mc aJ C bw aO gP jg)):
  aS P w K mg base bh 5 f fd IL (MD aJ C bw aO):=by
 refine F.ok wt (λ_ sk _ s0 H vs Q E ao h=>?_)
 .obtain⟨a7,x,A,hs,ds,s,dz,ei,rs,n,rfl,D,G,ai,hK,c6,lz,sl,qz,z5,Rr,q⟩:=h;have Yw:rs.length<=40:=by have:=D.oB.len;have:=Rr.len;omega
  refine⟨_,(a_ (dI (i:=4) wt.aI rfl (o1 rfl) (bG e3 (U 1) (cq g_ (cq jO (U 3) aV) (dj fQ (by rfl) B.len fG (aj (U 1) aE))) (λ_ _=>rfl)))
   (a_ (dI (i:=5) wt.aI rfl (cR rfl) (bG e3 (U 1) (cq g_ (cq i1 (cq i1 (cq jO (U 3) aV) aV) (cq g_ (cq jO (U 3) aV) (cq rL (dj fQ (by rfl) B.len fG (aj (U 1) aE)) aV))) (dj fQ (by rfl) B.len fG (aj (U 1) aE))) (λ_ _=>rfl)))
   (a_ (dI (i:=6) wt.aI rfl (cR rfl) (cq g_ (cq jO (U 3) aV) (dj fQ (by rfl) B.len fG (aj (U 2) aE))))
   (a_ (dI (i:=7) wt.aI rfl (cR rfl) (cq g_ (cq jO (U 3) aV) aV))
   (a_ (dQ (ej jW (U 7) aV (dB _)) (bb (cp (h7 (aj g8 (aj (U 6) (aj (fx (U 0) fR xX.d1 aaL ao.mono xX.bd .nil yX (aj (U 6) aE)) aE)))))) dW)
   (a_ (dQ (ej jW (U 7) aV (dB _)) (bb (cp (h7 (aj g8 (aj (U 6) (aj (fx (U 0) fR xO.d1 Ŵ ao.mono xO.bd .nil yX (aj (U 6) aE)) aE)))))) dW)
   (a_ (qB (i:=8) wt.aI rfl rfl rfl (N':=["_law_k","_law_house","_law_lines"]) (cs:=[none,some 4,some 2]) rfl (tq rfl B.range (aj (dj fQ (by rfl) B.len fG (aj (U 2) aE)) aE)) rfl (by decide+kernel) rfl (by decide+kernel) (ju (kv.mpr ⟨rfl,(kv.mpr ⟨rfl,(λp aN=>bx aN (eo))⟩)⟩)) rfl
    (.own (.jk rfl (.inl rfl) (.inl rfl) rfl (.jk rfl (.inl rfl) (.inl rfl) rfl .nil)))
    (λC s3 aZ bR eC=>⟨(eu (i:=0) (by show(["_law_k","_law_house","_law_lines"]:cb).Nodup;decide+kernel) rfl (.inl rfl)),(A0 (ej jW (bG (tw (K:=K) rfl) (bG (Tn (K:=K) rfl) (U 2) (U 0) (λ_ _=>rfl)) aV (λ_ _=>rfl)) (U 1) (dB _))),(U 0)⟩))
   (a_ (dQ (h1.pt (lq (ej jW (U 7) aV (dB _)) (pw (ej (K1 ao.units) (U 8) (h7 aE) (dB _))))) (bb (cp (h7 (aj g8 (aj (kF (aj (U 4) (aj (U 5) aE))) (aj hL (aj (fx (U 0) fR xo.d1 aq2 ao.mono xo.bd .nil yX (aj (U 4) (aj (U 5) aE))) aE))))))) dW)
   (a_ (dI (i:=6) wt.aI rfl (cR rfl) (bG e3 (U 8) (cq g_ (cq jO (U 3) aV) (dj fQ (by rfl) B.len fG (aj (U 8) aE))) (λ_ _=>rfl)))
   (bb (cp (h7 (aj g8 (aj (kF (aj (U 4) (aj (U 5) aE))) (aj (U 6) (aj (fx (U 0) fR xu.d1 aqU ao.mono xu.bd .nil yX (aj (U 4) (aj (U 5) (aj (U 6) aE)))) aE)))))))))))))))),?_⟩
  try dsimp only[lD,lu]
  have aN:=D.b4 _ _ qz;have hd:=D.b4 _ _ z5;have dA:(de hs).length=hs.length:=by unfold de;rw[bk]
  obtain⟨u,MO,jo⟩:=E1 (λy=>V.str (S y)) (L:=hs) (by omega) (n/8);obtain⟨v,MP,ev⟩:=E1 (λy=>V.str (S y)) (L:=hs) (by omega) (n/8+1+n/96%((de hs).length-1));have b0:S u∈hs.map S:=b7.mpr ⟨u,dV jo,rfl⟩;have gf:S v∈hs.map S:=b7.mpr ⟨v,dV ev,rfl⟩;have ne:S u≠S v:=λz=>by have e:=FI z;subst e;obtain⟨ag,az⟩:=eb.mp jo;obtain⟨bK,cX⟩:=eb.mp ev;have:=(wC G.aI).mp (az.trans cX.symm);have h0:0<=n/96%((de hs).length-1:Int):=lQ _ (by omega);have dX:n/96%((de hs).length-1:Int)<((de hs).length-1:Int):=p1 _ (by omega);have a1:0<=n/8%(hs.length:Int):=lQ _ (by omega);have a2:0<=(n/8+1+n/96%((de hs).length-1))%(hs.length:Int):=lQ _ (by omega);have:=Wx (x:=n/8) (c:=1+n/96%((de hs).length-1)) (m:=hs.length) (by omega) (by omega);rw[<-aa5]at this;omega
  have un:=acU b0 gf ne;have pos:(0:Int)<((de hs).length:Int):=by omega
  have ao5:(0:Int)<((de hs).length:Int)-1:=by omega
  have fb:(aG rs).length=ds.length:=by rw[d6,Rr.len]
  have ao6:(0:Int)<((aG rs).length:Int):=by omega
  refine⟨_,rfl,_,rfl,_,_,rfl,rfl,⟨by decide,by decide⟩,_,rfl,dz,_,rfl,.inl (aC.of aN),_,_,rfl,rfl,pos,dz,_,_,_,rfl,rfl,aC.of aN,MO,?_⟩;refine⟨_,rfl,_,rfl,_,_,rfl,rfl,⟨by decide,by decide⟩,_,_,rfl,rfl,_,rfl,_,_,rfl,rfl,⟨by decide,by decide⟩,_,rfl,dz,_,rfl,.inl (aC.of aN),_,_,rfl,rfl,_,_,rfl,rfl,ao5,_,_,rfl,rfl,_,rfl,dz,_,rfl,.inl (aC.of aN),_,_,rfl,rfl,pos,dz,_,_,_,rfl,rfl,aC.of aN,MP,?_⟩;refine⟨_,rfl,_,_,rfl,rfl,⟨by decide,by decide⟩,_,rfl,ei,_,rfl,.inl (aC.of hd),_,_,rfl,rfl,ao6,?_⟩;have r0:0<=n/4096%((aG rs).length:Int):=lQ _ (by omega);have b3:n/4096%((aG rs).length:Int)<((aG rs).length:Int):=p1 _ (by omega);obtain⟨r,fh⟩:∃r:Nat,n/4096%((aG rs).length:Int)=(r:Int):=⟨_,(ug r0).symm⟩
  have Ð:r<ds.length:=by omega
  rw[fh];refine⟨_,rfl,_,_,rfl,rfl,⟨by decide,by decide⟩,_,_,rfl,rfl,(by show(0:Int)<6;decide),?_⟩;refine⟨_,rfl,rfl,_,rfl,sd (λ_=>?_) (λ_=>?_)⟩
  .refine⟨_,rfl,_,rfl,x,A.af,_,rfl,D.ins,rfl,_,rfl,a7,x,A,hs,ds,s,(r:Int),rfl,D,sl,λb9 e gX H' gf cQ=>⟨by show 3<=sizeLine;decide,λl nl=>?_⟩,λno=>bx ⟨by omega,by omega⟩ no⟩;have e:b9=r:=by omega
   subst e;have lm:=cQ.live nl;exact q (.m6 b9) _ l (.m6 gX) (gf.trans (hZ.refl (b8 nl))) (cQ.same (b8 nl)) (gf.new lm nl) lm (.m6 aQ)
  refine⟨_,rfl,rfl,_,rfl,sd (λ_=>?_) (λ_=>?_)⟩
  .refine⟨_,rfl,_,rfl,x,A.af,_,rfl,D.ins,rfl,_,rfl,a7,x,A,hs,ds,s,(r:Int),rfl,D,sl,λb9 e gX H' gf cQ=>⟨by show 3<=sizeLine;decide,λl nl=>?_⟩,λno=>bx ⟨by omega,by omega⟩ no⟩;have e:b9=r:=by omega
   subst e;have lm:=cQ.live nl;exact q (.m5 b9) _ l (.m5 gX) (gf.trans (hZ.refl (b8 nl))) (cQ.same (b8 nl)) (gf.new lm nl) lm (.m5 aQ)
  dsimp only[wa];refine AX ?_;have Y0:=Rr.same D.b4;have u9:=Y0.len;have item:∀(i:Nat)(v:ar.V),((dK (aG rs).length).map λi:Nat=>V.int ((0:Int)+(i:Int)))[i]?=some v->∃r d,v=.int ((0:Int)+(i:Int))/\rs[i]?=some r/\ds[i]?=some d/\H r=some (.tup (m4 hs d)):=λi v ev=>by rw[cx]at ev;obtain⟨j,dy,rfl⟩:=e0.mp ev;obtain⟨ak,e⟩:=eb.mp dy;rw[iD]at ak;rw[zh]at e;subst e;have fh:rs[i]?=some rs[i]:=cF (by omega);obtain⟨d,dp,_,hd⟩:=Y0.get fh;exact⟨_,d,rfl,fh,dp,hd⟩
  refine agT (J:=nd 0 (aG rs).length) (H1:=H) (xs:=(dK (aG rs).length).map λi:Nat=>V.int ((0:Int)+(i:Int))) (rest:=[some (.str (S u)),some (.ref ei)]) (λR h=>⟨_,rfl,ei,_,rfl,.inl (aC.of hd),_,rfl,(by show -(2 ^ 62)<=((aG rs).length:Int);omega),(by show((aG rs).length:Int)<2 ^ 62;omega),h⟩) rfl (D7 0 _) (fF (by rw[bk,iD];omega))
   (λv=>match v with|.int k=>decide (V.str (S (hs.getD (ds.getD k.toNat e6).a []))=V.str (S u))|_=>false) (λv=>v) (λi v ah R ev ax qv=>?_) (λi v ah R ev _ ax qv=>⟨_,rfl,qv ah (aH.refl _)⟩) (λQi Lc AH De Jr=>?_)
  .obtain⟨b9,d,rfl,ak6,dp,pd⟩:=item i v ev;have cD:ds.getD ((0:Int)+(i:Int)).toNat e6=d:=by rw[show((0:Int)+(i:Int)).toNat=i by omega];exact AV dp
   have YY:∀ba,aH ah ba->R (decide (V.str (S (hs.getD (ds.getD ((0:Int)+(i:Int)).toNat e6).a []))=V.str (S u))) ba:=qv;rw[cD]at YY;exact⟨_,rfl,_,rfl,ei,_,_,_,rfl,rfl,aC.of (ax _ _ hd),afE ak6,b9,_,_,_,rfl,rfl,bI.of (ax _ _ pd),rfl,_,rfl,rfl,_,rfl,YY ah (aH.refl _)⟩
  have alR:Lc Qi=some (.lst ((ja hs ds (·.a) (S u)).map V.int)):=by rw[De];congr 2;have:=aan (aG rs).length λi=>decide (V.str (S (hs.getD (ds.getD i e6).a []))=V.str (S u));rw[fb]at this⊢;exact this
  have apY:=Į hs ds (·.a) (S u);have ñ:∀k∈ja hs ds (·.a) (S u),∃n:Nat,k=(n:Int)/\n<ds.length/\oG hs ds n=S u:=λk aP=>by unfold ja EW at aP;obtain⟨n,aM,rfl⟩:=b7.mp aP;obtain⟨ag,ai⟩:=gj.mp aM;exact⟨n,rfl,j5.mp ag,V.str.inj (kL ai)⟩
  have Do:=D.same Jr;have A6:∀{ba:ae}{c:Addr},aH H ba->ba c=none->aH H (upd ba c (.tup [.str (S u),.str (S v)])):=λs5 ic=>s5.trans (b8 ic);have fin:∀{ba H':ae}{c l:Addr}{d:i8}{o:f_},aH H ba->ba c=none->hZ (A.b0 x) (A.b0 x) (upd ba c (.tup [.str (S u),.str (S v)])) H'->ew aJ C bw aO a7 H' x A hs ds (d.act s)->H' l=none->rM hs ds d->(upd H' l o c=some (.tup [.str (S u),.str (S v)])->yp (upd H' l o) l d)->Q (.ref l) (upd H' l o):=λ{ba H' c l d o}s5 ic tB cQ nl ok k=>by
   have i_:=A6 s5 ic;have lm:=cQ.live nl;have Θ:=tB.new lm nl;have aq:H' c=some (.tup [.str (S u),.str (S v)]):=tB.keep c _ (λz=>(D.same s5).live ic z) aQ;have DW:H l=none:=by
    cases e:H l with
    |none=>rfl
    |some o=>rw[i_ _ _ e]at Θ;cases Θ
   exact q d _ l ok ((hZ.refl i_).trans (tB.trans (hZ.refl (b8 nl)))) (cQ.same (b8 nl)) DW lm (k (by rw[aD (cA aq nl)];exact aq))
  have drop:∀(ba:ae)(c:Addr),aH H ba->ba c=none->∀L6:a',(∀H',(∀l,H' l=none->Q (.ref l) (upd H' l (.lst [.str "way",.ref c,.bc,.bc])))->L6 .bc H')->Gk aJ C bw aO gP [.ref x,.str (S u),.str (S v)] (upd ba c (.tup [.str (S u),.str (S v)])) L6 sz:=λba c s5 ic L6 k=>
   ⟨a7,x,A,hs,ds,s,S u,S v,rfl,D.same (A6 s5 ic),G,λ_=>BC G b0,λ_=>BC G gf,λ_ H' tB cQ=>k H' λl nl=>fin (d:=.drop (S u) (S v)) s5 ic tB cQ nl (.drop b0 gf ne) λaq=>.drop aQ aq,λno=>bx (un.symm.trans no) (by decide)⟩
  refine⟨_,rfl,rfl,_,rfl,?_⟩;refine sd (λ_=>?_) (λ_=>?_)
  .refine⟨_,rfl,_,rfl,(by show 2<=sizeLine;decide),λc ic=>?_⟩;exact⟨_,rfl,x,A.af,_,rfl,(D.same (A6 Jr ic)).ins,rfl,_,rfl,_,rfl,drop Lc c Jr ic _ λH' k=>⟨by show 4<=sizeLine;decide,k⟩⟩
  refine⟨_,rfl,eZ _,λl nl=>?_⟩;have kp:=b8 (o:=.lst []) nl;have mS:=kp _ _ alR;have et:=Jr.trans kp;refine⟨xQ (ja hs ds (·.a) (S u)),.list [],Kr (aC.of mS),.lst (aC.of aQ) .nil,tu (n:=1) (E' _) (Sy _) (by decide),rfl,_,rfl,?_⟩;generalize upd Lc l (.lst [])=Fu at mS et⊢;generalize G2:ja hs ds (·.a) (S u)=L at mS ñ apY⊢;have X':hn (xQ L) (.list [])=L.isEmpty:=by cases L<;>rfl
  by_cases gp:L=[]
  .refine eQ (by rw[X',gp];rfl) ?_;refine⟨_,rfl,_,rfl,(by show 2<=sizeLine;decide),λc ic=>?_⟩;exact⟨_,rfl,x,A.af,_,rfl,(D.same (A6 et ic)).ins,rfl,_,rfl,_,rfl,drop Fu c et ic _ λH' k=>⟨by show 4<=sizeLine;decide,k⟩⟩
  refine dw (by rw[X'];cases L with|nil=>exact bx rfl gp|cons x r=>rfl) ?_;have al2:0<L.length:=zi.mpr gp;have auM:(L.map V.int).length=L.length:=bk _;obtain⟨bP,akw,eU⟩:=E1 V.int (L:=L) al2 (n/4096);have vb:=dV eU;obtain⟨ς,rfl,OG,mT⟩:=ñ _ vb;have ao7:(0:Int)<((L.map V.int).length:Int):=by omega
  refine⟨_,rfl,_,rfl,_,_,rfl,rfl,⟨by decide,by decide⟩,_,rfl,Qi,_,rfl,.inl (aC.of mS),_,_,rfl,rfl,ao7,Qi,_,_,_,rfl,rfl,aC.of mS,akw,?_⟩;refine⟨_,rfl,_,rfl,(by show 2<=sizeLine;decide),λc ic=>?_⟩;exact⟨_,rfl,_,rfl,x,A.af,_,rfl,(D.same (A6 et ic)).ins,rfl,_,rfl,_,rfl,_,rfl,a7,x,A,hs,ds,s,S u,S v,(ς:Int),rfl,D.same (A6 et ic),G,c6,λ_=>BC G b0,λ_=>BC G gf,fF (by omega),λ_ _ H' tB cQ=>⟨by show 4<=sizeLine;decide,λl nl=>fin (d:=.set (S u) (S v) ς) et ic tB cQ nl (.set b0 gf ne OG mT) λaq=>.set aQ aq⟩,λno=>bx (un.symm.trans no) (by decide),λ_ no=>bx (by rw[G2];exact vb) no⟩
unseal gw bq gI g6
theorem aiP{hs:bF}{ds:ck}(R:∀d∈ds,d.Ok hs.length):∀e∈jP hs ds,1<=e.t:=λe he=>by obtain⟨d,hd,rfl⟩:=b7.mp he;exact(R d hd).t.1
theorem U1{hs:bF}{ds:ck}(R:∀d∈ds,d.Ok hs.length){h:Str}{v:Int}(bj:iS hs ds h g=some v)(aM:h≠g):
  ∃(k:Nat)(d:di.gJ)(u:Int),best hs ds h g=(k:Int)/\ds[k]?=some d/\S (hs.getD d.a [])=h/\iS hs ds (S (hs.getD d.b [])) g=some u/\(d.t:Int)+u=v:=by
 obtain⟨m,f⟩:=TH (aiP R) bj aM;obtain⟨i,ak⟩:=sF (b7.mpr ⟨_,m,rfl⟩:V.int (best hs ds h g)∈(ja hs ds (·.a) h).map V.int);obtain⟨k,d,az,aB,cX⟩:=TL ak;have uO:best hs ds h g=(k:Int):=V.int.inj az;rw[uO]at f;unfold uc uC JI at f;rw[kQ,AV aB]at f;cases b_:iS hs ds (S (hs.getD d.b [])) g with
 |none=>rw[b_]at f;cases f
 |some u=>
  rw[b_,bj]at f;have:=kL f;exact⟨k,d,u,uO,aB,cX,b_,gV this⟩
theorem UN{κ:Type}[DecidableEq κ]{kvs:List (κ×ar.V)}{k:κ}(h:cy kvs k=some v):k∈kvs.map (·.1):=by obtain⟨j,x,e⟩:=RS (show(cy kvs k).isSome=true by rw[h];rfl);exact b7.mpr ⟨_,dV e,rfl⟩
end
theorem pn.get{hs:bF}{kvs:en}(T:pn hs ds kvs){k:List bA}(e:cy kvs k=some v):∃h g,k=f7 h g/\h∈hs.map S/\g∈hs.map S/\h≠g/\(iS hs ds h g).isSome=true/\v=.int (best hs ds h g):=by
 obtain⟨h,g,rfl,x1,mg⟩:=T.k4.key k (UN e);by_cases m:h∈hs.map S/\h≠g/\(iS hs ds h g).isSome=true
 .have:=T.k4.yes h g m;rw[e]at this;exact⟨h,g,rfl,x1,mg,m.2.1,m.2.2,gV this⟩
 .rw[T.k4.no h g m]at e;cases e
theorem pn.ok{hs:bF}{ds:ck}{kvs:en}(T:pn hs ds kvs)(R:∀d∈ds,d.Ok hs.length):w1 kvs ds.length:=⟨λk v e=>by
 obtain⟨h,g,rfl,x1,mg,ne,is,rfl⟩:=T.get e;obtain⟨u,b_⟩:=sP.mp is;obtain⟨i,d,_,az,aB,_⟩:=U1 R b_ ne;exact⟨i,by rw[az],(eb.mp aB).1⟩⟩
noncomputable def v7(kvs:en):i8->en
 |.drop h g=>sg kvs (f7 h g)
 |.set h g r=>eN kvs (f7 h g) (.int (r:Int))
 |_=>kvs
noncomputable def FW(l:dN):i8->List Nat
 |.m6 r=>v5 l r
 |.m5 r=>l.filter λk=>decide (k≠r)
 |_=>l
noncomputable def AZ(hs:bF)(ds:ck)(kvs:en):Prop:=∀h g k,pD kvs h g=some k->oG hs ds k=h
theorem JF{κ:Type}[DecidableEq κ](k ef:κ):∀kvs:List (κ×ar.V),cy (sg kvs k) ef=if ef=k then none else cy kvs ef
 |[]=>by split<;>rfl
 |p::r=>by
  have a3:=JF k ef r;unfold sg at a3⊢;by_cases h:p.1=k
  .rw[List.filter_cons_of_neg (by simp[h]),a3];split
   .rfl
   .rename_i n;rw[ka (λz=>n (z.symm.trans h))]
  .rw[List.filter_cons_of_pos (by simp[h])];by_cases e:p.1=ef
   .rw[k9 e,bp (λz=>h (e.trans z)),k9 e]
   .rw[ka e,a3,ka e]
theorem KS(s:ct)(d:i8):(d.act s).kvs=v7 s.kvs d:=by cases d<;>rfl
theorem U2(s:ct)(d:i8):(d.act s).eD=FW s.eD d:=by cases d<;>rfl
theorem Wy(s:ct)(d:i8):(d.act s).pr=s.pr:=by cases d<;>rfl
theorem yd(s:ct)(d:i8):(d.act s).a6=s.a6:=by cases d<;>rfl
theorem J1(s:ct)(d:i8):(d.act s).ay=s.ay:=by cases d<;>rfl
theorem af8(s:ct)(d:i8):(d.act s).iw=s.iw:=by cases d<;>rfl
theorem w1.told{ds:ck}{kvs:en}(T:w1 kvs ds.length){d:i8}(O:rM hs ds d):w1 (v7 kvs d) ds.length:=⟨λk v e=>by
 cases O with
 |m6 _=>exact T.val k v e
 |m5 _=>exact T.val k v e
 |drop _ _ _=>
  have e:cy (sg kvs _) k=some v:=e;rw[JF]at e;split at e
  .cases e
  .exact T.val k v e
 |set _ _ _ ao _=>
  have e:cy (eN kvs _ _) k=some v:=e;rw[rG]at e;split at e
  .cases e;exact⟨_,rfl,ao⟩
  .exact T.val k v e⟩
theorem aaf{kvs:en}(B:AZ hs ds kvs){d:i8}(O:rM hs ds d):AZ hs ds (v7 kvs d):=λh' g' k e=>by
 cases O with
 |m6 _=>exact B h' g' k e
 |m5 _=>exact B h' g' k e
 |@drop h g _ _ _=>
  by_cases z:f7 h' g'=f7 h g
  .unfold v7 pD at e;rw[JF,bB z]at e;cases e
  .refine B h' g' k ?_;rw[<-e];unfold v7 pD;rw[JF,bp z]
 |@set h g r _ _ _ ao aa=>
  by_cases z:f7 h' g'=f7 h g
  .unfold v7 pD at e;rw[rG,bB z]at e;have e:some ((r:Int).toNat)=some k:=e;rw[kQ]at e;cases e;rw[aa,(Bl z).1]
  .refine B h' g' k ?_;rw[<-e];unfold v7 pD;rw[rG,bp z]
theorem Wz{κ:Type}[DecidableEq κ](kvs:List (κ×ar.V))(k:κ)(v:ar.V):(eN kvs k v).length<=kvs.length+1:=by
 unfold eN;split
 .rw[bk];omega
 .rw[hD];exact bU _
theorem aeJ(kvs:en)(d:i8):(v7 kvs d).length<=kvs.length+1:=by
 cases d with
 |m6 r=>exact oY _
 |m5 r=>exact oY _
 |drop h g=>exact eP (nf _ _) (oY _)
 |set h g r=>exact Wz _ _ _
theorem aeK(l:dN)(d:i8):(FW l d).length<=l.length+1:=by
 cases d with
 |m6 r=>
  show(v5 l r).length<=_;unfold v5;split
  .omega
  .simp
 |m5 r=>exact eP (nf _ _) (oY _)
 |drop h g=>exact oY _
 |set h g r=>exact oY _
theorem hR.act{k:Nat}{s:ct}(O:hR hs ds k s){d:i8}(y6:rM hs ds d):hR hs ds k (d.act s):=by
 have t:=O.tab.told y6;rw[<-KS]at t;refine⟨?_,?_,O.CY,?_,t,?_,?_,?_,?_⟩
 .rw[J1,yd];exact O.len
 .rw[yd];exact O.ou
 .rw[yd];exact O.lets
 .rw[J1];exact O.ne
 .rw[J1];exact O.ry
 .rw[J1];exact O.c6
 .rw[af8];exact O.yx
theorem oj.act{s:ct}(P:oj hs s)(d:i8):oj hs (d.act s):=by
 refine⟨?_,?_,?_⟩
 .rw[yd];exact P.is
 .rw[yd];exact P.lo
 .rw[yd,Wy];exact P.ak
theorem pn.uC{hs:bF}{ds:ck}{kvs:en}(T:pn hs ds kvs)(R:∀d∈ds,d.Ok hs.length):AZ hs ds kvs:=λh g k e=>by
 unfold pD at e;split at e
 .rename_i i bj;obtain⟨h',g',eU,x1,mg,ne,is,ev⟩:=T.get bj;obtain⟨rfl,rfl⟩:=Bl eU;cases ev;obtain⟨u,b_⟩:=sP.mp is;obtain⟨i,d,_,e5,eT,ji,_⟩:=U1 R b_ ne;rw[e5,kQ]at e;cases e;unfold oG;rw[lx eT];exact ji
 .cases e
section
variable{P:cG}{w:bS}{K:aY}{mg:cw}{base:Heap}
noncomputable def zB(s:Step)(y h:Str)(t:Int):Bool:=decide (s.gq≠y)&&(decide (s.gq=h)&&decide (s.due<=t))
inductive WA(C:Addr)(vs:aW)(H:ae)(Q:a')(el:bX):Prop where
 |mk (x n g st:Addr) (bT:cb) (ls:cj) (ay:eK) (k:Nat) (ss:List Step) (s:Step) (y h:Str) (t:Int) (bM:vs=[.ref x,.int k,.str h,.int t]) (bu:WalkAt C H x n g st bT ls ay) (bW:ay[k]?=some (ss++[s])) (cW:bT[k]?=some y) (dD:Q (.aA (zB s y h t)) H)
noncomputable abbrev FX:Stmt:=fT (top 27) 7
theorem ah3:c3 zl zl (cn FX):={}
theorem af9(F:cC K "can_leave" "Walk.can_leave" FX f fd)(c0:pC K C)(mI:cS K C "last_house" "Walk.last_house" Bj dg f1 dJ)(C_:aS P w K mg base bh 1 f1 dJ dg (JW C))(mG:cS K C "last_turn" "Walk.last_turn" Bk dg f2 eV)(Dc:aS P w K mg base bh 1 f2 eV dg (JX C))(qf:cS K C "home_turn" "Walk.home_turn" EV dg cU h8)(Pa:aS P w K mg base bh 2 cU h8 dg (Kw C)):aS P w K mg base bh 3 f fd zl (WA C):=by
 have gc:=c0.cl;refine F.ok ah3 (λ_ A _ s H vs Q E ao h=>?_)
 .obtain⟨x,n,g,st,bT,ls,ay,k,ss,s',y,h',t,rfl,W,es,da,q⟩:=h;obtain⟨af,av⟩:=W.ins;refine⟨_,(bb (cp (hM (ke E7 (fx (U 0) gc qf.d1 Pa ao.mono qf.bd .nil cm (aj (U 1) aE)) hL (dB _)) (hM (ke jW (fx (U 0) gc mI.d1 C_ ao.mono mI.bd .nil cm (aj (U 1) aE)) (U 2) (dB _)) (l5 (ke kG (fx (U 0) gc mG.d1 Dc ao.mono mG.bd .nil cm (aj (U 1) aE)) (U 3) (dB _))))))),?_⟩;refine⟨_,rfl,x,af,_,rfl,av,rfl,_,rfl,x,n,g,st,bT,ls,ay,k,ss,s',y,rfl,W,es,da,rfl,_,rfl,?_⟩;unfold zB at q;by_cases ag:s'.gq=y
  .have e:decide (yU s' y=ar.V.bc)=false:=by unfold yU;rw[bB ag];exact dn (by intro z;cases z)
   rw[dn (λz=>z ag),Ky]at q;exact dw e q
  .have e:decide (yU s' y=ar.V.bc)=true:=by unfold yU;rw[bp ag];exact cT rfl
   rw[cT ag,BK]at q;refine eQ e ⟨_,rfl,x,af,_,rfl,av,rfl,_,rfl,x,n,g,st,bT,ls,ay,k,ss,s',rfl,W,es,_,rfl,rfl,_,rfl,?_⟩;by_cases ai:s'.gq=h'
   .rw[cT ai,BK]at q;exact eQ (cT (ht V.str ai)) ⟨_,rfl,x,af,_,rfl,av,rfl,_,rfl,x,n,g,st,bT,ls,ay,k,ss,s',rfl,W,es,_,rfl,_,_,rfl,rfl,q⟩
   .rw[dn ai,Ky]at q;exact dw (dn λz=>ai (V.str.inj z)) q
noncomputable abbrev Fl:Stmt:=top 28
theorem aga:c3 hY hY (cn Fl):={}
inductive U4(vs:aW)(H:ae)(Q:a')(el:bX):Prop where
 |mk (a:Addr) (b:eO×List Nat) (bM:vs=[.ref a]) (bu:i7 H a b) (bW:b.2≠[]) (cW:b.2.length<=100) (dD:∀H',aH H H'->Q (.aA true) H')
theorem aeL(F:cC K "is_bag" "is_bag" Fl f fd)(B:fk mg)(h3:cY K mg "is_whole" yl hY f1 dJ)(rr:aS P w K mg base bh 1 f1 dJ hY Ki)(j':cY K mg "is_tuple_of" ym p4 f2 eV)(uR:aS P w K mg base bh 1 f2 eV p4 Kj):aS P w K mg base bh 2 f fd hY U4:=by
 refine F.ok aga (λ_ A _ s H vs Q E ao h=>?_)
 .obtain⟨a,b,rfl,⟨c,ag,ai⟩,ne,c6,q⟩:=h;refine⟨_,(bb (cp (hM (ec uR ao.mono (by rfl) j'.at_ j'.fn.cI j'.bd .nil cm (aj (U 0) (aj aV aE))) (hM (ec rr ao.mono (by rfl) h3.at_ h3.fn.cI h3.bd .nil cm (aj (bG c1 (U 0) aV (λ_ _=>rfl)) aE)) (hM (ec rr ao.mono (by rfl) h3.at_ h3.fn.cI h3.bd .nil cm (aj (bG c1 (U 0) aV (λ_ _=>rfl)) aE)) (hM (dj oc (by rfl) B.isinstance jJ (aj (bG c1 (U 0) aV (λ_ _=>rfl)) (aj (nC (by rfl) B.tuple AI) aE))) (hM (ke qM (dj fQ (by rfl) B.len fG (aj (bG c1 (U 0) aV (λ_ _=>rfl)) aE)) aV (dB _)) (l5 (dj (D9 rfl) (by rfl) B.CS EF (aj (rQ (N':=["number"]) (cs:=[none]) rfl (EH (bG c1 (U 0) aV (λ_ _=>rfl))) rfl (by decide+kernel) rfl (by decide+kernel) (ju (λp aN=>bx aN (eo))) rfl
    (.own .nil)
    (λC s3 aZ bR eC=>⟨(eu (i:=0) (by show(["number"]:cb).Nodup;decide+kernel) rfl (.inl rfl)),mX,(ec rr ao.mono (by rfl) h3.at_ h3.fn.cI h3.bd .nil cm (aj (U 0) aE))⟩)) aE)))))))))),?_⟩
  have t1:=bI.of (K:=K) ag;have dU:=bI.of (K:=K) ai;refine⟨_,rfl,a,_,3,rfl,ag,rfl,_,rfl,gD ?_⟩;refine⟨_,rfl,a,_,_,_,rfl,rfl,t1,rfl,b.1.1,rfl,_,rfl,gD ?_⟩;refine⟨_,rfl,a,_,_,_,rfl,rfl,t1,rfl,b.1.2,rfl,_,rfl,gD ?_⟩;refine⟨_,rfl,a,_,_,_,rfl,rfl,t1,rfl,?_⟩;refine⟨_,_,_,_,_,rfl,⟨rfl,.tup ai,Bh _ _⟩,_,rfl,gD ?_⟩;have pos:0<b.2.length:=zi.mpr ne;refine⟨_,rfl,a,_,_,_,rfl,rfl,t1,rfl,c,_,rfl,.inr dU,_,_,rfl,rfl,_,rfl,eQ (cT (by rw[bk];omega)) ?_⟩;dsimp only[qV,pB];refine Kv (J:=ui K c) (H1:=H) (xs:=b.2.map λn:Nat=>V.int n) (rest:=[]) (λR h=>⟨_,rfl,a,_,_,_,rfl,rfl,t1,rfl,c,rfl,⟨_,dU⟩,h⟩) rfl (Wn dU λH' ax=>bI.of (ax _ _ ai)) (fF (by rw[bk];omega)) (λ_=>.aA true) (λi v ah R ev ax k=>?_) (λD ah kJ bl r1=>?_)
  .rw[cx]at ev;obtain⟨j,dy,rfl⟩:=e0.mp ev;exact⟨_,rfl,j,rfl,k ah (aH.refl _)⟩
  .refine⟨D,(dK (b.2.map λn:Nat=>V.int n).length).map (λ_=>true),rfl,aC.of (by rw[bl,gU];rfl),?_⟩;refine rR ?_ (q _ r1);rw[ze];intro z hz;obtain⟨_,_,rfl⟩:=b7.mp hz;rfl
noncomputable abbrev GF:Stmt:=top 29
theorem FY:c3 ["numbers","bound","ahead","number"] Cf (cn GF):={}
inductive WX(vs:aW)(H:ae)(Q:a')(el:bX):Prop where
 |mk (c:Addr) (ns:dN) (m:Int) (bM:vs=[.ref c,.int m]) (bu:H c=some (.tup (ns.map λn:Nat=>V.int n))) (bW:ns.Pairwise (· < ·)) (cW:(∀n∈ns,(n:Int)<m)) (dD:Q (.aA true) H)
theorem ah4(F:cC K "are_rising_below" "are_rising_below" GF f fd):aS P w K mg base bh 1 f fd Cf WX:=by
 refine F.ok FY (λ_ A _ s H vs Q E ao h=>?_)
 .obtain⟨c,ns,m,rfl,aq,ao9,cz,q⟩:=h;refine⟨_,(a_ (dI (i:=2) FY.aI rfl (cR rfl) (BN EJ aV))
   (a_ (jR j6 rfl (EH (U 0)) (eu (i:=3) FY.aI rfl (cR rfl))
    (a_ (dQ (g9 (vz nH nH (U 2) (U 3) (U 1))) (bb (cp iq)) dW)
   (bb (dI (i:=2) FY.aI rfl (cR rfl) (U 3)))))
   (bb (cp iq)))),?_⟩
  refine⟨_,rfl,_,rfl,c,rfl,⟨_,bI.of aq⟩,?_⟩;refine Kc (K:=K) (a:=c) (xs:=ns.map λn:Nat=>V.int n) (λj σ dG=>∃(eG:Int)(v:kW),σ=[some (.ref c),some (.int m),some (.int eG),v]/\dG=H/\∀n,n∈ns.drop j->eG<n) ⟨-1,none,rfl,rfl,λn _=>by omega⟩ (λj σ dG _⟨_,_,_,h,_⟩=>h▸bI.of aq) ?_ ?_
  .rintro j z σ dG ee ⟨eG,v,rfl,rfl,aF⟩;rw[cx]at ee;obtain⟨n,jn,rfl⟩:=e0.mp ee;have bg:=(eb.mp jn).1;have cX:ns[j]=n:=by rw[cF bg]at jn;exact gV jn
   have G1:ns.drop j=n::ns.drop (j+1):=by rw[F5 bg,cX]
   have ag:=aF n (by rw[G1];exact .head _);have ai:=cz n (dV jn);refine⟨_,rfl,_,rfl,_,_,rfl,rfl,_,rfl,?_⟩;refine eQ (cT ag) ⟨_,rfl,_,_,rfl,rfl,_,rfl,?_⟩;refine yN ai ?_;refine⟨_,rfl,n,some (.int n),rfl,rfl,λk aP=>?_⟩;have À:(ns.drop j).Pairwise (· < ·):=ao9.sublist (abU _ _);rw[G1,Lx]at À;have:=À.1 k aP;omega
  .rintro σ dG ⟨eG,v,rfl,rfl,aF⟩;exact q
noncomputable def WY:Option eO->eO->Prop
 |none,_=>True
 |some a,k=>a.1<k.1\/(a.1=k.1/\a.2<k.2)
noncomputable def BF(H:ae)(v:ar.V):Option eO->Prop
 |none=>v=.bc
 |some k=>∃a ns,v=.ref a/\i7 H a (k,ns)
theorem BF.same{H:ae}(ax:aH H H'):∀{o:Option eO},BF H v o->BF H' v o
 |none,h=>h
 |some _,⟨a,ns,e,h⟩=>⟨a,ns,e,h.same ax⟩
structure BZ(hs:bF)(ds:ck)(bT:cb)(ay:eK)(eG:Option eO)(b:eO×List Nat):Prop where
 ne:b.2≠[]
 c6:b.2.length<=100
 ord:WY eG b.1
 rd:b.1.2<ds.length
 room:(b.2.length:Int)<=md ds b.1.2
 A5:b.2.Pairwise (· < ·)
 lt:∀i∈b.2,i<ay.length
 h5:∀i∈b.2,∃ss s y,ay[i]?=some (ss++[s])/\bT[i]?=some y/\zB s y (oG hs ds b.1.2) b.1.1=true
inductive WP(C aO:Addr)(vs:aW)(H:ae)(Q:a')(el:bX):Prop where
 |mk (x n g st bL br dS er:Addr) (bT:cb) (ls rs:cj) (ay:eK) (hs:bF) (ds:ck) (b:eO×List Nat) (mj:ar.V) (eG:Option eO) (ts:aW) (bM:vs=[.ref x,.ref n,.ref er,mj,.ref dS]) (bu:WalkAt C H x n g st bT ls ay) (bW:i6 aO H n bL br (de hs) (aG rs)) (cW:hr H hs rs ds) (dD:rs.length<=40) (eS:i7 H dS b) (hB:BF H mj eG) (lN:H er=some (.lst ts)) (nT:ts.length=ay.length) (sh:BZ hs ds bT ay eG b) (we:∀H',aH H H'->Q .bc H')
noncomputable abbrev GG:Stmt:=top 30
theorem L_:c3 ["walk","net","letters","ahead","thing","roads","road"] B' (cn GG):={}
theorem ah5(F:cC K "reason_against" "reason_against" GG f fd)(B:fk mg)(gc:eh K C)(gz:eh K aO)(vC:cY K mg "is_bag" Fl hY f1 dJ)(aeE:aS P w K mg base bh 2 f1 dJ hY U4)(uH:cY K mg "are_rising_below" GF Cf f2 eV)(apk:aS P w K mg base bh 1 f2 eV Cf WX)(qn:cS K aO "roads" "Net.roads" Ex eA cU h8)(Aq:aS P w K mg base bh 1 cU h8 eA (Sx aO))(xf:cS K C "can_leave" "Walk.can_leave" FX zl f4 qs)(ap8:aS P w K mg base bh 3 f4 qs zl (WA C)):
  aS P w K mg base bh 4 f fd B' (WP C aO):=by
 refine F.ok L_ (λ_ A _ s H vs Q E ao h=>?_)
 .obtain⟨x,n,g,st,bL,br,dS,er,bT,ls,rs,ay,hs,ds,b,mj,eG,ts,rfl,W,N,R,c6,mT,Dj,jU,dA,ok,q⟩:=h;refine⟨_,(a_ (dQ (g9 (ip (ec aeE ao.mono (by rfl) vC.at_ vC.fn.cI vC.bd .nil cm (aj (U 4) aE)))) (bb (cp g8)) dW)
   (a_ (dQ (h1.pt (Bn (ej JS (U 3) hL (dB _)) (Ew (ej (ahG (LF (iO ao))) (Ja Vq (U 4) Kd (Eg aV)) (Ja Vq (U 3) Kd (Eg aV)) (dB _))))) (bb (cp g8)) dW)
   (a_ (dI (i:=5) L_.aI rfl (cR rfl) (k8 (U 1) gz qn.d1 Aq ao.mono qn.bd .nil cm))
   (a_ (dQ (g9 (vz kG nH aV (bG c1 (U 4) aV (λ_ _=>rfl)) (dj fQ (by rfl) B.len fG (aj (U 5) aE)))) (bb (cp g8)) dW)
   (a_ (dI (i:=6) L_.aI rfl (o1 rfl) (bG e3 (U 5) (bG c1 (U 4) aV (λ_ _=>rfl)) (λ_ _=>rfl)))
   (a_ (dQ (ej qM (dj fQ (by rfl) B.len fG (aj (bG c1 (U 4) aV (λ_ _=>rfl)) aE)) (bG c1 (U 6) aV (λ_ _=>rfl)) (dB _)) (bb (cp g8)) dW)
   (a_ (dQ (g9 (ip (ec apk ao.mono (by rfl) uH.at_ uH.fn.cI uH.bd .nil cm (aj (bG c1 (U 4) aV (λ_ _=>rfl)) (aj (dj fQ (by rfl) B.len fG (aj (U 2) aE)) aE))))) (bb (cp g8)) dW)
   (a_ (dQ (g9 (ip (dj (D9 rfl) (by rfl) B.CS EF (aj (rQ (N':=["number","walk","road","thing"]) (cs:=[none,some 0,some 6,some 4]) rfl (EH (bG c1 (U 4) aV (λ_ _=>rfl))) rfl (by decide+kernel) rfl (by decide+kernel) (ju (kv.mpr ⟨rfl,(kv.mpr ⟨rfl,(kv.mpr ⟨rfl,(λp aN=>bx aN (eo))⟩)⟩)⟩)) rfl
    (.own (.jk rfl (.inl rfl) (.inl rfl) rfl (.jk rfl (.inl rfl) (.inl rfl) rfl (.jk rfl (.inl rfl) (.inl rfl) rfl .nil))))
    (λC s3 aZ bR eC=>⟨(eu (i:=0) (by show(["number","walk","road","thing"]:cb).Nodup;decide+kernel) rfl (.inl rfl)),mX,(fx (U 1) gc xf.d1 ap8 ao.mono xf.bd .nil cm (aj (U 0) (aj (bG (tw (K:=K) rfl) (U 2) aV (λ_ _=>rfl)) (aj (bG (tw (K:=K) rfl) (U 3) aV (λ_ _=>rfl)) aE))))⟩)) aE)))) (bb (cp g8)) dW)
   (bb (cp hL)))))))))),?_⟩
  try dsimp only[lD,lu]
  refine⟨_,rfl,dS,b,rfl,mT,ok.ne,ok.c6,λH1 s1=>⟨_,rfl,fI ?_⟩⟩;obtain⟨c,hP,fS⟩:=id mT;dsimp only[wa,iQ];refine Ux (t:=sb _ _ _) (λcQ=>∀ah,aH H ah->cQ.b1 [some (.ref x),some (.ref n),some (.ref er),some mj,some (.ref dS),none,none] ah) ?_ λcQ rest=>?_
  .intro ah s2;obtain⟨h6,aM⟩:=N.ins;refine⟨_,rfl,n,h6,_,rfl,s2 _ _ aM,rfl,n,bL,br,_,_,rfl,N.same s2,λl nl=>?_⟩;have s3:=s2.trans (b8 (o:=.lst (aG rs)) nl);have Ac:=aQ (H:=ah) (a:=l) (o:=.lst (aG rs));generalize upd ah l (.lst (aG rs))=aZ at s3 Ac⊢;have t1:=bI.of (K:=K) (s3 _ _ hP);have dU:=bI.of (K:=K) (s3 _ _ fS);have fb:=R.len;have rfl':=d6 rs;have l4:=ok.rd;refine⟨_,rfl,dS,_,_,_,rfl,rfl,t1,rfl,_,_,rfl,rfl,_,rfl,?_⟩;refine eQ (cT (by omega)) ⟨_,rfl,l,_,rfl,.inl (aC.of Ac),_,_,rfl,rfl,_,rfl,?_⟩;refine yN (by omega) ?_;obtain⟨r,fh⟩:∃r,rs[b.1.2]?=some r:=⟨_,cF (by omega)⟩
   obtain⟨d,dp,_,hd⟩:=R.get fh;have cD:ds.getD b.1.2 qS=d:=lx dp;have C2:m4 hs d=[.str (oG hs ds b.1.2),.str (q2 hs ds b.1.2),.int (tN ds b.1.2),.int (md ds b.1.2)]:=by unfold m4 oG q2 tN md;rw[cD]
   rw[C2]at hd;have ek:=bI.of (K:=K) (s3 _ _ hd);refine⟨_,rfl,_,rfl,dS,_,_,_,rfl,rfl,t1,rfl,l,_,_,_,rfl,rfl,aC.of Ac,(show ar.gn (aG rs) (b.1.2:Int)=some (.ref r)from il (by unfold aG;rw[cx,fh];rfl)),?_⟩;refine⟨_,rfl,dS,_,_,_,rfl,rfl,t1,rfl,c,_,rfl,.inr dU,_,rfl,r,_,_,_,rfl,rfl,ek,rfl,_,_,rfl,rfl,_,rfl,?_⟩;refine dw (dn (by rw[bk];have:=ok.room;omega)) ?_;refine⟨_,rfl,dS,_,_,_,rfl,rfl,t1,rfl,_,rfl,er,_,rfl,.inl (aC.of (s3 _ _ jU)),c,b.2,_,rfl,s3 _ _ fS,ok.A5,(λi ak=>by have:=ok.lt i ak;omega),_,rfl,fI ?_⟩;dsimp only[wa,iQ,sb,Xe,RC,qV,pB];have WT:=W.same s3;obtain⟨af,av⟩:=WT.ins;refine Kv (J:=ui K c) (H1:=aZ) (xs:=b.2.map λn:Nat=>V.int n) (rest:=[some (.ref x),some (.ref r),some (.ref dS)]) (λR h=>⟨_,rfl,dS,_,_,_,rfl,rfl,t1,rfl,c,rfl,⟨_,dU⟩,h⟩) rfl (Wn dU λH' ax=>bI.of (ax _ _ (s3 _ _ fS))) (fF (by rw[bk];have:=ok.c6;omega)) (λ_=>.aA true) (λi v dE Rr ev ax k=>?_) (λD dE kJ bl r1=>?_)
   .rw[cx]at ev;obtain⟨j,dy,rfl⟩:=e0.mp ev;obtain⟨ss,s',y,es,da,aq⟩:=ok.h5 j (dV dy);refine⟨_,rfl,x,af,_,rfl,ax _ _ av,rfl,_,rfl,_,rfl,r,_,_,_,rfl,rfl,bI.of (ax _ _ (s3 _ _ hd)),rfl,_,rfl,dS,_,_,_,rfl,rfl,bI.of (ax _ _ (s3 _ _ hP)),rfl,x,n,g,st,bT,ls,ay,j,ss,s',y,_,_,rfl,WT.same ax,es,da,?_⟩;rw[aq];exact k dE (aH.refl _)
   .refine⟨D,(dK (b.2.map λn:Nat=>V.int n).length).map (λ_=>true),rfl,aC.of (by rw[bl,gU];rfl),_,rfl,?_⟩;have a4:((dK (b.2.map λn:Nat=>V.int n).length).map (λ_=>true)).all id=true:=by rw[ze];intro z hz;obtain⟨_,_,rfl⟩:=b7.mp hz;rfl
    rw[a4];exact fI (q _ (s3.trans r1))
  .refine⟨_,rfl,rfl,_,rfl,?_⟩;cases eG with
   |none=>
    obtain rfl:mj=.bc:=Dj;exact dw rfl (rest H1 s1)
   |some k0=>
    obtain⟨a0,avr,rfl,zS,alO,auL⟩:=Dj;refine eQ rfl ⟨_,rfl,_,rfl,dS,_,rfl,bI.of (s1 _ _ hP),(by show¬((0:Nat)=0/\(2:Nat)=3);omega),λdz AM=>?_⟩;have s2:=s1.trans (b8 (o:=.tup [V.int b.1.1,V.int b.1.2]) AM);have qz:=aQ (H:=H1) (a:=dz) (o:=.tup [V.int b.1.1,V.int b.1.2]);refine⟨_,rfl,_,rfl,a0,_,rfl,bI.of (s2 _ _ alO),(by show¬((0:Nat)=0/\(2:Nat)=3);omega),λd_ x8=>?_⟩;have s3:=s2.trans (b8 (o:=.tup [V.int k0.1,V.int k0.2]) x8);refine⟨dz,d_,_,_,_,_,rfl,rfl,bI.of (b8 x8 _ _ qz),bI.of aQ,_,rfl,?_⟩;have avx:k0.1<b.1.1\/(k0.1=b.1.1/\k0.2<b.1.2):=ok.ord;refine dw ?_ (rest _ s3);show(if b.1.1=k0.1 then decide ((b.1.2:Int)<=(k0.2:Int))else decide (b.1.1<=k0.1))=false;split
    .exact dn (by omega)
    .exact dn (by omega)
inductive hH(hs:bF)(ds:ck)(bT:cb):List (List Step)->Option eO->List (eO×List Nat)->List (List Step)->Prop
 |nil {ay eG}:hH hs ds bT ay eG [] ay
 |cons {ay eG b bs fin} (ok:BZ hs ds bT ay eG b) (t:hH hs ds bT (jz (stepK hs ds b.1) b.2 ay) (some b.1) bs fin):hH hs ds bT ay eG (b::bs) fin
noncomputable def Xu(fj:cj)(fin:eK):Prop:=fj.length<=99\/∀ss∈fin,ss.length<=100
theorem hH.grow{ay:eK}{eG:Option eO}{bs:j7}{fin:eK}(w:hH hs ds bT ay eG bs fin):∀{i:Nat}{ss:List Step},ay[i]?=some ss->∃qU,fin[i]?=some qU/\ss.length<=qU.length:=by
 induction w with
 |nil=>intro i ss e;exact⟨ss,e,bU _⟩
 |cons ok t a3=>
  intro i ss e;obtain⟨qU,ag,ai⟩:=a3 (i:=i) (by rw[pb,e];rfl);refine⟨qU,ag,eP ?_ ai⟩;split
  .rw[hD];omega
  .exact bU _
inductive Wu(C aO:Addr)(vs:aW)(H:ae)(Q:a')(el:bX):Prop where
 |mk (n bL br er pp:Addr) (rs jX fj:cj) (iR:qd) (hs:bF) (ds:ck) (bs:j7) (fin:eK) (bM:vs=[.ref n,.ref er,.ref pp]) (bu:i6 aO H n bL br (de hs) (aG rs)) (bW:hr H hs rs ds) (cW:rs.length<=40) (dD:H er=some (.lst (aG jX))) (eS:fa H jX (iR.map lA)) (hB:jX.length<=100) (lN:H pp=some (.lst (aG fj))) (nT:bO (i7 H) fj bs) (sh:Xu fj fin) (we:hH hs ds (iR.map λd=>d.2.2) (iR.map jT) none bs fin) (E5:∀(H':ae)(x g st:Addr)(ls:cj),aH H H'->WalkAt C H' x n g st (iR.map λd=>d.2.2) ls fin->Q (.ref x) H')
noncomputable abbrev FZ:Stmt:=top 31
theorem yq:c3 ["net","letters","plan","walk","ahead","place","thing","reason"] Ce (cn FZ):={}
theorem af1(F:cC K "walk_of" "walk_of" FZ f fd)(B:fk mg)(c0:pC K C)(vH:mg "Walk"=some (.ref C))(uN:cY K mg "reason_against" GG B' f1 dJ)(ap9:aS P w K mg base bh 4 f1 dJ B' (WP C aO))(KN:p6 K C f2)(qo:lP K C "Walk.__init__" CD wH f2 eV)(QB:aS P w K mg base bh 2 f2 eV wH (L7 C))(qr:cS K C "send" "Walk.send" BU wJ cU h8)(QC:aS P w K mg base bh 2 cU h8 wJ (KZ C aO)):
  aS P w K mg base bh 5 f fd Ce (Wu C aO):=by
 have gc:=c0.cl;refine F.ok yq (λ_ A _ s H vs Q E ao h=>?_)
 .obtain⟨n,bL,br,er,pp,rs,jX,fj,iR,hs,ds,bs,fin,rfl,N,R,c6,jU,pK,Nv,tj,Hn,Nw,b2,q⟩:=h;refine⟨_,(a_ (dI (i:=3) yq.aI rfl (cR rfl) (vE KN QB ao.mono (by rfl) vH qo.bd .nil cm (aj (U 0) (aj (U 1) aE))))
   (a_ (dI (i:=4) yq.aI rfl (cR rfl) hL)
   (a_ (jR j6 rfl (JU rfl B.enumerate (aj (U 2) aE)) (EG rfl (mQ (eu (i:=5) yq.aI rfl (cR rfl)) (mQ (eu (i:=6) yq.aI rfl (cR rfl)) x')))
    (a_ (dI (i:=7) yq.aI rfl (cR rfl) (ec ap9 ao.mono (by rfl) uN.at_ uN.fn.cI uN.bd .nil cm (aj (U 3) (aj (U 0) (aj (U 1) (aj (U 4) (aj (U 6) aE)))))))
   (a_ (dQ (ej JS (U 7) hL (dB _)) (bb I_) dW)
   (a_ (gK (fx (U 3) gc qr.d1 QC ao.mono qr.bd .nil cm (aj (U 6) aE)))
   (bb (dI (i:=4) yq.aI rfl (cR rfl) (U 6)))))))
   (bb (cp (U 3)))))),?_⟩
  try dsimp only[lD,lu]
  refine⟨_,rfl,_,rfl,λx af b1 tD aI=>?_⟩;have mk:∀{b:Addr}{v:f_},H b=some v->upd (upd H af (.own x)) x (.ins C af []) b=some v:=λ{b v}e=>by rw[aD (cA e b1),aD (cA e tD)];exact e
  refine⟨x,af,n,er,jX,iR,rfl,aQ,mk jU,pK.same (λb v e=>mk e),Nv,λH1 g st hh b4 W hi nJ aoj fr aoo=>⟨rfl,?_⟩⟩;have s1:aH H H1:=RJ b1 tD b4;have YF:∀l∈hh,H l=none:=λl aw=>by
   cases e:H l with
   |none=>rfl
   |some o=>have:=(fr l aw).1;rw[mk e]at this;cases this
  obtain⟨a7,o'⟩:∃a7,a7=mask H1 hh:=⟨_,rfl⟩
  have Q2:aH a7 H1:=by rw[o'];exact Az _ _
  have yv:aH H a7:=λb o e=>by rw[o'];exact kc (s1 _ _ e) λaa=>by rw[YF b aa]at e;cases e
  have alA:∀l∈hh,a7 l=none:=λl aw=>by rw[o'];exact yb aw
  have Ě:x∉hh:=λaw=>by have:=(fr x aw).1;rw[aQ]at this;cases this
  have YI:g∉hh:=λaw=>(fr g aw).2.2 rfl;have sn:st∉hh:=λaw=>(fr st aw).2.1 rfl;have GO:yV C a7 x n g st (iR.map λd=>d.2.2) hh:=by obtain⟨iI,e⟩:=W.ins;rw[o'];exact⟨⟨iI,kc e Ě⟩,kc W.goals YI,kc W.steps sn⟩
  have γ:jX.length=iR.length:=by have:=pK.len;rw[bk]at this;exact this
  have ao0:=gW Hn;have dx:=W.each;clear W b4 mk b1 tD aI hi nJ fr aoo Ě YI sn YF o';refine⟨_,rfl,pp,rfl,⟨_,aC.of (s1 _ _ tj)⟩,?_⟩;refine Sl (K:=K) (a:=pp) (xs:=aG fj) (λj σ dG=>∃(mj:ar.V)(eG:Option eO)(ay:eK)(nP v6 t5:kW),σ=[some (.ref n),some (.ref er),some (.ref pp),some (.ref x),some mj,nP,v6,t5]/\aH a7 dG/\bO (g7 dG) hh ay/\BF a7 mj eG/\hH hs ds (iR.map λd=>d.2.2) ay eG (bs.drop j) fin/\ay.length=iR.length/\∀ss∈ay,ss.length<=j+1)
   ⟨.bc,none,iR.map jT,none,none,none,rfl,Q2,dx,rfl,b2,bk _,λss hs=>by obtain⟨d,_,rfl⟩:=b7.mp hs;exact bU _⟩ (λj σ dG⟨_,_,_,_,_,_,_,h,_⟩=>aC.of (h _ _ (yv _ _ tj))) ?_ ?_
  .rintro j z σ dG p ee ⟨mj,eG,ay,nP,v6,t5,rfl,g0,dy,Dj,Br,ln,s9⟩ np;unfold aG at ee;rw[cx]at ee;obtain⟨dS,xl,rfl⟩:=e0.mp ee;obtain⟨b,M_,mT⟩:=bO.get Hn xl;have anA:=(eb.mp xl).1;have Þ:=b8 (o:=.tup [V.int (j:Int),V.ref dS]) np;refine⟨p,_,rfl,bI.of aQ,rfl,?_⟩;have En:=g0.trans Þ;have Nc:=IX dy Þ;generalize upd dG p (.tup [V.int (j:Int),V.ref dS])=j4 at En Nc⊢;have G1:bs.drop j=b::bs.drop (j+1):=by have bg:=(eb.mp M_).1;rw[F5 bg];rw[cF bg]at M_;rw[gV M_]
   rw[G1]at Br;have aqp:=Br;cases Br with
   |cons ok tail=>
   have nb:=yv.trans En;refine⟨_,_,rfl,_,_,rfl,rfl,?_⟩;refine⟨_,rfl,_,rfl,_,rfl,_,rfl,_,rfl,x,n,g,st,bL,br,dS,er,_,hh,rs,ay,hs,ds,b,mj,eG,_,rfl,(GO.same En).at_ Nc,N.same nb,R.same nb,c6,mT.same nb,Dj.same En,nb _ _ jU,(by rw[d6,γ,ln]),ok,λarv sl=>?_⟩;refine⟨_,rfl,rfl,_,rfl,dw rfl ?_⟩;have Ù:=En.trans sl;obtain⟨iI,fB⟩:=GO.ins;refine⟨_,rfl,x,iI,_,rfl,Ù _ _ fB,rfl,_,rfl,a7,x,n,g,st,bL,br,dS,_,hh,rs,ay,hs,ds,b,rfl,Ù,GO,IX Nc sl,aoj,alA,N.same yv,R.same yv,mT.same yv,ok.rd,(ok.A5.imp λh=>dR h),ok.lt,(λss hb=>by
    rcases Nw with bR|bR
    .have:=s9 ss hb;omega
    .obtain⟨i,ak⟩:=sF hb;obtain⟨qU,ag,ai⟩:=aqp.grow ak;exact eP ai (bR qU (dV ag))),λaaQ ax em=>?_⟩
   refine⟨_,rfl,_,some b.1,_,_,_,_,rfl,ax,em,⟨dS,b.2,rfl,mT.same yv⟩,tail,by rw[qt];exact ln,λss hb=>?_⟩;obtain⟨i,ak,rfl⟩:=mr hb;have az:=pb (stepK hs ds b.1) b.2 ay i;rw[cF ak]at az;obtain⟨s0,aB,cX⟩:=e0.mp az.symm;have:=s9 s0 (dV aB);rw[<-cX];split
   .rw[hD];simp only[lR,B6];omega
   .omega
  .rintro σ dG ⟨mj,eG,ay,nP,v6,t5,rfl,g0,dy,Dj,Br,ln,s9⟩;rw[d6,ao0,List.drop_length]at Br;cases Br;exact⟨_,rfl,q dG x g st hh (yv.trans g0) ((GO.same g0).at_ dy)⟩
end
end df
namespace cH
open PySem PySem.Spec PyProof.Rows ar
section
variable{X:bo}
theorem D3:jV X (.builtin "isinstance") (λxs H Q=>∃x C t b,xs=[x,.ref C]/\ma X.K H x t/\jI X.K t (.ref C)=some b/\Q (.aA b) H):=by intro pins s σ H xs us Q I r h;obtain⟨x,C,t,b,rfl,ty,e,q⟩:=h;obtain⟨u,eJ,rfl,ez,hy⟩:=vals2 r;cases hy;exact Ľ I ez ty e λa5=>⟨.aA b,H,I.tok a5,rfl,q⟩
theorem jl{K:aY}(aq:zH K D=true)(dM:ri K (.ref D)=some (.type "type"))(hs:ho K (.ref C) (.ref D)=some b)(aM:(cu C==cu D)=true->b=true):
  jI K (.ref C) (.ref D)=some b:=by
 unfold jI;by_cases h:(cu C==cu D)=true
 .rw[bB h,aM h]
 .rw[bp h];unfold ad7;have ag:(Gi K D).isSome=true:=aq;have ai:(ri K (.ref D)==some (.type "type"))=true:=by rw[dM];decide
  show(if((Gi K D).isSome&&ri K (.ref D)==some (.type "type"))=true then _ else _)=_;rw[ag,ai];exact(bB rfl).trans hs
structure Lh(K:aY)(C:Addr):Prop where
 cl:eh K C
 aF:cJ K (.ref C) "__class__"=some (some (.builtin "object.__class__"))
 aM:uw K (.builtin "object.__class__") "__get__"=some (some (.builtin "getset_descriptor.__get__"))
 dM:Cz K (.builtin "object.__class__")=some true
 hm:p_ K C (.type "object")=some true
theorem Lh.ty{K:aY}(i:Lh K C){H:ae}{fs:List (Str×V)}(e:H a=some (.ins C af fs)):ma K H (.ref a) (.ref C):=.ins e i.cl i.aF i.aM i.dM i.hm
structure LB(K:aY)(C:Addr):Prop where
 makes:zI K C=true
 init:cJ K (.ref C) "__init__"=some (some (.builtin "object.__init__"))
 cI:mw K (.ref C)=true
noncomputable def ah6(C:Addr):TE:=λ_ H Q=>∀x af,H x=none->H af=none->af≠x->Q (.ref x) (upd (upd H af (.own x)) x (.ins C af []))
theorem aaM{H:ae}{Q:a'}(M:LB X.K C)(I:Inv X pins σ H s)(h:∀x af,H x=none->H af=none->af≠x->Q (.ref x) (upd (upd H af (.own x)) x (.ins C af []))):
  aL (aX X.prog X.w) X.A (call (.ref C) []) (iC X pins σ Q) X.dZ s:=by
 have bH:=Inv.made (C:=C) I;have Y:=V8 (M:=aX X.prog X.w) I.eX M.makes;obtain⟨_,_,_,av,_⟩:=(show eI X.prog X.w _ _ _ (.ins C s.heap.objs.size [])from bH.bf (s.heap.objs.size+1) _ aQ)
 refine pQ (abw I.eX M.makes M.init (λself=>PySem.W.Looks.of_pure (PySem.W.oi_bind self)) ?_);have t1:n2 (aX X.prog X.w) ((s.heap.push p').push (rg C s.heap.objs.size)) (typeOf (.ref (s.heap.objs.size+1))) (.ref C):=(L1 av).andThen .now;have dU:n2 (aX X.prog X.w) ((s.heap.push p').push (rg C s.heap.objs.size)) (vi (.ref (s.heap.objs.size+1)) (.type "object")) true:=t1.andThen (Y.top.keeps λb o e=>dm _ (dm _ e));refine uK PySem.W.oi_plain PySem.W.entry_oi (@V4 (aX X.prog X.w) _ _ _ "object.__init__" "object" "__init__" (.ref (s.heap.objs.size+1)) [] [] _ PySem.W.oi_kind PySem.W.oi_split dU (PySem.W.oi_args (.ref (s.heap.objs.size+1))) ?_);rw[PySem.W.oi_run];exact aT (And.intro rfl ⟨V.ref (s.heap.objs.size+1),_,bH,rfl,h _ _ (I.bf.fresh (oY _)) (I.bf.fresh (bU _)) (dR (ur _))⟩)
theorem aeF(M:LB X.K C)(bE:jd X x)(hm:X.mg x=some (.ref C))(jx:(x==("__debug__":Str))=false:=by decide):bq X (.Call (.Name x p) [] [] pos) (ah6 C):=by intro pins s σ H Q I h;refine yR (vD I bE hm ?_ jx);exact ad3 I.eX M.cI (aaM M I h)
end
end cH
namespace df
open PySem ar cH di
noncomputable def Gn(i:Int):Prop:=0<=i/\i<10 ^ 12
noncomputable def Z9:Str:=e8 "not yet"
inductive XI(C:Addr)(a:Str)(vs:aW)(H:ae)(Q:a')(el:bX):Prop where
 |mk (x af:Addr) (u:ar.V) (bM:vs=[.ref x,u]) (bu:H x=some (.ins C af [])) (bW:Q .bc (upd H x (.ins C af [(a,u)])))
inductive Gy(C:Addr)(a b:Str)(vs:aW)(H:ae)(Q:a')(el:bX):Prop where
 |mk (x af:Addr) (u v:ar.V) (bM:vs=[.ref x,u,v]) (bu:H x=some (.ins C af [])) (bW:Q .bc (upd H x (.ins C af [(a,u),(b,v)])))
structure uj(K:aY)(S N A R H:Addr)(C:Addr)(j9 e5 eT ji:Bool):Prop where
 vj:Lh K C
 s:jI K (.ref C) (.ref S)=some true
 n:jI K (.ref C) (.ref N)=some j9
 a:jI K (.ref C) (.ref A)=some e5
 r:jI K (.ref C) (.ref R)=some eT
 h:jI K (.ref C) (.ref H)=some ji
section
variable{P:cG}{w:bS}{K:aY}{mg:cw}{base:Heap}
noncomputable abbrev Jc:Stmt:=fT (top 23) 0
noncomputable abbrev Jd:Stmt:=fT (top 24) 0
noncomputable abbrev Jb:Stmt:=fT (top 25) 0
theorem ajz:c3 zq zq (cn Jc):={}
theorem ai0(F:cC K "__init__" "AtHouse.__init__" Jc f fd)(cl:eh K C)(cE:cJ K (.ref C) "at"=some none)(c':cJ K (.ref C) "since"=some none):aS P w K mg base bh 1 f fd zq (Gy C "at" "since"):=by
 refine F.ok ajz (λ_ A _ s H vs Q E ao h=>?_)
 .obtain⟨x,af,u,v,rfl,av,q⟩:=h;refine⟨_,(a_ (jt (U 0) (U 1) rfl)
   (bb (jt (U 0) (U 2) rfl))),?_⟩
  refine⟨_,rfl,_,rfl,x,C,af,_,rfl,av,cl,cE,(by show 0<1000;decide),?_⟩;refine⟨_,rfl,_,rfl,x,C,af,_,rfl,aQ,cl,c',(by show 1<1000;decide),?_⟩;show Q .bc (upd (upd H x (.ins C af [("at",u)])) x (.ins C af [("at",u),("since",v)]));rw[Et];exact q
theorem ajA:c3 zt zt (cn Jd):={}
theorem ai1(F:cC K "__init__" "OnRoad.__init__" Jd f fd)(cl:eh K C)(cE:cJ K (.ref C) "by"=some none)(c':cJ K (.ref C) "due"=some none):aS P w K mg base bh 1 f fd zt (Gy C "by" "due"):=by
 refine F.ok ajA (λ_ A _ s H vs Q E ao h=>?_)
 .obtain⟨x,af,u,v,rfl,av,q⟩:=h;refine⟨_,(a_ (jt (U 0) (U 1) rfl)
   (bb (jt (U 0) (U 2) rfl))),?_⟩
  refine⟨_,rfl,_,rfl,x,C,af,_,rfl,av,cl,cE,(by show 0<1000;decide),?_⟩;refine⟨_,rfl,_,rfl,x,C,af,_,rfl,aQ,cl,c',(by show 1<1000;decide),?_⟩;show Q .bc (upd (upd H x (.ins C af [("by",u)])) x (.ins C af [("by",u),("due",v)]));rw[Et];exact q
theorem ajB:c3 zv zv (cn Jb):={}
theorem ai2(F:cC K "__init__" "AtHome.__init__" Jb f fd)(cl:eh K C)(cE:cJ K (.ref C) "since"=some none):aS P w K mg base bh 1 f fd zv (XI C "since"):=by
 refine F.ok ajB (λ_ A _ s H vs Q E ao h=>?_)
 .obtain⟨x,af,u,rfl,av,q⟩:=h;refine⟨_,(bb (jt (U 0) (U 1) rfl)),?_⟩;exact⟨_,rfl,_,rfl,x,C,af,_,rfl,av,cl,cE,(by show 0<1000;decide),q⟩
inductive mC where
 |gZ
 |at_ (h:Str) (t:Int)
 |on (r:Option Int) (t:Int)
 |hQ (t:Int)
structure mB where
 gZ:Addr
 at_:Addr
 on:Addr
 hQ:Addr
noncomputable def mY(S:mB)(H:ae)(v:ar.V):mC->Prop
 |.gZ=>∃x af,v=.ref x/\H x=some (.ins S.gZ af [])
 |.at_ h t=>∃x af,v=.ref x/\H x=some (.ins S.at_ af [("at",.str h),("since",.int t)])
 |.on r t=>∃x af,v=.ref x/\H x=some (.ins S.on af [("by",GV r),("due",.int t)])
 |.hQ t=>∃x af,v=.ref x/\H x=some (.ins S.hQ af [("since",.int t)])
theorem mY.same{S:mB}(ax:aH H H'):∀{s:mC},mY S H v s->mY S H' v s
 |.gZ,⟨x,af,e,h⟩=>⟨x,af,e,ax _ _ h⟩
 |.at_ _ _,⟨x,af,e,h⟩=>⟨x,af,e,ax _ _ h⟩
 |.on _ _,⟨x,af,e,h⟩=>⟨x,af,e,ax _ _ h⟩
 |.hQ _,⟨x,af,e,h⟩=>⟨x,af,e,ax _ _ h⟩
noncomputable def v8(s:Step)(y:Str)(t:Int):mC:=if t<s.due then .on s.MS s.due else if s.gq=y then .hQ s.due else .at_ s.gq s.due
noncomputable def spotOf(ss:List Step)(y:Str)(t:Int):mC:=match(ss.filter λs=>decide (s.left<=t)).getLast? with
 |none=>.gZ
 |some s=>v8 s y t
theorem mY.upd{S:mB}{H:ae}(bl:H D=some (.lst ys)):∀{s:mC},mY S H v s->mY S (upd H D (.lst zs)) v s
 |.gZ,⟨x,af,e,h⟩=>⟨x,af,e,by rw[aD (ar.gE h bl (by intro z;cases z))];exact h⟩
 |.at_ _ _,⟨x,af,e,h⟩=>⟨x,af,e,by rw[aD (ar.gE h bl (by intro z;cases z))];exact h⟩
 |.on _ _,⟨x,af,e,h⟩=>⟨x,af,e,by rw[aD (ar.gE h bl (by intro z;cases z))];exact h⟩
 |.hQ _,⟨x,af,e,h⟩=>⟨x,af,e,by rw[aD (ar.gE h bl (by intro z;cases z))];exact h⟩
theorem picked{ss:List Step}(bV:fa H ts (ss.map r3))(s0:Step)(q:Step->Bool):
  ∃us,((dK (aG ts).length).filter λi=>q (ss.getD i s0)).map (λi=>(aG ts).getD i .bc)=aG us/\fa H us ((ss.filter q).map r3):=by
 have dA:=bV.len;rw[bk]at dA;have fb:=d6 ts;have az:ss.filter q=((dK (aG ts).length).filter λi=>q (ss.getD i s0)).map λi=>ss.getD i s0:=by have:=ap7 q id s0 ss;rw[ab3]at this;rw[fb,dA,<-this];rfl
 refine⟨((dK (aG ts).length).filter λi=>q (ss.getD i s0)).map λi=>ts.getD i 0,?_,?_⟩
 .unfold aG;rw[gU];refine sI λi ak=>?_;have Zl:=j5.mp (gj.mp ak).1;rw[bk]at Zl;show((ts.map V.ref)[i]?).getD _=V.ref ((ts[i]?).getD 0);rw[cx,cF Zl];rfl
 .rw[az,gU];generalize av:(dK (aG ts).length).filter (λi=>q (ss.getD i s0))=idx;have all:∀i∈idx,i<ts.length:=λi ak=>by rw[<-av]at ak;have:=j5.mp (gj.mp ak).1;omega
  clear av az
  induction idx with
  |nil=>exact .nil
  |cons i r a3=>
   refine .cons ?_ (a3 λj bg=>all j (.tail _ bg));have ak:=all i (.head _);obtain⟨d,dp,hd⟩:=bO.get bV (cF ak);rw[cx]at dp;obtain⟨s',bJ,rfl⟩:=e0.mp dp;show H ((ts[i]?).getD 0)=some (.tup (r3 (ss.getD i s0)));rw[lx bJ,cF ak];exact hd
theorem acV{H:ae}{pre:List Step}{s:Step}(bV:fa H us ((pre++[s]).map r3)):∃ps u,us=ps++[u]/\H u=some (.tup (r3 s)):=by
 rcases Vd us with rfl|⟨ps,u,rfl⟩
 .have:=bV.len;simp at this
 .have l:=bV.len;rw[Vc]at *;refine⟨ps,u,rfl,?_⟩;obtain⟨d,dp,hd⟩:=bO.get bV (i:=ps.length) (x:=u) (by simp);have pl:ps.length=pre.length:=by simpa using l
  rw[pl,fm,sE (by rw[bk];omega)]at dp;simp at dp;rw[<-dp]at hd;exact hd
inductive Le(C:Addr)(S:mB)(vs:aW)(H:ae)(Q:a')(el:bX):Prop where
 |mk (x n g st:Addr) (bT:cb) (ls:cj) (ay:eK) (k:Nat) (ss:List Step) (y:Str) (t:Int) (bM:vs=[.ref x,.int k,.int t]) (bu:WalkAt C H x n g st bT ls ay) (bW:ay[k]?=some ss) (cW:ss.length<=100) (dD:bT[k]?=some y) (eS:∀v H',aH H H'->mY S H' v (spotOf ss y t)->Q v H')
noncomputable abbrev B0:Stmt:=fT (top 27) 8
theorem Lf:c3 ["self","number","turn","begun","last"] wI (cn B0):={}
theorem af2{S:mB}(F:cC K "spot_at" "Walk.spot_at" B0 f fd)(c0:pC K C)(vp:mg "NotYet"=some (.ref S.gZ))(vv:mg "AtHouse"=some (.ref S.at_))(vq:mg "OnRoad"=some (.ref S.on))(vr:mg "AtHome"=some (.ref S.hQ))(acO:LB K S.gZ)(aaX:p6 K S.at_ f1)(xp:lP K S.at_ "AtHouse.__init__" Jc zq f1 dJ)(aq3:aS P w K mg base bh 1 f1 dJ zq (Gy S.at_ "at" "since"))(acW:p6 K S.on f2)(xv:lP K S.on "OnRoad.__init__" Jd zt f2 eV)(aqV:aS P w K mg base bh 1 f2 eV zt (Gy S.on "by" "due"))(acu:p6 K S.hQ cU)(xw:lP K S.hQ "AtHome.__init__" Jb zv cU h8)(aqW:aS P w K mg base bh 1 cU h8 zv (XI S.hQ "since")):
  aS P w K mg base bh 3 f fd wI (Le C S):=by
 refine F.ok Lf (λ_ A _ s H vs Q E ao h=>?_)
 .obtain⟨x,n,g,st,bT,ls,ay,k,ss,y,t,rfl,W,es,c6,da,q⟩:=h;obtain⟨af,av⟩:=W.ins;refine⟨_,(a_ (qB (i:=3) Lf.aI rfl rfl rfl (N':=["step","turn"]) (cs:=[none,some 2]) rfl (kb (bG e3 (ed (U 0) (by rfl)) (U 1) (λ_ _=>rfl))) rfl (by decide+kernel) rfl (by decide+kernel) (ju (kv.mpr ⟨rfl,(λp aN=>bx aN (eo))⟩)) rfl
    (.own (.jk rfl (.inl rfl) (.inl rfl) rfl .nil))
    (λC s3 aZ bR eC=>⟨(eu (i:=0) (by show(["step","turn"]:cb).Nodup;decide+kernel) rfl (.inl rfl)),(A0 (ej kG (bG (tw (K:=K) rfl) (U 0) aV (λ_ _=>rfl)) (U 1) (dB _))),(U 0)⟩))
   (a_ (dQ (g9 (adg (U 3) (λ_=>rfl))) (bb (cp (aeF acO (by rfl) vp))) dW)
   (a_ (dI (i:=4) Lf.aI rfl (cR rfl) (bG e3 (U 3) (BN EJ aV) (λ_ _=>rfl)))
   (a_ (dQ (ej qM (bG c1 (U 4) aV (λ_ _=>rfl)) (U 2) (dB _)) (bb (cp (vE acW aqV ao.mono (by rfl) vq xv.bd .nil cm (aj (bG c1 (U 4) aV (λ_ _=>rfl)) (aj (bG c1 (U 4) aV (λ_ _=>rfl)) aE))))) dW)
   (a_ (dQ (ej jW (bG c1 (U 4) aV (λ_ _=>rfl)) (bG e3 (ed (U 0) (by rfl)) (U 1) (λ_ _=>rfl)) (dB _)) (bb (cp (vE acu aqW ao.mono (by rfl) vr xw.bd .nil cm (aj (bG c1 (U 4) aV (λ_ _=>rfl)) aE)))) dW)
   (bb (cp (vE aaX aq3 ao.mono (by rfl) vv xp.bd .nil cm (aj (bG c1 (U 4) aV (λ_ _=>rfl)) (aj (bG c1 (U 4) aV (λ_ _=>rfl)) aE)))))))))),?_⟩
  have ln:=gW W.each;have aP:=(eb.mp es).1;obtain⟨l,gQ⟩:∃l,ls[k]?=some l:=⟨_,cF (by omega)⟩
  obtain⟨ç,s6,ts,aw,bV⟩:=bO.get W.each gQ;rw[es]at s6;cases s6;have dA:=bV.len;rw[bk]at dA;have al:ar.gn (aG ls) (k:Int)=some (.ref l):=il (by unfold aG;rw[cx,gQ];rfl);have iK:=d6 ts
  let s0:Step:=⟨0,none,e8 "",0⟩
  dsimp only[iQ,so];refine Wo (J:=iW K l) (H1:=H) (xs:=aG ts) (rest:=[some (.int t)]) (λR h=>⟨_,rfl,x,C,af,_,_,rfl,av,c0.cl,c0.ns,rfl,_,rfl,st,_,_,_,rfl,rfl,aC.of W.steps,al,l,rfl,⟨_,aC.of aw⟩,h⟩) rfl (nA (aC.of aw)) (fF (by omega)) (λi=>decide ((ss.getD i s0).left<=t)) (λi=>(aG ts).getD i .bc) (λi v ah R ev ax k2=>?_) (λi v ah R ev aN ax k2=>?_) (λD ah kJ bl r1=>?_)
  .unfold aG at ev;rw[cx]at ev;obtain⟨r,fh,rfl⟩:=e0.mp ev;obtain⟨d,dp,hd⟩:=bO.get bV fh;rw[cx]at dp;obtain⟨s',bJ,rfl⟩:=e0.mp dp;have cD:ss.getD i s0=s':=lx bJ;rw[cD]at k2;exact⟨_,rfl,r,_,_,_,rfl,rfl,bI.of (ax _ _ hd),rfl,_,rfl,_,_,rfl,rfl,_,rfl,k2 ah (aH.refl _)⟩
  .refine⟨_,rfl,?_⟩;rw[lx ev]at k2;exact k2 ah (aH.refl _)
  .obtain⟨us,jo,mi⟩:=picked bV s0 (λs'=>decide (s'.left<=t));rw[jo]at bl;unfold spotOf at q;have μ:∀{gG iI:Addr}{o:f_},ah gG=none->ah iI=none->aH H (upd (upd ah iI (.own gG)) gG o):=λ{gG iI o}cE c' b v e=>by have aB:=r1 _ _ e;rw[aD (cA aB cE),aD (cA aB c')];exact aB
   have x2:∀{gG iI:Addr}{o tF:f_},ah gG=none->ah iI=none->aH H (upd (upd (upd ah iI (.own gG)) gG o) gG tF):=λ{gG iI o tF}cE c'=>by rw[Et];exact μ cE c'
   rcases Vd (ss.filter λs'=>decide (s'.left<=t))with e|⟨pre,s',e⟩
   .rw[e]at mi q;have ap6:us=[]:=by have:=mi.len;exact sH.mp this
    subst ap6;exact⟨_,rfl,false,.inl ⟨_,aC.of bl,rfl⟩,gD λgG iI cE c' _=>q _ _ (μ cE c') ⟨gG,iI,rfl,aQ⟩⟩
   .rw[Vc]at e;rw[e]at mi q;rw[Vh,abZ]at q;obtain⟨ps,u,rfl,b_⟩:=acV mi;have OW:=r1 _ _ b_;have yC:=bI.of (K:=K) OW;have DY:(aG (ps++[u])).isEmpty=false:=by unfold aG;rw[fm];cases ps<;>rfl
    have nG:ar.gn (aG (ps++[u])) (-1)=some (.ref u):=by unfold aG;rw[fm];exact RO
    refine⟨_,rfl,true,.inl ⟨_,aC.of bl,by rw[DY];rfl⟩,fI ?_⟩;refine⟨_,rfl,_,rfl,D,_,_,_,rfl,rfl,aC.of bl,nG,?_⟩;refine⟨_,rfl,u,_,_,_,rfl,rfl,yC,rfl,_,rfl,_,_,rfl,rfl,_,rfl,?_⟩;show(if decide (t<s'.due)=true then _ else _);change ∀v H',aH H H'->mY S H' v (v8 s' y t)->Q v H' at q;unfold v8 at q;by_cases ag:t<s'.due
    .rw[bB ag]at q;refine eQ (cT ag) ⟨_,rfl,u,_,_,_,rfl,rfl,yC,rfl,_,rfl,u,_,_,_,rfl,rfl,yC,rfl,λgG iI cE c' _=>⟨gG,iI,_,_,rfl,aQ,rfl,?_⟩⟩;exact q _ _ (x2 cE c') ⟨gG,iI,rfl,aQ⟩
    .rw[bp ag]at q;refine dw (dn ag) ?_;have MM:ar.gn (bT.map V.str) (k:Int)=some (.str y):=il (by rw[cx,da];rfl);refine⟨_,rfl,u,_,_,_,rfl,rfl,yC,rfl,_,rfl,x,C,af,_,_,rfl,r1 _ _ av,c0.cl,c0.hi,rfl,_,rfl,g,_,_,_,rfl,rfl,aC.of (r1 _ _ W.goals),MM,rfl,_,rfl,?_⟩;by_cases ai:s'.gq=y
     .rw[bB ai]at q;refine eQ (cT (ht V.str ai)) ⟨_,rfl,u,_,_,_,rfl,rfl,yC,rfl,λgG iI cE c' _=>⟨gG,iI,_,rfl,aQ,rfl,?_⟩⟩;exact q _ _ (x2 cE c') ⟨gG,iI,rfl,aQ⟩
     .rw[bp ai]at q;refine dw (dn λz=>ai (V.str.inj z)) ⟨_,rfl,u,_,_,_,rfl,rfl,yC,rfl,_,rfl,u,_,_,_,rfl,rfl,yC,rfl,λgG iI cE c' _=>⟨gG,iI,_,_,rfl,aQ,rfl,?_⟩⟩;exact q _ _ (x2 cE c') ⟨gG,iI,rfl,aQ⟩
noncomputable def oI(b:eO×List Nat):PyData:=.tuple [.int b.1.1,.int b.1.2,.tuple (b.2.map λn:Nat=>uu n)]
end
theorem TX{K:aY}:∀ns:List Nat,iT K H (lw ns) (ns.map λn:Nat=>uu n)
 |[]=>.nil
 |n::ns=>.cons (.int _) (TX ns)
theorem SI{K:aY}:∀{as:cj}{bs:j7},bO (i7 H) as bs->iT K H (aG as) (bs.map oI)
 |_,[],h=>by cases h;exact .nil
 |_,b::bs,h=>by
  cases h with
  |cons r t=>
   obtain⟨c,ag,ai⟩:=r;exact .cons (.tup (bI.of ag) (.cons (.int _) (.cons (.int _) (.cons (.tup (bI.of ai) (TX _)) .nil)))) (SI t)
theorem aeG(bs:j7):(p9 (bs.map oI)).canLay0=true:=oo λd hd=>by
 obtain⟨b,_,rfl⟩:=b7.mp hd;have:p8 (b.2.map λn:Nat=>uu n)=true:=oo λd hd=>by obtain⟨n,_,rfl⟩:=b7.mp hd;rfl
 unfold oI;simp only[wO,p8,ś,BK];exact this
theorem Gz{ds:gx}{n:Nat}(h:∀d∈ds,d.depth<=n):(PyData.tuple ds).depth<=n+1:=LH (IU h)
theorem af3(bs:j7):n3 (.list (bs.map oI))=true:=
 tu (aeG bs) (n:=4) (LR (n:=3) λd hd=>by
  obtain⟨b,_,rfl⟩:=b7.mp hd;unfold oI;refine Gz (n:=2) λd hd=>?_;simp only[dv,eo,or_false]at hd;rcases hd with rfl|rfl|rfl
  .exact eZ _
  .exact eZ _
  .exact Gz (n:=1) λd hd=>by
    obtain⟨n,_,rfl⟩:=b7.mp hd;exact eZ _) (by decide)
section
variable{hs:bF}{ds:ck}{bT:cb}{ay mid fin:eK}{eG:Option eO}{bs cs:j7}
theorem acv{st:Step}{ns:dN}{ay:eK}(h:∀i∈ns,i<ay.length)(x:List Step):jz st ns (ay++[x])=jz st ns ay++[x]:=by
 refine zf λi=>?_;rw[pb];rcases ac3 i ay.length with z|z|z
 .rw[wA z,wA (by rw[qt];exact z),pb]
 .subst z;have n:ay.length∉ns:=λy=>q_ _ (h _ y);rw[sE (bU _),sE (by rw[qt];exact bU _),qt,Gb];simp[n]
 .rw[sE (by omega),sE (by rw[qt];omega),qt,wB (by simp;omega)];rfl
theorem hH.more(w:hH hs ds bT ay eG bs fin)(g:Str)(x:List Step):hH hs ds (bT++[g]) (ay++[x]) eG bs (fin++[x]):=by
 induction w with
 |nil=>exact .nil
 |@cons ay eG b bs fin ok t a3=>
  have e:=acv (st:=stepK hs ds b.1) ok.lt x;rw[<-e]at a3;refine .cons ⟨ok.ne,ok.c6,ok.ord,ok.rd,ok.room,ok.A5,λi ak=>?_,λi ak=>?_⟩ a3
  .have:=ok.lt i ak;rw[hD];omega
  .obtain⟨ss,s,y,az,aB,cX⟩:=ok.h5 i ak;exact⟨ss,s,y,by rw[wA (eb.mp az).1];exact az,by rw[wA (eb.mp aB).1];exact aB,cX⟩
theorem hH.app(w:hH hs ds bT ay eG bs mid)(r:∀k,(∀ef,k=some ef->eG=some ef\/∃b∈bs,b.1=ef)->hH hs ds bT mid k cs fin):hH hs ds bT ay eG (bs++cs) fin:=by
 induction w with
 |@nil ay eG=>exact r eG λef e=>.inl e
 |@cons ay eG b bs mid ok t a3=>
  refine .cons ok (a3 λk aP=>r k λef e=>?_);rcases aP ef e with z|⟨br,dC,z⟩
  .cases z;exact .inr ⟨b,.head _,rfl⟩
  .exact .inr ⟨br,.tail _ dC,z⟩
theorem hH.at_(w:hH hs ds bT ay eG bs fin):∀{i:Nat}{b:eO×List Nat},bs[i]?=some b->∃k,BZ hs ds bT (kC hs ds (bs.take i) ay) k b/\(i=0->k=eG)/\∀j br,i=j+1->bs[j]?=some br->k=some br.1:=by
 induction w with
 |nil=>intro i b e;cases e
 |@cons ay eG j9 bs fin ok t a3=>
  intro i b e;cases i with
  |zero=>
   cases e;exact⟨eG,ok,λ_=>rfl,λj br e=>by cases e⟩
  |succ i=>
   obtain⟨k,o,DL,l⟩:=a3 (i:=i) (b:=b) e;refine⟨k,o,(λz=>by cases z),λj br dy dx=>?_⟩;have dy:j=i:=by omega
   subst dy;cases j with
   |zero=>
    cases dx;exact DL rfl
   |succ j=>exact l j br rfl dx
theorem hH.alw(w:hH hs ds bT ay eG bs fin):fin=kC hs ds bs ay:=by
 induction w with
 |nil=>rfl
 |cons ok t a3=>exact a3
end
structure mZ(hs:bF)(ds:ck)(dq:Int)(dT:en)(s:ct):Prop where
 b2:hH hs ds (d0 s.a6) (s.a6.map jT) none s.iw s.ay
 lo:∀b∈s.iw,dq<=b.1.1/\b.1.1<s.pr
 b5:∀b∈s.iw,cy dT (hT b.1)=none
 b1:∀k:eO,s.pr<=k.1->cy dT (hT k)=none
 lf:∀ss∈s.ay,∀st∈ss,st.left<=s.pr
 bR:dq<=s.pr
section
variable{hs:bF}{ds:ck}{dq:Int}{dT gh:en}{s:ct}{k:Nat}
theorem mZ.start{kvs:en}:mZ hs ds dq [] ⟨dq,[],[],[],kvs,[]⟩:=
 ⟨.nil,(λb h=>nomatch h),(λb h=>nomatch h),λk _=>rfl,(λb h=>nomatch h),oR _⟩
theorem mZ.post(L:mZ hs ds dq dT s)(h g:Str):mZ hs ds dq dT (BA s h g):=by
 refine⟨?_,L.lo,L.b5,L.b1,λss hb st iM=>?_,L.bR⟩
 .have az:d0 (s.a6++[(h,s.pr,g)])=d0 s.a6++[g]:=by unfold d0;rw[fm];rfl
  show hH hs ds (d0 (s.a6++[(h,s.pr,g)])) ((s.a6++[(h,s.pr,g)]).map jT) none s.iw (s.ay++[jT (h,s.pr,g)]);rw[az,fm];exact L.b2.more g _
 .rcases hl.mp hb with z|z
  .exact L.lf ss z st iM
  .rw[g5.mp z]at iM;rw[g5.mp iM];exact oR _
theorem mZ.act(L:mZ hs ds dq dT s)(d:i8):mZ hs ds dq dT (d.act s):=by
 cases d with
 |m6 r=>exact⟨L.b2,L.lo,L.b5,L.b1,L.lf,L.bR⟩
 |m5 r=>exact⟨L.b2,L.lo,L.b5,L.b1,L.lf,L.bR⟩
 |drop h g=>exact⟨L.b2,L.lo,L.b5,L.b1,L.lf,L.bR⟩
 |set h g r=>exact⟨L.b2,L.lo,L.b5,L.b1,L.lf,L.bR⟩
noncomputable def ME(ds:ck)(s:ct):List Nat:=(oq ds.length (su s.ay) (nK s.kvs (d0 s.a6) s.ay) s.pr ((la s).filter (mW s))).filter λr=>decide (r∉s.eD)
noncomputable def v9(ds:ck)(s:ct)(r:Nat):eO×List Nat:=l8 ds (su s.ay) (nK s.kvs (d0 s.a6) s.ay) s.pr ((la s).filter (mW s)) r
theorem TY:h_ ds s=(ME ds s).map (v9 ds s):=by unfold h_ ME rU;rw[zg];rfl
theorem aag{st:Step}{ns:dN}{n:Nat}(h:n∉ns):gT (jz st ns ay) n=gT ay n:=by
 unfold gT;rw[eF,pb,eF];cases ay[n]? with
 |none=>rfl
 |some ss=>simp[h]
theorem af4(R:∀d∈ds,d.Ok hs.length)(O:hR hs ds k s)(Kt:AZ hs ds s.kvs)(k0:Option eO)(amF:∀ef,k0=some ef->ef.1<s.pr):hH hs ds (d0 s.a6) s.ay k0 (h_ ds s) (kC hs ds (h_ ds s) s.ay):=by
 have Dd:((la s).filter (mW s)).Nodup:=(Lw.filter _).filter _;have NF:∀n∈(la s).filter (mW s),n<s.a6.length/\(gT s.ay n).gq≠i0 (d0 s.a6) n/\oG hs ds (nK s.kvs (d0 s.a6) s.ay n)=(gT s.ay n).gq:=λn aM=>by obtain⟨ag,ai⟩:=gj.mp aM;obtain⟨bK,c8⟩:=KO.mp ag;refine⟨bK,c8,?_⟩;unfold mW at ai;obtain⟨r,ao⟩:=sP.mp ai;have:=Kt _ _ _ ao;unfold nK;rw[ao];exact this
 have along:∀(fb:dN)(k:Option eO)(cur:eK),fb.Pairwise (· < ·)->(∀r∈fb,r∈ME ds s)->(∀ef,k=some ef->ef.1<s.pr\/(ef.1=s.pr/\∀r∈fb,ef.2<r))->cur.length=s.ay.length->(∀ss∈cur,ss≠[])->
   (∀n,(∃r∈fb,n∈(v9 ds s r).2)->gT cur n=gT s.ay n)->hH hs ds (d0 s.a6) cur k (fb.map (v9 ds s)) (kC hs ds (fb.map (v9 ds s)) cur):=by
  intro fb
  induction fb with
  |nil=>intro k cur _ _ _ _ _ _;exact .nil
  |cons r fb a3=>
   intro k cur up sub aP ln nn same;rw[Lx]at up;have ao:=(gj.mp (sub r (.head _))).1;have l4:r<ds.length/\fv (su s.ay) (nK s.kvs (d0 s.a6) s.ay) s.pr ((la s).filter (mW s)) r≠[]:=by unfold oq at ao;obtain⟨ag,ai⟩:=gj.mp ao;refine⟨j5.mp ag,λz=>?_⟩;rw[z]at ai;cases ai
   have tK:ds.getD r qS=ds[r]:=by rw[eF,cF l4.1];rfl
   have ib:1<=md ds r:=by unfold md;rw[tK];exact(R _ (sG l4.1)).m.1
   have nl:∀n∈(v9 ds s r).2,gT cur n=gT s.ay n:=λn aM=>same n ⟨r,.head _,aM⟩;have lt:∀n∈(v9 ds s r).2,n<cur.length:=λn aM=>by rw[ln,O.len];exact(NF n (vK aM).1).1
   refine .cons ⟨aht ib l4.2,?_,?_,l4.1,?_,TN (Kq Dd _),lt,λn aM=>?_⟩ (a3 (some (s.pr,r)) _ up.2 (λb9 gX=>sub b9 (.tail _ gX)) (λef e=>?_) ?_ ?_ (λn aM=>?_))
   .have ag:=AA (WE (ds:=ds) (due:=su s.ay) (rd:=nK s.kvs (d0 s.a6) s.ay) (T:=s.pr) Dd r) (λn aM=>(j5.mpr (NF n (vK aM).1).1:n∈dK s.a6.length));rw[iD]at ag;have:=O.ou;exact eP ag (by omega)
   .unfold WY;cases k with
    |none=>trivial
    |some ef=>
     rcases aP ef rfl with z|z
     .exact .inl z
     .exact .inr ⟨z.1,z.2 r (.head _)⟩
   .show(((v9 ds s r).2.length:Nat):Int)<=md ds r;unfold v9 l8 CF;rw[(Ap _).length_eq,bk,lS];omega
   .have bm:=vK aM;have g3:=NF n bm.1;have az:cur[n]?=some (cur.getD n []):=yc (lt n aM);obtain⟨i,d7⟩:=QJ (nn _ (dV az));refine⟨i,gT cur n,i0 (d0 s.a6) n,?_,Ez g3.1,?_⟩
    .rw[az];congr 1
    .rw[nl n aM];show zB (gT s.ay n) (i0 (d0 s.a6) n) (oG hs ds r) s.pr=true;have hd:(gT s.ay n).due<=s.pr:=bm.2.1;have aa:=g3.2.2;rw[bm.2.2]at aa;unfold zB;rw[aa];simp[g3.2.1,hd]
   .cases e;exact .inr ⟨rfl,λb9 gX=>up.1 b9 gX⟩
   .rw[qt];exact ln
   .intro ss hb;obtain⟨i,ak⟩:=sF hb;rw[pb]at ak;obtain⟨s0,cD,rfl⟩:=e0.mp ak;have:=nn s0 (dV cD);split
    .simp
    .exact this
   .obtain⟨b9,gX,oh⟩:=aM;rw[aag (λz=>?_)]
    .exact same n ⟨b9,.tail _ gX,oh⟩
    .have az:=(vK z).2.2;have aB:=(vK oh).2.2;have:=up.1 b9 gX;omega
 rw[TY];exact along _ k0 s.ay ((F_.filter _).filter _) (λr ao=>ao) (λef e=>.inl (amF ef e)) rfl O.ne (λn _=>rfl)
theorem mZ.pass(R:∀d∈ds,d.Ok hs.length)(O:hR hs ds k s)(Kt:AZ hs ds s.kvs)(L:mZ hs ds dq dT s)(old:∀q:eO,q.1≠s.pr->cy gh (hT q)=cy dT (hT q))(new:∀r:Nat,r∉s.eD->cy gh (hT (s.pr,r))=none):mZ hs ds dq gh (BY hs ds s):=by
 have nb:∀b∈h_ ds s,b.1.1=s.pr/\b.1.2∉s.eD:=λb aa=>by rw[TY]at aa;obtain⟨r,ao,rfl⟩:=b7.mp aa;exact⟨rfl,kL (gj.mp ao).2⟩
 refine⟨?_,λb aa=>?_,λb aa=>?_,λq a8=>?_,λss hb st iM=>?_,?_⟩
 .refine L.b2.app λef pf=>af4 R O Kt ef λanB e=>?_;rcases pf anB e with z|⟨b,aa,rfl⟩
  .cases z
  .exact(L.lo b aa).2
 .have bR:=L.bR;show dq<=b.1.1/\b.1.1<s.pr+1;rcases hl.mp aa with z|z
  .have:=L.lo b z;omega
  .have:=(nb b z).1;omega
 .rcases hl.mp aa with z|z
  .have:=L.lo b z;rw[old b.1 (by omega)];exact L.b5 b z
  .obtain⟨ag,ai⟩:=nb b z;have:=new b.1.2 ai;rw[<-ag]at this;exact this
 .have a8:s.pr+1<=q.1:=a8;rw[old q (by omega)];exact L.b1 q (by omega)
 .show st.left<=s.pr+1;obtain⟨i,ak⟩:=sF hb;have ak:(kC hs ds (h_ ds s) s.ay)[i]?=some ss:=ak;rw[JE]at ak;obtain⟨s0,cD,rfl⟩:=e0.mp ak;rcases hl.mp iM with z|z
  .have:=L.lf s0 (dV cD) st z;omega
  .obtain⟨b,aa,rfl⟩:=b7.mp z;have:=(nb b (gj.mp aa).1).1;show b.1.1<=s.pr+1;omega
 .have:=L.bR;show dq<=s.pr+1;omega
theorem mZ.ä(L:mZ hs ds dq dT s){ss:List Step}(h:ss∈s.ay)(ne:ss≠[])(y:Str):spotOf ss y s.pr=v8 (lB ss) y s.pr:=by
 have e:ss.filter (λst=>decide (st.left<=s.pr))=ss:=F7.mpr λst iM=>cT (L.lf ss h st iM);unfold spotOf;rw[e];obtain⟨i,d7⟩:=QJ ne;have:ss.getLast?=some (lB ss):=by rw[d7,Vh,abZ];rw[<-d7];rfl
 rw[this]
theorem ġ{α β:Type}{F:α->β->Prop}:∀{xs:List α}{ys:List β},xs.length=ys.length->(∀(i:Nat)(x:α)(y:β),xs[i]?=some x->ys[i]?=some y->F x y)->bO F xs ys
 |[],[],_,_=>.nil
 |x::xs,y::ys,e,h=>.cons (h 0 x y rfl rfl) (ġ (Nat.succ.inj e) λi a b a4 dx=>h (i+1) a b a4 dx)
 |[],_::_,e,_=>by cases e
 |_::_,[],e,_=>by cases e
end
theorem U5{H:ae}{g:Nat->List ar.V}:∀(vs:aW)(k:Nat),(∀i v,vs[i]?=some v->∃r,v=.ref r/\H r=some (.tup (g (k+i))))->∃rs,vs=aG rs/\fa H rs ((dK vs.length).map λi=>g (k+i))
 |[],_,_=>⟨[],rfl,.nil⟩
 |v::vs,k,h=>by
  obtain⟨r,rfl,ao⟩:=h 0 v rfl;obtain⟨rs,e,t⟩:=U5 (H:=H) (g:=g) vs (k+1) λi u jo=>by obtain⟨r,az,aB⟩:=h (i+1) u jo;exact⟨r,az,by rw[aB];congr 3;omega⟩
  refine⟨r::rs,by rw[e];rfl,?_⟩;rw[lR,ab8,hE,gU];refine .cons ao ?_;have:(dK vs.length).map ((λi=>g (k+i))∘Nat.succ)=(dK vs.length).map λi=>g (k+1+i):=sI λi _=>by show g (k+(i+1))=_;congr 1;omega
  rw[this];exact t
end df
namespace cH
open PySem PySem.Spec PyProof.Rows
open ar
theorem W2{X:bo}{t u:TE}(ag:bq X e t)(ai:bq X e u):bq X e (λσ H Q=>t σ H Q\/u σ H Q):=λpins s σ H Q I h=>h.elim (ag pins s σ H Q I) (ai pins s σ H Q I)
end cH
namespace df
open PySem ar cH di
noncomputable def tT:mC->List ar.V
 |.gZ=>[.str Z9]
 |.at_ h t=>[.str (e8 "at"),.str h,.int t]
 |.on r t=>[.str (e8 "on"),GV r,.int t]
 |.hQ t=>[.str (e8 "home"),.int t]
noncomputable def GU:Option Int->PyData
 |none=>.none
 |some i=>.int i
noncomputable def kO:mC->List PyData
 |.gZ=>[.str Z9]
 |.at_ h t=>[.str (e8 "at"),.str h,.int t]
 |.on r t=>[.str (e8 "on"),GU r,.int t]
 |.hQ t=>[.str (e8 "home"),.int t]
noncomputable def ajC:mC->Prop
 |.gZ=>True
 |.at_ h t=>(h.length<=8/\wO (.str h)=true)/\Gn t
 |.on r t=>∃i,r=some i/\Gn i/\Gn t
 |.hQ t=>Gn t
theorem KU{K:aY}{H:ae}:∀s:mC,iT K H (tT s) (kO s)
 |.gZ=>.cons (.str _) .nil
 |.at_ _ _=>.cons (.str _) (.cons (.str _) (.cons (.int _) .nil))
 |.on (some _) _=>.cons (.str _) (.cons (.int _) (.cons (.int _) .nil))
 |.on none _=>.cons (.str _) (.cons .bc (.cons (.int _) .nil))
 |.hQ _=>.cons (.str _) (.cons (.int _) .nil)
theorem ar5:∀{s:mC},ajC s->(p9 (kO s)).canLay0=true
 |.gZ,_=>by decide+kernel
 |.at_ _ _,h=>oo λd hd=>by
  simp only[kO,dv,eo,or_false]at hd;rcases hd with rfl|rfl|rfl
  .decide+kernel
  .exact h.1.2
  .rfl
 |.on (some _) _,_=>oo λd hd=>by
  simp only[kO,GU,dv,eo,or_false]at hd;rcases hd with rfl|rfl|rfl
  .decide+kernel
  .rfl
  .rfl
 |.on none _,h=>nomatch h
 |.hQ _,_=>oo λd hd=>by
  simp only[kO,dv,eo,or_false]at hd;rcases hd with rfl|rfl
  .decide+kernel
  .rfl
theorem ĺ:∀s:mC,(p9 (kO s)).depth<=1
 |.gZ=>bU _
 |.at_ _ _=>bU _
 |.on (some _) _=>bU _
 |.on none _=>bU _
 |.hQ _=>bU _
theorem JG{H H':ae}(s:aH H H')(e:H' p=none):H p=none:=by
 cases aB:H p with
 |none=>rfl
 |some o=>rw[s _ _ aB]at e;cases e
noncomputable def F0:ar.V->ar.V
 |.aA b=>.int (if b=true then 1 else 0)
 |v=>v
theorem J2{i:Nat}(e:[V.aA j9,V.aA e5,V.aA eT,V.aA ji][i]?=some y):∃b,y=V.aA b:=by have h:=dV e;simp only[dv,eo,or_false]at h;rcases h with h|h|h|h<;>exact⟨_,h⟩
structure ajD(K:aY)(y3:Addr)(S:mB):Prop where
 n:uj K y3 S.gZ S.at_ S.on S.hQ S.gZ true false false false
 a:uj K y3 S.gZ S.at_ S.on S.hQ S.at_ false true false false
 r:uj K y3 S.gZ S.at_ S.on S.hQ S.on false false true false
 h:uj K y3 S.gZ S.at_ S.on S.hQ S.hQ false false false true
section
variable{P:cG}{w:bS}{K:aY}{mg:cw}{base:Heap}
inductive Ma(S:mB)(vs:aW)(H:ae)(Q:a')(E:bX):Prop where
 |mk (v:ar.V) (s:mC) (bM:vs=[v]) (bu:mY S H v s) (bW:∀l H',H l=none->aH H H'->H' l=some (.lst (tT s))->Q (.ref l) H')
noncomputable abbrev B1:Stmt:=top 61
theorem Wv:c3 ["_law_spot","_law_kinds"] sL (cn B1):={}
theorem af5{S:mB}(F:cC K "_law_told" "_law_told" B1 f fd)(B:fk mg)(EA:mg "Spot"=some (.ref y3))(vp:mg "NotYet"=some (.ref S.gZ))(vv:mg "AtHouse"=some (.ref S.at_))(vq:mg "OnRoad"=some (.ref S.on))(vr:mg "AtHome"=some (.ref S.hQ))(hg:ajD K y3 S)(X1:eh K S.at_)(X2:eh K S.on)(akI:eh K S.hQ)(na:cJ K (.ref S.at_) "at"=some none)(aoL:cJ K (.ref S.at_) "since"=some none)(nb:cJ K (.ref S.on) "by"=some none)(aI:cJ K (.ref S.on) "due"=some none)(aoK:cJ K (.ref S.hQ) "since"=some none):
  aS P w K mg base bh 1 f fd sL (Ma S):=by
 refine F.ok Wv (λ_ A _ s H vs Q E ao h=>?_)
 .obtain⟨v,s',rfl,bj,q⟩:=h;refine⟨_,(a_ (dI (i:=1) Wv.aI rfl (cR rfl) (h7 (aj (dj D3 (by rfl) B.isinstance jJ (aj (U 0) (aj (Bq (by rfl) vp) aE))) (aj (dj D3 (by rfl) B.isinstance jJ (aj (U 0) (aj (Bq (by rfl) vv) aE))) (aj (dj D3 (by rfl) B.isinstance jJ (aj (U 0) (aj (Bq (by rfl) vq) aE))) (aj (dj D3 (by rfl) B.isinstance jJ (aj (U 0) (aj (Bq (by rfl) vr) aE))) aE))))))
   (a_ (dQ (h1.pt (lq (g9 (ip (dj D3 (by rfl) B.isinstance jJ (aj (U 0) (aj (Bq (by rfl) EA) aE))))) (pw (ej BD (dj (aet rfl) (by rfl) B.sum ahB (aj (rQ (N':=["_law_kind"]) (cs:=[none]) rfl (kb (U 1)) rfl (by decide+kernel) rfl (by decide+kernel) (ju (λp aN=>bx aN (eo))) rfl
    (.own .nil)
    (λC s3 aZ bR eC=>⟨(eu (i:=0) (by show(["_law_kind"]:cb).Nodup;decide+kernel) rfl (.inl rfl)),mX,(n9 Ļ (by rfl) B.int E9 (aj (U 0) aE))⟩)) aE)) aV (dB _))))) (bb (cp hL)) dW)
   (a_ (dQ (ip (bG e3 (U 1) aV (λ_ _=>rfl))) (bb (cp (h7 (aj g8 aE)))) dW)
   (a_ (dQ (ip (bG e3 (U 1) aV (λ_ _=>rfl))) (bb (cp (h7 (aj g8 (aj (ed (U 0) (by rfl)) (aj (ed (U 0) (by rfl)) aE)))))) dW)
   (a_ (dQ (ip (bG e3 (U 1) aV (λ_ _=>rfl))) (bb (cp (h7 (aj g8 (aj (ed (U 0) (by rfl)) (aj (ed (U 0) (by rfl)) aE)))))) dW)
   (bb (cp (h7 (aj g8 (aj (ed (U 0) (by rfl)) aE)))))))))),?_⟩
  try dsimp only[lD,lu]
  rcases s' with _|⟨h',t'⟩|⟨b9,t'⟩|t'
  .obtain⟨x,af,rfl,av⟩:=bj;have ty:=hg.n.vj.ty av;refine⟨_,rfl,_,_,_,_,rfl,ty,hg.n.n,_,rfl,_,_,_,_,rfl,ty,hg.n.a,_,rfl,_,_,_,_,rfl,ty,hg.n.r,_,rfl,_,_,_,_,rfl,ty,hg.n.h,(by show 4<=sizeLine;decide),λl nl=>?_⟩;have s1:=b8 (o:=.lst [V.aA true,V.aA false,V.aA false,V.aA false]) nl;have ag:=aQ (H:=H) (a:=l) (o:=.lst [V.aA true,V.aA false,V.aA false,V.aA false]);generalize upd H l (.lst [V.aA true,V.aA false,V.aA false,V.aA false])=H1 at s1 ag⊢;have yD:=hg.n.vj.ty (s1 _ _ av);refine⟨_,rfl,_,_,_,_,rfl,yD,hg.n.s,_,rfl,fI ?_⟩;dsimp only[wb,r8,qV,pB];refine vG (J:=iW K l) (H1:=H1) (xs:=[V.aA true,V.aA false,V.aA false,V.aA false]) (rest:=[]) (λR h=>⟨_,rfl,l,rfl,⟨_,aC.of ag⟩,h⟩) rfl (nA (aC.of ag)) (by decide) F0 (λi y ah R da ax cK=>?_) (λD aZ kJ bl s3=>?_)
   .obtain⟨b,rfl⟩:∃b,y=V.aA b:=J2 da;exact⟨_,rfl,.inr ⟨b,rfl,cK _ (aH.refl _)⟩⟩
   have bK:=s3 _ _ ag;have vd:=s3 _ _ (s1 _ _ av);refine⟨D,[1,0,0,0],rfl,aC.of bl,(by decide),(by decide),rfl,_,rfl,dw (by decide) ?_⟩;refine⟨_,rfl,l,_,_,_,rfl,rfl,aC.of bK,rfl,_,rfl,eQ rfl ?_⟩;exact⟨(by show 1<=sizeLine;decide),λnF oy=>q nF _ (JG (s1.trans s3) oy) ((s1.trans s3).trans (b8 oy)) aQ⟩
  .obtain⟨x,af,rfl,av⟩:=bj;have ty:=hg.a.vj.ty av;refine⟨_,rfl,_,_,_,_,rfl,ty,hg.a.n,_,rfl,_,_,_,_,rfl,ty,hg.a.a,_,rfl,_,_,_,_,rfl,ty,hg.a.r,_,rfl,_,_,_,_,rfl,ty,hg.a.h,(by show 4<=sizeLine;decide),λl nl=>?_⟩;have s1:=b8 (o:=.lst [V.aA false,V.aA true,V.aA false,V.aA false]) nl;have ag:=aQ (H:=H) (a:=l) (o:=.lst [V.aA false,V.aA true,V.aA false,V.aA false]);generalize upd H l (.lst [V.aA false,V.aA true,V.aA false,V.aA false])=H1 at s1 ag⊢;have yD:=hg.a.vj.ty (s1 _ _ av);refine⟨_,rfl,_,_,_,_,rfl,yD,hg.a.s,_,rfl,fI ?_⟩;dsimp only[wb,r8,qV,pB];refine vG (J:=iW K l) (H1:=H1) (xs:=[V.aA false,V.aA true,V.aA false,V.aA false]) (rest:=[]) (λR h=>⟨_,rfl,l,rfl,⟨_,aC.of ag⟩,h⟩) rfl (nA (aC.of ag)) (by decide) F0 (λi y ah R da ax cK=>?_) (λD aZ kJ bl s3=>?_)
   .obtain⟨b,rfl⟩:∃b,y=V.aA b:=J2 da;exact⟨_,rfl,.inr ⟨b,rfl,cK _ (aH.refl _)⟩⟩
   have bK:=s3 _ _ ag;have vd:=s3 _ _ (s1 _ _ av);refine⟨D,[0,1,0,0],rfl,aC.of bl,(by decide),(by decide),rfl,_,rfl,dw (by decide) ?_⟩;refine⟨_,rfl,l,_,_,_,rfl,rfl,aC.of bK,rfl,_,rfl,dw rfl ?_⟩;refine⟨_,rfl,l,_,_,_,rfl,rfl,aC.of bK,rfl,_,rfl,eQ rfl ?_⟩;exact⟨_,rfl,x,S.at_,af,_,_,rfl,vd,X1,na,rfl,_,rfl,x,S.at_,af,_,_,rfl,vd,X1,aoL,rfl,(by show 3<=sizeLine;decide),λnF oy=>q nF _ (JG (s1.trans s3) oy) ((s1.trans s3).trans (b8 oy)) aQ⟩
  .obtain⟨x,af,rfl,av⟩:=bj;have ty:=hg.r.vj.ty av;refine⟨_,rfl,_,_,_,_,rfl,ty,hg.r.n,_,rfl,_,_,_,_,rfl,ty,hg.r.a,_,rfl,_,_,_,_,rfl,ty,hg.r.r,_,rfl,_,_,_,_,rfl,ty,hg.r.h,(by show 4<=sizeLine;decide),λl nl=>?_⟩;have s1:=b8 (o:=.lst [V.aA false,V.aA false,V.aA true,V.aA false]) nl;have ag:=aQ (H:=H) (a:=l) (o:=.lst [V.aA false,V.aA false,V.aA true,V.aA false]);generalize upd H l (.lst [V.aA false,V.aA false,V.aA true,V.aA false])=H1 at s1 ag⊢;have yD:=hg.r.vj.ty (s1 _ _ av);refine⟨_,rfl,_,_,_,_,rfl,yD,hg.r.s,_,rfl,fI ?_⟩;dsimp only[wb,r8,qV,pB];refine vG (J:=iW K l) (H1:=H1) (xs:=[V.aA false,V.aA false,V.aA true,V.aA false]) (rest:=[]) (λR h=>⟨_,rfl,l,rfl,⟨_,aC.of ag⟩,h⟩) rfl (nA (aC.of ag)) (by decide) F0 (λi y ah R da ax cK=>?_) (λD aZ kJ bl s3=>?_)
   .obtain⟨b,rfl⟩:∃b,y=V.aA b:=J2 da;exact⟨_,rfl,.inr ⟨b,rfl,cK _ (aH.refl _)⟩⟩
   have bK:=s3 _ _ ag;have vd:=s3 _ _ (s1 _ _ av);refine⟨D,[0,0,1,0],rfl,aC.of bl,(by decide),(by decide),rfl,_,rfl,dw (by decide) ?_⟩;refine⟨_,rfl,l,_,_,_,rfl,rfl,aC.of bK,rfl,_,rfl,dw rfl ?_⟩;refine⟨_,rfl,l,_,_,_,rfl,rfl,aC.of bK,rfl,_,rfl,dw rfl ?_⟩;refine⟨_,rfl,l,_,_,_,rfl,rfl,aC.of bK,rfl,_,rfl,eQ rfl ?_⟩;exact⟨_,rfl,x,S.on,af,_,_,rfl,vd,X2,nb,rfl,_,rfl,x,S.on,af,_,_,rfl,vd,X2,aI,rfl,(by show 3<=sizeLine;decide),λnF oy=>q nF _ (JG (s1.trans s3) oy) ((s1.trans s3).trans (b8 oy)) aQ⟩
  .obtain⟨x,af,rfl,av⟩:=bj;have ty:=hg.h.vj.ty av;refine⟨_,rfl,_,_,_,_,rfl,ty,hg.h.n,_,rfl,_,_,_,_,rfl,ty,hg.h.a,_,rfl,_,_,_,_,rfl,ty,hg.h.r,_,rfl,_,_,_,_,rfl,ty,hg.h.h,(by show 4<=sizeLine;decide),λl nl=>?_⟩;have s1:=b8 (o:=.lst [V.aA false,V.aA false,V.aA false,V.aA true]) nl;have ag:=aQ (H:=H) (a:=l) (o:=.lst [V.aA false,V.aA false,V.aA false,V.aA true]);generalize upd H l (.lst [V.aA false,V.aA false,V.aA false,V.aA true])=H1 at s1 ag⊢;have yD:=hg.h.vj.ty (s1 _ _ av);refine⟨_,rfl,_,_,_,_,rfl,yD,hg.h.s,_,rfl,fI ?_⟩;dsimp only[wb,r8,qV,pB];refine vG (J:=iW K l) (H1:=H1) (xs:=[V.aA false,V.aA false,V.aA false,V.aA true]) (rest:=[]) (λR h=>⟨_,rfl,l,rfl,⟨_,aC.of ag⟩,h⟩) rfl (nA (aC.of ag)) (by decide) F0 (λi y ah R da ax cK=>?_) (λD aZ kJ bl s3=>?_)
   .obtain⟨b,rfl⟩:∃b,y=V.aA b:=J2 da;exact⟨_,rfl,.inr ⟨b,rfl,cK _ (aH.refl _)⟩⟩
   have bK:=s3 _ _ ag;have vd:=s3 _ _ (s1 _ _ av);refine⟨D,[0,0,0,1],rfl,aC.of bl,(by decide),(by decide),rfl,_,rfl,dw (by decide) ?_⟩;refine⟨_,rfl,l,_,_,_,rfl,rfl,aC.of bK,rfl,_,rfl,dw rfl ?_⟩;refine⟨_,rfl,l,_,_,_,rfl,rfl,aC.of bK,rfl,_,rfl,dw rfl ?_⟩;refine⟨_,rfl,l,_,_,_,rfl,rfl,aC.of bK,rfl,_,rfl,dw rfl ?_⟩;exact⟨_,rfl,x,S.hQ,af,_,_,rfl,vd,akI,aoK,rfl,(by show 2<=sizeLine;decide),λnF oy=>q nF _ (JG (s1.trans s3) oy) ((s1.trans s3).trans (b8 oy)) aQ⟩
end
end df
namespace cH
open PySem PySem.Spec PyProof.Rows ar
noncomputable abbrev tX(xs:jh):Prop:=xs.toList.Pairwise (· < ·)
theorem tX.lt{xs:jh}(h:tX xs){i j:Nat}(ant:i<j)(bg:j<xs.size):xs[i]'(by omega)<xs[j]:=by have:=F'.mp h i j (by simp;omega) (by simpa using bg) ant;simpa using this
theorem SJ{xs:jh}(h:tX xs)(j:Nat):∀(fuel lo ak:Nat),ak-lo<=fuel->lo<=ak->ak<=xs.size->
  (∀i(l3:i<xs.size),i<lo->xs[i]<j)->(∀i(l3:i<xs.size),ak<=i->j<=xs[i])->
  Gm xs j fuel lo ak<=xs.size/\(∀i(l3:i<xs.size),i<Gm xs j fuel lo ak->xs[i]<j)/\(∀i(l3:i<xs.size),Gm xs j fuel lo ak<=i->j<=xs[i])
 |0,lo,ak,hf,aw,hs,a,b=>by
  unfold Gm;obtain rfl:lo=ak:=by omega
  exact⟨hs,a,b⟩
 |fuel+1,lo,ak,hf,aw,hs,a,b=>by
  unfold Gm;by_cases cz:lo<ak
  .rw[bB cz];have hm:(lo+ak)/2<xs.size:=by omega
   have e:xs.getD ((lo+ak)/2) j=xs[(lo+ak)/2]:=by simp[q5,hm]
   dsimp only;rw[e];by_cases aq:xs[(lo+ak)/2]<j
   .rw[bB aq];refine SJ h j fuel _ _ (by omega) (by omega) hs (λi l3 q=>?_) b;rcases LG (show i<=(lo+ak)/2 by omega)with q|q
    .exact Vr (h.lt q hm) aq
    .subst q;exact aq
   .rw[bp aq];refine SJ h j fuel _ _ (by omega) (by omega) (by omega) a (λi l3 q=>?_);rcases LG q with q|q
    .exact eP (by omega) (q' (h.lt q l3))
    .subst q;omega
  .rw[bp cz];obtain rfl:lo=ak:=by omega
   exact⟨hs,a,b⟩
theorem below_at{xs:jh}(h:tX xs)(j:Nat):n4 xs j<=xs.size/\(∀i(l3:i<xs.size),i<n4 xs j->xs[i]<j)/\(∀i(l3:i<xs.size),n4 xs j<=i->j<=xs[i]):=by unfold n4;exact SJ h j xs.size 0 xs.size (by omega) (by omega) (bU _) (λi _ q=>by omega) (λi q r=>by omega)
theorem SK{xs:jh}(h:tX xs){j n:Nat}(aM:n<=xs.size)(a:∀i(l3:i<xs.size),i<n->xs[i]<j)(b:∀i(l3:i<xs.size),n<=i->j<=xs[i]):n4 xs j=n:=by
 obtain⟨e5,eT,ji⟩:=below_at h j;rcases ac3 (n4 xs j) n with q|q|q
 .have ag:=ji _ (by omega) (bU _);have ai:=a _ (by omega) q;omega
 .exact q
 .have ag:=b _ (by omega) (bU _);have ai:=eT _ (by omega) q;omega
theorem acw{t:kT}(h:tX t.place){j:Nat}(e:t.slot j=.empty):j∉t.place.toList:=λhm=>by
 obtain⟨i,ak,d7⟩:=mr hm;have l3:i<t.place.size:=by simpa using ak
 have d7:t.place[i]=j:=by simpa using d7
 have dx:n4 t.place j=i:=SK h (q' l3) (λk aP q=>by rw[<-d7];exact h.lt q l3) (λk aP q=>by
  rcases LG q with q|q
  .rw[<-d7];exact q' (h.lt q aP)
  .subst q;omega)
 unfold SetTable.slot at e;dsimp only at e;rw[dx,bB (by simp[l3,d7])]at e;cases e
theorem acx{t:kT}(h:tX t.place){j:Nat}(bg:j∉t.place.toList):tX (t.put j).1.place:=by
 obtain⟨e5,eT,ji⟩:=below_at h j;show Vb _ (SetTable.insertAt t.place (n4 t.place j) j).toList;rw[SetTable.toList_insertAt];generalize n4 t.place j=n at e5 eT ji;rw[List.pairwise_append];refine⟨h.sublist (LA _ _),Lx.mpr ⟨λy cM=>?_,h.sublist (abU _ _)⟩,λx av y cM=>?_⟩
 .obtain⟨i,ak,e⟩:=mr cM;rw[abX]at e;rw[Lo,nU]at ak;have ag:=ji (n+i) (by omega) (by omega);have ai:t.place[n+i]'(by omega)=y:=by simpa using e
  rw[ai]at ag;refine Nat.lt_of_le_of_ne ag λz=>bg ?_;rw[z,<-ai];simp
 .obtain⟨i,ak,e⟩:=mr av;rw[abY]at e;rw[lS,nU]at ak;have ag:=eT i (by omega) (by omega);have ai:t.place[i]'(by omega)=x:=by simpa using e
  rw[ai]at ag;rcases dv.mp cM with rfl|cM
  .exact ag
  .obtain⟨k,aP,e⟩:=mr cM;rw[abX]at e;rw[Lo,nU]at aP;have bK:=ji (n+k) (by omega) (by omega);have c8:t.place[n+k]'(by omega)=y:=by simpa using e
   omega
structure fg(t:kT):Prop where
 led:t.led=true
 M6:t.dummies=#[]
 up:tX t.place
theorem has_none(j:Nat):WK #[] j=false:=by simp[WK]
theorem Ģ{t:kT}(g:fg t){f:Nat->Int}{h:Int}:∀(fuel:Nat)(p:SetTable.Probe)(j:Nat)(d:Option Nat),p.dummy=none->WL t f h fuel p=some (.empty j d)->d=none/\t.slot j=.empty
 |0,p,j,d,aN,e=>by unfold WL at e;cases e
 |fuel+1,p,j,d,aN,e=>by
  have akv:(t.advance p).dummy=none:=by unfold SetTable.advance;split<;>exact aN
  unfold WL at e;cases hs:t.slot p.j with
  |empty=>
   rw[hs]at e;cases e;exact⟨aN,hs⟩
  |dummy=>
   unfold SetTable.slot at hs;dsimp only at hs;rw[g.M6,has_none]at hs;split at hs<;>cases hs
  |live i=>
   rw[hs]at e;dsimp only at e;split at e
   .cases e
   .exact Ģ g fuel _ j d akv e
theorem af6{t:kT}(g:fg t){h:Int}{sl:Nat}{b:Bool}(e:t.freeSlot h=some (sl,b)):t.slot sl=.empty:=by
 unfold SetTable.freeSlot at e;split at e
 .rename_i j d ep;unfold SetTable.probe at ep;obtain⟨rfl,hs⟩:=Ģ g _ _ _ _ rfl ep;cases e;exact hs
 .cases e
theorem Jy{t:kT}(g:fg t)(n:Nat):fg (t.standIn n):=⟨g.led,rfl,by
 show Vb _ (Array.range n).toList;rw[Array.toList_range];exact F_⟩
theorem TZ{t:kT}(g:fg t){h:Int}{sl:Nat}{b:Bool}(e:t.freeSlot h=some (sl,b)):fg (t.put sl).1:=⟨g.led,by
 show(if WK t.dummies sl then _ else t.dummies)=#[];rw[g.M6,has_none];rfl,acx g.up (acw g.up (af6 g e))⟩
theorem ae2{t:kT}(g:fg t)(es:Array (Int×Value))(h:Int)(x:Value):fg (layNew t es h x).2.1:=by
 unfold layNew;split
 .rename_i sl b e;show fg (ae6 (t.put sl).1 _);unfold ae6;split
  .exact TZ g e
  .exact Jy (TZ g e) _
 .exact Jy g _
theorem aaY{t:kT}(g:fg t)(es:Array (Int×Value))(n:Nat):fg (A4 t es n).2.1:=by
 unfold A4;split
 .rename_i t' cV e;dsimp only;split
  .unfold SetTable.relaid SetTable.laid at e;cases aU:SetTable.layClean (SetTable.sizeAbove n-1) (es.map (·.1))with
   |none=>rw[aU]at e;cases e
   |some owner=>
    rw[aU]at e;cases e;refine⟨g.led,rfl,?_⟩;show Vb (· < ·) _;have gen:∀l:List Nat,l.Pairwise (· < ·)->((l.filterMap λj=>(owner.getD j none).map (Prod.mk j)).map (·.1)).Pairwise (· < ·):=by
     intro l aw;refine aw.sublist ?_;clear aw
     induction l with
     |nil=>exact .slnil
     |cons a l a3=>
      rw[B4];cases aF:(owner.getD a none).map (Prod.mk a)with
      |none=>exact a3.cons _
      |some q=>
       obtain⟨k,_,rfl⟩:=e0.mp aF;exact a3.cons₂ _
    exact gen _ F_
  .exact Jy g _
 .exact Jy g _
noncomputable def jL(w:bS):Bool:=w.params.followText "set-order"
noncomputable def ent(p:Int×Tok):Int×Value:=(z8 p.1,.int p.1 p.2)
noncomputable def jC(w:bS)(h:Heap)(a:Addr)(l:List (Int×Tok)):Prop:=
 ∃o es ep t,h.get? a=some o/\o.ExactSet/\o.data=.set es ep t/\es.toList.Perm (l.map ent)/\l.length<scanBound/\t.fits es.size=true/\(jL w=true\/fg t)
theorem jC.at'{h h':Heap}{l:List (Int×Tok)}(x:jC w h a l)(k:∀o,h.get? a=some o->h'.get? a=some o):jC w h' a l:=let⟨o,es,ep,t,aU,r⟩:=x;⟨o,es,ep,t,k o aU,r⟩
theorem WM(p:Int×Tok):(tn prog w).is p.1 (ent p).2=true:=ZT _ _ _ _
theorem aaZ{es:List (Int×Value)}{l:List (Int×Tok)}(p:es.Perm (l.map ent)):ElemsOf (tn prog w) es:=λe he=>by obtain⟨q,_,rfl⟩:=b7.mp (p.mem_iff.mp he);exact⟨⟨q.1,WM q,rfl⟩,rfl⟩
section
variable{prog:cG}{w:bS}{A:du}{E:cc}{s:aK}{a:Addr}{l:List (Int×Tok)}
theorem T1{h:Heap}{o:Obj}{es kB:Array (Int×Value)}{ep:Nat}{t t':kT}(aU:h.get? a=some o)(av:o.ExactSet)(hd:o.data=.set es ep t)(aN:kB.toList.Perm (l.map ent))(aw:l.length<scanBound)(hf:t'.fits kB.size=true)(bE:jL w=true\/fg t'):
  ∃cB,(h.update a (LN kB t')).get? a=some cB/\cB.ExactSet/\cB.data=.set kB (ep+1) t'/\jC w (h.update a (LN kB t')) a l:=by have g1:=kr (LN kB t') aU (by rw[putSet_of kB t' hd];rfl);rw[putSet_of kB t' hd]at g1;exact⟨_,g1,av,rfl,_,kB,ep+1,t',g1,av,rfl,aN,aw,hf,bE⟩
theorem acG{t:kT}(g:jL w=true\/fg t):jL w=true\/fg {t with plain:=false}:=g.imp id λg=>⟨g.led,g.M6,g.up⟩
theorem DZ{es:Array (Int×Value)}(p:es.toList.Perm (l.map ent)):es.size=l.length:=by rw[<-nU,p.length_eq,bk]
theorem add_int{k:Int}{tok:Tok}{Q:Bool->aK->Prop}(c4:jC w s.heap a l)(aP:k∉l.map (·.1))(ao:l.length+1<scanBound)(h:∀h',mn a s.heap h'->jC w h' a ((k,tok)::l)->Q true {s with heap:=h'}):
  aL (aX prog w) A (setAddHashed a (.int k tok) (z8 k)) Q E s:=by
 obtain⟨o,es,ep,t,aU,av,hd,aN,aw,hf,bE⟩:=c4;have Dn:=aaZ (prog:=prog) (w:=w) aN;have hsz:=DZ aN;have va:(tn prog w).is k (.int k tok)=true:=ZT _ _ _ _;unfold setAddHashed setAddHashedIn;refine hA (au (aqH aU hd hf ?_));dsimp only;rw[byScan_of (knd:=tn prog w) rfl (by omega) Dn,bB rfl];unfold setAddByScan;refine au (au (pS (au (wpAny_setScan_of (knd:=tn prog w) va aU hd hf Dn ?_))));have none_:List.findIdx? (λe=>(tn prog w).is k e.2) es.toList=none:=List.findIdx?_eq_none_iff.mpr λe he=>by
  obtain⟨q,a8,rfl⟩:=b7.mp (aN.mem_iff.mp he);cases aq:(tn prog w).is k (ent q).2 with
  |false=>rfl
  |true=>exact bx (b7.mpr ⟨q,a8,((tn prog w).inj _ _ _ aq (WM q)).symm⟩) aP
 rw[none_];dsimp only;have YL:∀(b:Bool){s1:aK}{mx:Unit->aK->Prop},mx () s1->aL (aX prog w) A (match b with|true=>rule "set.scan.the-table-gave-way"|false=>pure ()) mx E s1:=
  λb s1 mx q=>by cases b;exact aT q;exact pS q
 have pm:=layNew_perm t es (z8 k) (.int k tok);have js:=layNew_fits t es (z8 k) (.int k tok);have nx:jL w=true\/fg (layNew t es (z8 k) (.int k tok)).2.1:=bE.imp id λg=>ae2 g _ _ _;generalize layNew t es (z8 k) (.int k tok)=L at pm js nx⊢;obtain⟨jQ,t1,aqn,NH⟩:=L;dsimp only at pm js nx⊢;have dz:jQ.toList.Perm (((k,tok)::l).map ent):=by rw[œ]at pm;refine pm.trans (List.perm_append_comm.trans ?_);exact aN.cons _
 have dF:((k,tok)::l).length<scanBound:=ao;have bM:=DZ dz;have fin:∀dU:kT,dU.fits jQ.size=true->(jL w=true\/fg dU)->aL (aX prog w) A (do
    storeSet a jQ dU
    if(!aqn&&dU.tooFull)=true then do
      (match(A4 dU jQ (zK jQ.size)).2.2 with|true=>rule "set.scan.the-table-gave-way"|false=>pure ())
      storeSet a (A4 dU jQ (zK jQ.size)).1 (A4 dU jQ (zK jQ.size)).2.1
      pure (some true)
     else pure (some true)) (λr s'=>r=some true/\Q true s') E s:=λdU f2 g2=>by
  refine au (aqJ aU hd ?_ (Ny (by omega)));obtain⟨cB,az,aB,cX,aeV⟩:=T1 (w:=w) aU av hd dz dF f2 g2;have b4:=oQ s.heap a (LN jQ dU);split
  .have pr:=relayAll_perm dU jQ (zK jQ.size);have fr:=relayAll_fits dU jQ (zK jQ.size);have NG:jL w=true\/fg (A4 dU jQ (zK jQ.size)).2.1:=g2.imp id λg=>aaY g _ _;generalize A4 dU jQ (zK jQ.size)=aeQ at pr fr NG⊢;obtain⟨s6,t3,g3⟩:=aeQ;dsimp only at pr fr NG⊢;have d_:=pr.trans dz;have bu:=DZ d_;refine au (YL _ (au (aqJ az cX ?_ (Ny (by omega)))));obtain⟨_,_,_,_,aeW⟩:=T1 (w:=w) az aB cX d_ dF fr NG;exact aT ⟨rfl,h _ (b4.trans (oQ _ a _)) aeW⟩
  .exact aT ⟨rfl,h _ b4 aeV⟩
 refine au (YL _ ?_);split
 .rw[hashByValue_scannable 8 rfl];refine au (aT (gi (fin _ (by split;exact js;exact SetTable.fits_plain_off js) (by split;exact nx;exact acG nx)) (λr s' q=>?_) λ_ _ q=>q));obtain⟨rfl,q⟩:=q;exact aT q
 .refine au (aT ?_);rw[bB rfl];refine gi (fin _ js nx) (λr s' q=>?_) λ_ _ q=>q;obtain⟨rfl,q⟩:=q;exact aT q
end
noncomputable def r'(p:Int×Tok):Value:=.int p.1 p.2
theorem aah:isSubtype (.type "tuple") (.type "set")=pure false:=by rw[HR];kernel_rfl
theorem ŷ:isSubtype (.type "tuple") (.type "frozenset")=pure false:=by rw[HR];kernel_rfl
noncomputable def t2(w:bS):Obj:={cls:=.type "set",dict:=none,data:=.set #[] 0 (.fresh 0 0 (!jL w))}
theorem jC.fresh{h:Heap}(e:h.get? a=some (t2 w)):jC w h a []:=
 ⟨_,#[],0,.fresh 0 0 (!jL w),e,⟨rfl,rfl,rfl⟩,rfl,F2 _,by decide,rfl,by
  cases aa:jL w with
  |true=>exact .inl rfl
  |false=>exact .inr ⟨rfl,rfl,abN⟩⟩
section
variable{prog:cG}{w:bS}{A:du}{E:cc}{s:aK}
theorem agB(a:Value){Q:cc}(h:Q (.ref s.heap.objs.size) {s with heap:=s.heap.push (t2 w)}):
  iH (aX prog w) A (.call (.builtin "set.__new__") ⟨[.type "set",a],[]⟩) (wants Q E) s:=by
 refine MX ?_;show aL _ A.in1 (do XZ "set.__new__" ⟨[.type "set",a],[]⟩;again (.builtin "set.__new__" ⟨[.type "set",a],[]⟩)) _ _ s;refine au (yS (PySem.F.newCall_set_1 a) (aT ⟨lF adS _,kz PySem.F.entry_set_new ?_⟩));rw[mm adS _];unfold Builtin.«set.__new__» aq9;have b4:=sub_set_self;obtain⟨aN,g,d,a5,os⟩:=s;dsimp only
 wp_walk
 refine č (aT ?_);dsimp only;simp only[newObj];exact au (wpAny_alloc (aT (aT h)))
end
theorem aa0{A:du}{R:my->aK->Prop}{bR wr:cj}{items:kV}{CK:Nat->Heap->Prop}(W:sS prog w A.in1 I bR wr items.size (λi v=>items[i]?=some v) CK)(S:Addr)(u2:S∉bR)(l:List (Int×Tok))(aw:items.toList=l.map r')(aI:(l.map (·.1)).Nodup)(aa:l.length+1<scanBound):∀(k i:Nat)(s:aK),items.size-i=k->i<=items.size->CK i s.heap->jC w s.heap S (l.take i).reverse->
   (∀h' a5,(∀b o,b≠S->b∉wr->s.heap.get? b=some o->h'.get? b=some o)->jC w h' S l.reverse->R (.ok (.ret .none)) {s with heap:=h',toks:=a5})->
   iH (aX prog w) A (.builtin "set.update.loop" ⟨[.ref S,.ref I],[]⟩) R s:=by
 have Di:S∉wr:=λz=>u2 (W.sub _ z);have hsz:items.size=l.length:=by rw[<-nU,aw,bk]
 intro k
 induction k with
 |zero=>
  intro i s aP ak st c4 cK;obtain rfl:i=items.size:=by omega
  refine kz LX ?_;rw[mm Ct _];show aL _ A.in1 (ig (.ref I) >>=_) _ _ s;refine au (W.done s _ _ st λh' a5 bP=>?_);show aL _ A.in1 (ret gm) _ _ _;rw[hsz,oU]at c4;exact aT (cK h' a5 (λb o _ aa e=>bP b o aa e) (c4.at' λo e=>bP S o Di e))
 |succ k a3=>
  intro i s aP ak st c4 cK;have cz:i<items.size:=by omega
  have Zo:i<l.length:=by omega
  refine kz LX ?_;rw[mm Ct _];show aL _ A.in1 (ig (.ref I) >>=_) _ _ s;refine au (W.item i s _ _ cz st λv ag a5 f6 Q9 bP=>?_);obtain rfl:v=r' l[i]:=by
   have e:items.toList[i]?=some v:=by rw[sr];exact f6
   rw[aw,cx,cF Zo]at e;exact(gV e).symm
  have td:=c4.at' (h':=ag) λo e=>bP S o Di e;show aL _ A.in1 (mU [r' l[i]] (setAdd S (.int l[i].1 l[i].2)) >>=_) _ _ _;refine au (hA ?_);unfold setAdd;refine hA (au ((tn prog w).pyHash (k:=l[i].1) (ZT _ _ _ _) ?_));refine add_int td (λz=>?_) (by rw[List.length_reverse,lS];omega) λai b4 Hi=>?_
  .rw[ab4,List.mem_reverse,Lr]at z;obtain⟨j,bg,dy⟩:=mr z;rw[abY,wD]at dy;rw[lS,bk]at bg;have cX:(l.map (·.1))[j]'(by rw[bk];omega)=(l.map (·.1))[i]'(by rw[bk];omega):=by rw[wD,wD];exact dy
   have:=(wC aI).mp cX;omega
  .have aB:(l[i].1,l[i].2)::(l.take i).reverse=(l.take (i+1)).reverse:=by rw[oT,cF Zo,Option.toList_some,List.reverse_append];rfl
   rw[aB]at Hi;refine aT ⟨lF Ct _,a3 (i+1) _ (by omega) cz (W.frame _ _ _ Q9 λb dC o e=>(b4.2 b λz=>u2 (z▸dC)).trans e) Hi λbK RD Pj z6=>?_⟩;exact cK bK RD (λb o hP fS e=>Pj b o hP fS ((b4.2 b hP).trans (bP b o fS e))) z6
set_option maxHeartbeats 8000000 in
theorem aai{A:du}{E:cc}{s:aK}{t:Addr}{items:kV}{l:List (Int×Tok)}{Q:cc}(dr:A.handled=none)(dM:s.heap.IsTuple t items)(aw:items.toList=l.map r')(aI:(l.map (·.1)).Nodup)(aa:l.length+1<scanBound)(h:∀(h':Heap)(a5:Nat),jC w h' s.heap.objs.size l.reverse->(∀b o,s.heap.get? b=some o->h'.get? b=some o)->Q (.ref s.heap.objs.size) {s with heap:=h',toks:=a5}):
  aL (aX prog w) A (call (.type "set") [.ref t]) Q E s:=by
 obtain⟨c,dA,amO⟩:=wR.mro;have ib:=wR.made;have jA:=wR.sub;have H4:=wR.notType;have H5:=wR.canCreate;have Pw:=PySem.F.typeCall_set_1 (.ref t);refine pQ (MX ?_);show aL _ _ (callAny (.type "set") _) _ _ _;refine aT ⟨Fj _ (by decide+kernel),kz PySem.F.entry_type_call ?_⟩;rw[Ő (aqo "set" [.ref t] []) rfl]
 repeat (any_goals (first|assumption|wp_step))
 generalize qw:s.heap.objs.size=S at *;refine qm (agB (.ref t) (E:=E) (Q:=λob s1=>ob=.ref S/\s1={s with heap:=s.heap.push (t2 w)}) ⟨by rw[qw],rfl⟩) λr s1 ao=>?_;cases r with
 |error e=>exact ao
 |ok ft=>
  cases ft with
  |ret ob=>
   obtain⟨rfl,rfl⟩:=ao;have rx:(s.heap.push (t2 w)).get? S=some (t2 w):=by rw[<-qw];exact fM _ rfl
   have kf:Shared.TypeIs {s with heap:=s.heap.push (t2 w)} (.ref S) "set":=⟨_,rx,rfl⟩
   have cE:=wR.init.lookup;have c':=wR.init.bind (.ref S)
   repeat (any_goals (first|assumption|wp_step))
   refine qm (uK (R:=wants (λr s2=>r=.none/\∃h' a5,s2={s with heap:=h',toks:=a5}/\jC w h' S l.reverse/\(∀b o,s.heap.get? b=some o->h'.get? b=some o)) E)
    wR.init.plain PySem.F.entry_set_init (akH kf ?_)) λdh s2 l4=>?_
   .obtain⟨⟨km,cV,aoV,l_⟩,lj,u7,nl,u9⟩:=id dM;simp only at u7 u9;subst u7 u9;have amW:=dm (h:=s.heap) (t2 w) lj;have dz:=aah;have d_:=ŷ;have qL:(nk "tuple"==nk "dict")=false:=by decide
    have gR:=dM.push (o:=t2 w);unfold Builtin.«set.__init__» noKeywords Ţ;generalize NP:AR=n0
    wp_walk
    subst NP;refine aqD gR (au (ē ?_));have Ds:t<S:=by rw[<-qw];exact c5 lj
    have hsz:(s.heap.push (t2 w)).objs.size=S+1:=by rw[sA,qw]
    refine aa0 (Walks.tuple (A:=A.in1.in1.in1) (by simp[dr]) _ t (by rw[hsz];exact dR (sN Ds)) items) S ?_ l aw aI aa (items.size-0) 0 _ (by omega) (eZ _) ⟨⟨_,fM _ rfl,rfl,rfl⟩,gR.push _⟩ ?_ ?_
    .rw[hsz];simp only[dv,eo,or_false,not_or];exact⟨dR (ur _),zC Ds⟩
    .exact jC.fresh (dm _ rx)
    .intro h' a5 bP tc;show aL _ _ _ _ _ _;refine aT ?_;show aL _ _ (ret gm) _ _ _;refine aT ⟨rfl,h',a5,rfl,tc,λb o e=>?_⟩;have u4:b<S:=by rw[<-qw];exact c5 e
     exact bP b o (dR u4) (λz=>dR (sN u4) (by rw[hsz]at z;simpa using z)) (dm _ (dm _ e))
   .cases dh with
    |error e=>exact l4
    |ok Nz=>
     cases Nz with
     |ret r=>
      obtain⟨rfl,h',a5,rfl,tc,bP⟩:=l4
      repeat (any_goals (first|assumption|wp_step))
      exact h _ _ tc bP
     |_=>exact l4.elim
  |_=>exact ao.elim
theorem QK{α:Type}:∀{l:List α}{i:Nat}(ak:i<l.length),(l[i]::l.eraseIdx i).Perm l
 |[],i,h=>bx h (Cm _)
 |x::l,0,_=>F2 _
 |x::l,i+1,h=>(List.Perm.swap _ _ _).trans ((QK (l:=l) (i:=i) (by simpa using h)).cons x)
theorem U6{α:Type}(f:Nat->Nat):∀(n k:Nat)(l:List α)(out:Array α),l.length<=n->(pickOrder.go f n k l out).toList.Perm (out.toList++l)
 |0,k,l,out,h=>by obtain rfl:l=[]:=sH.mp (by omega);unfold pickOrder.go;rw[q9]
 |n+1,k,l,out,h=>by
  unfold pickOrder.go;cases e:l[f k%l.length]? with
  |none=>
   have h0:l.length=0:=by
    rcases Nat.eq_zero_or_pos l.length with z|z
    .exact z
    .have:=ac5 (f k) z;rw[cF this]at e;cases e
   obtain rfl:l=[]:=sH.mp h0;dsimp only;rw[q9]
  |some x=>
   dsimp only;obtain⟨ak,ex⟩:=eb.mp e;refine(U6 f n (k+1) _ _ (by rw[ab1 ak];omega)).trans ?_;rw[œ,F4];refine List.Perm.append_left _ ?_;have:=QK ak;rw[ex]at this;exact this
theorem acH{α:Type}(f:Nat->Nat)(xs:Array α):(Ea f xs).toList.Perm xs.toList:=by unfold Ea;have:=U6 f xs.size 0 xs.toList #[] (by simp);simpa using this
section
variable{prog:cG}{w:bS}{A:du}{E:cc}{s:aK}{a:Addr}
theorem aa1{src:Source}{n:Nat}{Q:Nat->aK->Prop}(aM:n≠0)(h:∀i d',i<n->Q i {s with drawn:=d'}):aL (aX prog w) A (choose src n) Q E s:=λwg p ZS=>by unfold choose;rw[Sem.wp_choose];exact⟨aM,h _ _ (ac5 _ (zD aM))⟩
theorem SP{α:Type}:∀(n:Nat)(xs:List α)(s:aK){Q:List α->aK->Prop},xs.length=n->(∀ys d',ys.Perm xs->Q ys {s with drawn:=d'})->aL (aX prog w) A (X5 n xs) Q E s
 |0,xs,s,Q,aM,h=>by obtain rfl:xs=[]:=sH.mp aM;unfold X5;exact aT (h [] s.drawn (F2 _))
 |n+1,[],s,Q,aM,h=>by cases aM
 |n+1,x::xs,s,Q,aM,h=>by unfold X5;refine au (aa1 (by simp) λi d' ak=>?_);rw[cF ak];dsimp only;refine au (SP n _ _ (by rw[ab1 ak,aM];rfl) λys kA aN=>aT ?_);exact h _ kA ((aN.cons _).trans (QK ak))
theorem xP:Slot "set_iterator" "__next__" "set_iterator.__next__":=
 .of (owner:="set_iterator") (n:="__next__") (by rw[ap5,akE];kernel_rfl) (by decide+kernel) (by decide+kernel) (by decide+kernel) (by first|exact .inl (by decide+kernel)|exact .inr (by decide+kernel)) (by rw[HR];kernel_rfl)
theorem Ñ:entryFor table "set_iterator.__next__"=some Builtin.«set_iterator.__next__»:=entryFor_of_tree (by kernel_rfl)
theorem Ÿ:entryFor table "set.__iter__"=some Builtin.«frozenset.__iter__»:=ak3 (id':="frozenset.__iter__") (by kernel_rfl) rfl (by decide+kernel) (by kernel_rfl)
theorem WN:Manifest.owners.lookup (String.ofList ['r','o','t','a','r','e','t','i','_','t','e','s'].reverse)=some Manifest.sig_set_iterator:=by kernel_rfl
end
theorem U7(a:Value):rk "set_iterator.__next__" ⟨[a],[]⟩:=by unfold rk;rw[signature?_of (id:="set_iterator.__next__") (n:=['_','_','t','x','e','n','_','_']) (o:=['r','o','t','a','r','e','t','i','_','t','e','s']) (by kernel_rfl) WN];kernel_rfl
theorem ÿ:Slot "set_iterator" "__iter__" "set_iterator.__iter__":=
 .of (owner:="set_iterator") (n:="__iter__") (by rw[ap5,akE];kernel_rfl) (by decide+kernel) (by decide+kernel) (by decide+kernel) (by first|exact .inl (by decide+kernel)|exact .inr (by decide+kernel)) (by rw[HR];kernel_rfl)
theorem aqX:entryFor table "set_iterator.__iter__"=some Builtin.«dict_keyiterator.__iter__»:=ak3 (id':="dict_keyiterator.__iter__") (by kernel_rfl) rfl (by decide+kernel) (by kernel_rfl)
theorem Ź(a:Value):rk "set_iterator.__iter__" ⟨[a],[]⟩:=by unfold rk;rw[signature?_of (id:="set_iterator.__iter__") (n:=['_','_','r','e','t','i','_','_']) (o:=['r','o','t','a','r','e','t','i','_','t','e','s']) (by kernel_rfl) WN];kernel_rfl
noncomputable def kS(h:Heap)(it a:Addr)(f:Value)(i n ep:Nat):Prop:=∃o,h.get? it=some o/\o.cls=.type "set_iterator"/\o.data=.fields #[f,.int i 0,.ref a,.int n 0,.int ep 0]
theorem kS.typeIs{s:aK}{i n ep:Nat}(h:kS s.heap it a f i n ep):s.TypeIs (.ref it) "set_iterator":=let⟨o,aU,aq,_⟩:=h;⟨o,aU,aq⟩
noncomputable def o3(h:Heap)(a:Addr)(es:Array (Int×Value))(ep:Nat)(t:kT):Prop:=∃o,h.get? a=some o/\o.data=.set es ep t
section
variable{prog:cG}{w:bS}{A:du}{E:cc}{s:aK}{a it:Addr}{es:Array (Int×Value)}{ep:Nat}{t:kT}
theorem B2{Q:(Array (Int×Value)×Nat×kT)->aK->Prop}(c4:o3 s.heap a es ep t)(hf:t.fits es.size=true)(h:Q (es,ep,t) s):aL (aX prog w) A (setState a) Q E s:=
 let⟨o,aU,hd⟩:=c4;aqH aU hd hf h
theorem Fm{Q:Bool->aK->Prop}(h:Q (jL w) s):aL (aX prog w) A setsByText Q E s:=by unfold setsByText;exact au (č (aT h))
theorem ae7{Q:Bool->aK->Prop}(c4:o3 s.heap a es ep t)(hf:t.fits es.size=true)(h:Q (!jL w&&(!t.plain&&decide (es.size>1))) s):aL (aX prog w) A (setDrawn a) Q E s:=by unfold setDrawn;refine au (B2 c4 hf ?_);dsimp only;exact au (Fm (aT h))
theorem SQ{Q:Option (Value×Nat)->aK->Prop}{sl i:Nat}(c4:o3 s.heap a es ep t)(hf:t.fits es.size=true)(aa:jL w=true)(h:Q (((Ea (w.params.setOrder a ep) es)[i]?).map λe=>(e.2,sl)) s):aL (aX prog w) A (Q4 a sl i ep) Q E s:=by unfold Q4;refine au (B2 c4 hf ?_);dsimp only;refine au (Fm ?_);rw[aa,bB rfl,bp (by simp)];refine au ?_;unfold setWalk;refine au (B2 c4 hf ?_);dsimp only;refine au (Fm ?_);rw[aa,bB rfl];exact au (č (aT (aT h)))
theorem ģ{Q:Option (Value×Nat)->aK->Prop}{sl i:Nat}(c4:o3 s.heap a es ep t)(hf:t.fits es.size=true)(aa:jL w=false)(aN:(!t.plain&&decide (es.size>1))=false)(g:fg t)(h:Q (match es[n4 t.place sl]?,t.place[n4 t.place sl]? with|some e,some j=>some (e.2,j+1)|_,_=>none) s):aL (aX prog w) A (Q4 a sl i ep) Q E s:=by
 unfold Q4;refine au (B2 c4 hf ?_);dsimp only;refine au (Fm ?_);rw[aa,bp (by decide)];refine EP (λz=>?_) (λ_=>?_)
 .have dk:(!t.plain&&decide (es.size>1))=true:=z;rw[aN]at dk;cases dk
 refine au ?_
 wp_delta
 refine EP (λz=>?_) (λ_=>?_)
 .rw[g.led]at z;cases z
 refine aT (aT ?_);generalize es[n4 t.place sl]?=x at h⊢;generalize t.place[n4 t.place sl]?=y at h⊢;cases x<;>cases y<;>exact h
theorem aa2{Q:cc}{j:Nat}{e:Int×Value}(c4:o3 s.heap a es ep t)(hf:t.fits es.size=true)(he:es[j]?=some e)(h:Q e.2 s):aL (aX prog w) A (setNextDrawn a j ep) Q E s:=by unfold setNextDrawn;refine au (B2 c4 hf ?_);dsimp only;rw[bp (by simp),he];exact aT h
inductive Mode(w:bS)(h:Heap)(a:Addr)(es:Array (Int×Value))(ep:Nat)(t:kT)(ord:List (Int×Value))(i:Nat)(f:Value):Prop where
 |text (b:jL w=true) (e:f=.int 0 0) (o:ord=(Ea (w.params.setOrder a ep) es).toList)
 |place (b:jL w=false) (p:(!t.plain&&decide (es.size>1))=false) (g:fg t) (o:ord=es.toList) (sl:Nat) (e:f=.int sl 0) (aA:n4 t.place sl=i)
 |drawn (b:jL w=false) (bV:Addr) (cV:dN) (e:f=.ref bV) (mi:h.IsTuple bV (cV.map λk:Nat=>iF k 0).toArray) (o:ord.length=cV.length) (at_:∀k j:Nat,cV[k]?=some j->∃e,es[j]?=some e/\ord[k]?=some e)
theorem kS.next{h:Heap}{i n:Nat}(hit:kS h it a f i n ep)(fA:Value):kS ((h.update it (sO (·.setIfInBounds 0 fA))).update it (sO (·.setIfInBounds 1 (jE ((i:Int)+1))))) it a fA (i+1) n ep:=by obtain⟨o,aU,aq,hd⟩:=hit;have az:=kr (sO (·.setIfInBounds 0 fA)) aU (Cq (p7 hd _));have hK:=p7 hd (·.setIfInBounds 0 fA);have aB:=kr (sO (·.setIfInBounds 1 (jE ((i:Int)+1)))) az (Cq (p7 hK _));exact⟨_,aB,((LM ..).trans (LM ..)).trans aq,by rw[p7 hK];simp[jE]⟩
theorem kS.aol{h:Heap}{i n:Nat}(hit:kS h it a f i n ep):kS (h.update it (sO (·.setIfInBounds 1 (jE ((i:Int)+1))))) it a f (i+1) n ep:=by obtain⟨o,aU,aq,hd⟩:=hit;have aB:=kr (sO (·.setIfInBounds 1 (jE ((i:Int)+1)))) aU (Cq (p7 hd _));exact⟨_,aB,(LM ..).trans aq,by rw[p7 hd];simp[jE]⟩
theorem put2{i n:Nat}{R:V2->aK->Prop}{Tv:cc}(hit:kS s.heap it a f i n ep)(h:∀h',kS h' it a fA (i+1) n ep->mn it s.heap h'->R (.done (.ret x)) {s with heap:=h'}):
  aL (aX prog w) e7 (do A9 (.ref it) 0 fA;A9 (.ref it) 1 (jE ((i:Int)+1));ret x) R Tv s:=by obtain⟨o,aU,aq,hd⟩:=id hit;have az:=kr (sO (·.setIfInBounds 0 fA)) aU (Cq (p7 hd _));have hK:=p7 hd (·.setIfInBounds 0 fA);refine au (wd aU hd (by simp) (au (wd az hK (by simp) (aT ?_))));exact h _ (hit.next fA) ((oQ ..).trans (oQ ..))
theorem ah7{Q:Option Value->aK->Prop}{i:Nat}{ord:List (Int×Value)}(hit:kS s.heap it a f i es.size ep)(c4:o3 s.heap a es ep t)(hf:t.fits es.size=true)(m:Mode w s.heap a es ep t ord i f)(aw:ord.length=es.size)(ak:i<es.size)(d8:∀(e:Int×Value)(h':Heap)(fA:Value),ord[i]?=some e->kS h' it a fA (i+1) es.size ep->(Mode w s.heap a es ep t ord (i+1) fA)->(∀bV,fA=.ref bV->f=.ref bV)->mn it s.heap h'->Q (some e.2) {s with heap:=h'}):aL (aX prog w) A (ig (.ref it)) Q E s:=by
 obtain⟨AO,lh,Hp,kh⟩:=id hit;have T0:=hit.typeIs;unfold ig;refine au (EM (J4 (name:=e8 "__next__") T0 xP (nS xP T0 Ñ ?_ (U7 _))));unfold Builtin.«set_iterator.__next__»;refine au (aT ?_);dsimp only;refine au (EO lh kh ?_);change aL _ _ (setEntries a >>=_) _ _ s;obtain⟨tJ,ti,xG⟩:=id c4;refine au (Ĕ ti xG hf ?_);rw[bp (by simp)];simp only[kQ];have lt:i<ord.length:=by rw[aw];exact ak
 have d7:=cF lt;cases m with
 |text b e o=>
  subst e;dsimp only;refine au (SQ (i:=i) (sl:=0) c4 hf b ?_);have az:(Ea (w.params.setOrder a ep) es)[i]?=some ord[i]:=by rw[<-sr,<-o];exact d7
  rw[az];exact put2 hit λh' st b4=>⟨_,rfl,aT (d8 _ h' _ d7 st (.text b rfl o) (λ_ z=>nomatch z) b4)⟩
 |place b p g o sl e aA=>
  subst e;dsimp only;have aN:i<t.place.size:=by simp only[SetTable.fits,iB,o6]at hf;omega
  have xm:es[i]?=some ord[i]:=by rw[<-sr,<-o];exact d7
  refine au (ģ (sl:=sl) c4 hf b p g ?_);rw[aA,xm,y1 aN];refine put2 hit λh' st b4=>⟨_,rfl,aT (d8 _ h' _ d7 st (.place b p g o (t.place[i]+1) rfl ?_) (λ_ z=>nomatch z) b4)⟩
  exact SK g.up aN (λk aP q=>by
   rcases LG (show k<=i by omega)with q|q
   .exact sN (g.up.lt q aN)
   .subst q;exact ur _) (λk aP q=>g.up.lt (by omega) aP)
 |drawn b bV cV e mi o at_=>
  subst e;dsimp only;have lo:i<cV.length:=by omega
  obtain⟨e,az,aB⟩:=at_ i cV[i] (cF lo);obtain⟨D2,OK,ami,eB,Og⟩:=id mi;refine au (r_ OK Og ?_);dsimp only;have cX:(cV.map λk:Nat=>iF k 0).toArray[i]?=some (.int cV[i] 0):=by rw[List.getElem?_toArray,cx,cF lo];rfl
  rw[cX];dsimp only;rw[kQ];refine au (aa2 c4 hf az (au (wd lh kh (by simp) (aT ?_))));exact⟨_,rfl,aT (d8 e _ _ aB hit.aol (.drawn b bV cV rfl mi o at_) (λ_ z=>z) (oQ ..))⟩
theorem KV{R:V2->aK->Prop}{Q:Option Value->aK->Prop}(dr:A.handled=none)(k:K_ it h0 s.heap)(d8:∀h',K_ it h0 h'->Q none {s with heap:=h'}):
  aL (aX prog w) A.in1 (do let x <-newExc (.type "StopIteration") [];raiseNew x) R (λe s'=>aL (aX prog w) A (do if(<-vi e (.type "StopIteration"))=true then pure none else throw e) Q E s') s:=by refine au ?_;simp only[newExc,newTuple];refine au (m7 ?_ (by size_fits));refine au (m:=Nx _ _) (yS (a:=gm) (by first|rfl|(simp only[Nx];rfl)) (m7 ?_ (by size_fits)));have og:A.in1.handled=none:=dr;simp only[raiseNew];refine au (wpAny_handled ?_);rw[og];refine au (aT (wpAny_throw ?_));refine au (J7 (b:=true) (T:="StopIteration") ⟨_,fM _ rfl,rfl⟩ anw ?_);exact aT (d8 _ (La (La k _) _))
theorem agC{Q:Option Value->aK->Prop}{ord:List (Int×Value)}(dr:A.handled=none)(hit:kS s.heap it a f es.size es.size ep)(c4:o3 s.heap a es ep t)(hf:t.fits es.size=true)(m:Mode w s.heap a es ep t ord es.size f)(aw:ord.length=es.size)(d8:∀h',K_ it s.heap h'->Q none {s with heap:=h'}):aL (aX prog w) A (ig (.ref it)) Q E s:=by
 obtain⟨AO,lh,Hp,kh⟩:=id hit;have T0:=hit.typeIs;unfold ig;refine au (EM (J4 (name:=e8 "__next__") T0 xP (nS xP T0 Ñ ?_ (U7 _))));unfold Builtin.«set_iterator.__next__»;refine au (aT ?_);dsimp only;refine au (EO lh kh ?_);change aL _ _ (setEntries a >>=_) _ _ s;obtain⟨tJ,ti,xG⟩:=id c4;refine au (Ĕ ti xG hf ?_);rw[bp (by simp)];simp only[kQ];cases m with
 |text b e o=>
  subst e;dsimp only;refine au (SQ (i:=es.size) (sl:=0) c4 hf b ?_);have az:(Ea (w.params.setOrder a ep) es)[es.size]?=none:=by rw[<-sr,<-o];exact wB (by omega)
  rw[az];exact au (wd lh kh (by simp) (KV dr (Lb (oQ ..)) d8))
 |place b p g o sl e aA=>
  subst e;dsimp only;refine au (ģ (sl:=sl) c4 hf b p g ?_);rw[aA,y2 (bU _)];exact au (wd lh kh (by simp) (KV dr (Lb (oQ ..)) d8))
 |drawn b bV cV e mi o at_=>
  subst e;dsimp only;obtain⟨D2,OK,ami,eB,Og⟩:=id mi;refine au (r_ OK Og ?_);dsimp only;rw[y2 (by rw[fN,bk];omega)];have bz:=kr (sO (·.setIfInBounds 0 (jE 0))) lh (Cq (p7 kh _));have hK:=p7 kh (·.setIfInBounds 0 (jE 0));refine au (wd lh kh (by simp) (au (wd bz hK (by simp) ?_)));exact KV dr (Lb ((oQ ..).trans (oQ ..))) d8
end
section
variable{prog:cG}{w:bS}{A:du}{E:cc}{s:aK}{a it:Addr}{es:Array (Int×Value)}{ep:Nat}{t:kT}{l:List (Int×Tok)}
structure WZ(w:bS)(h h':Heap)(a it:Addr)(l:List (Int×Tok))(es:Array (Int×Value))(ep:Nat)(t:kT)(ord:List (Int×Value))(f:Value):Prop where
 set:o3 h' a es ep t
 fits:t.fits es.size=true
 pm:es.toList.Perm (l.map ent)
 po:ord.Perm es.toList
 apE:kS h' it a f 0 es.size ep
 nI:Mode w h' a es ep t ord 0 f
 new:h.objs.size<=it
 ext:∀b o,h.get? b=some o->h'.get? b=some o
 js:∀bV,f=.ref bV->bV≠it/\h.objs.size<=bV
theorem ah8{Q:cc}(c4:jC w s.heap a l)(d8:∀h' d' it es ep t ord f,WZ w s.heap h' a it l es ep t ord f->Q (.ref it) {s with heap:=h',drawn:=d'}):aL (aX prog w) A (AR (.ref a)) Q E s:=by
 obtain⟨o,es,ep,t,aU,av,hd,aN,aw,hf,bE⟩:=c4;have l2:o3 s.heap a es ep t:=⟨o,aU,hd⟩
 have T0:s.TypeIs (.ref a) "set":=⟨o,aU,av.1⟩
 refine Sg T0 adV (nS adV T0 Ÿ ?_ (PySem.F.args_set_iter_1 _));unfold Builtin.«frozenset.__iter__» arb;refine au (au (aT ?_));dsimp only[aq8];refine aT ?_;unfold ara;refine au (au (Ĕ aU hd hf (aT ?_)));refine au (ae7 l2 hf ?_);have bM:=DZ aN;refine EP (λaq=>?_) (λaq=>?_)
 .have aa:jL w=false:=by
   cases aa:jL w with
   |false=>rfl
   |true=>rw[aa]at aq;cases aq
  refine au (SP es.size (dK es.size) s iD λcV d' pm=>?_);have lo:cV.length=es.size:=by rw[pm.length_eq,iD]
  refine au (aqA ?_ (by rw[bk,lo];exact Ny (by omega)));have Dx:=dm (h:=s.heap) {cls:=.type "tuple",data:=.seq (cV.map λi:Nat=>jE (i:Int)).toArray} aU;have mi:(s.heap.push {cls:=.type "tuple",data:=.seq (cV.map λi:Nat=>jE (i:Int)).toArray}).IsTuple s.heap.objs.size (cV.map λk:Nat=>iF k 0).toArray:=⟨_,fM _ rfl,rfl,_,rfl⟩
  refine au (aqG (s:={s with heap:=s.heap.push {cls:=.type "tuple",data:=.seq (cV.map λi:Nat=>jE (i:Int)).toArray},drawn:=d'}) Dx hd hf ?_);refine au (m7 ?_);refine aT ⟨_,rfl,"set_iterator",_,⟨_,fM _ rfl,rfl⟩,xP.lookup,d8 _ d' _ es ep t (cV.map λj=>es.getD j (0,.none)) _ ⟨⟨o,dm _ Dx,hd⟩,hf,aN,?_,⟨_,fM _ rfl,rfl,by simp[jE]⟩,.drawn aa s.heap.objs.size cV rfl (mi.push _) ?_ ?_,?_,λb o e=>dm _ (dm _ e),?_⟩⟩
  .refine(pm.map _).trans ?_;have:(dK es.size).map (λj=>es.getD j (0,.none))=es.toList:=by
    apply zf;intro k;rw[cx,show es.toList[k]?=es[k]? from sr];by_cases aP:k<es.size
    .rw[Ln aP,y1 aP];simp[q5,aP]
    .rw[wB (by rw[iD];omega),y2 (by omega)];rfl
   rw[this]
  .rw[bk]
  .intro k j e;have bg:j<es.size:=by have:=pm.mem_iff.mp (dV e);simpa using this
   refine⟨es[j],y1 bg,?_⟩;rw[cx,e];simp[q5,bg]
  .show s.heap.objs.size<=(s.heap.push _).objs.size;rw[sA];omega
  .intro bV z;cases z;refine⟨?_,bU _⟩;show s.heap.objs.size≠(s.heap.push _).objs.size;rw[sA];omega
 .refine au (aT (au (aqG aU hd hf ?_)));refine au (m7 ?_);have nI:∃ord,ord.Perm es.toList/\∀h',Mode w h' a es ep t ord 0 (.int 0 0):=by
   cases aa:jL w with
   |true=>exact⟨_,acH _ _,λ_=>.text aa rfl rfl⟩
   |false=>
    have g:fg t:=bE.resolve_left (by rw[aa];decide);refine⟨_,F2 _,λ_=>.place aa ?_ g rfl 0 rfl ?_⟩
    .rw[aa]at aq;simpa using aq
    .exact SK g.up (eZ _) (λi _ q=>bx q (Cm _)) (λi _ _=>eZ _)
  obtain⟨ord,po,nI⟩:=nI;refine aT ⟨_,rfl,"set_iterator",_,⟨_,fM _ rfl,rfl⟩,xP.lookup,d8 _ s.drawn _ es ep t ord (.int 0 0) ⟨⟨o,dm _ aU,hd⟩,hf,aN,po,⟨_,fM _ rfl,rfl,by simp[jE]⟩,nI _,bU _,λb o e=>dm _ e,λbV z=>nomatch z⟩⟩
noncomputable def MF(f:Value)(it:Addr):Addr:=match f with|.ref bV=>bV|_=>it
theorem aco{h0:Heap}{ord:List (Int×Value)}(dr:A.handled=none)(B:WZ w h0 h a it l es ep t ord f)(aF:a<h0.objs.size):
  sS prog w A it [it,a,MF f it] [it] es.size (λi v=>∃e,ord[i]?=some e/\v=e.2) (λi h'=>∃fA,kS h' it a fA i es.size ep/\o3 h' a es ep t/\Mode w h' a es ep t ord i fA/\(∀bV,fA=.ref bV->f=.ref bV))where
 sub:=λb aa=>by simp at aa;simp[aa]
 frame:=λi ag ai⟨fA,⟨AO,az,aB⟩,⟨tJ,cX,gB⟩,nI,sX⟩k=>by
  refine⟨fA,⟨AO,k it (by simp) _ az,aB⟩,⟨tJ,k a (by simp) _ cX,gB⟩,?_,sX⟩;cases nI with
  |text b e o=>exact .text b e o
  |place b p g o sl e aA=>exact .place b p g o sl e aA
  |drawn b bV cV e mi o at_=>
   have:=sX bV e;subst this;obtain⟨D2,bz,cv⟩:=mi;exact .drawn b bV cV e ⟨D2,k bV (by simp[MF]) _ bz,cv⟩ o at_
 item:=λi s Q E ak⟨fA,st,bY,nI,sX⟩d8=>by
  have ne:a≠it:=dR (iX aF B.new);refine ah7 st bY B.fits nI (by rw[B.po.length_eq,nU]) ak λe h' ale d7 eR anY Yi b4=>d8 e.2 h' s.toks ⟨e,d7,rfl⟩ ⟨ale,eR,?_,?_,?_⟩ λb o aa e=>(b4.2 b (λz=>aa (by simp[z]))).trans e
  .obtain⟨tJ,bz,cv⟩:=bY;exact⟨tJ,(b4.2 a ne).trans bz,cv⟩
  .cases anY with
   |text b e o=>exact .text b e o
   |place b p g o sl e aA=>exact .place b p g o sl e aA
   |drawn b bV cV e mi o at_=>
    obtain⟨D2,bz,cv⟩:=mi;exact .drawn b bV cV e ⟨D2,(b4.2 bV (B.js bV (sX bV (Yi bV e))).1).trans bz,cv⟩ o at_
  .exactλbV z=>sX bV (Yi bV z)
 done:=λs Q E⟨fA,st,bY,nI,sX⟩d8=>agC dr st bY B.fits nI (by rw[B.po.length_eq,nU]) λh' dx=>d8 h' s.toks λb o aa e=>dx b o (λz=>aa (by simp[z])) e
 self:=λi s Q E⟨fA,st,bY,nI,sX⟩d8=>by refine Sg st.typeIs ÿ (nS ÿ st.typeIs aqX ?_ (Ź _));show aL _ _ (ret (.ref it)) _ _ s;exact aT ⟨_,rfl,"set_iterator",_,st.typeIs,xP.lookup,d8⟩
end
open PySem.W
section
variable{prog:cG}{w:bS}{A:du}{E:cc}{s:aK}{a:Addr}{l:List (Int×Tok)}
theorem ae8{Q:Bool->aK->Prop}(kf:s.TypeIs (.ref a) "set")(h:Q false s):aL (aX prog w) A (ţ (.ref a)) Q E s:=by
 unfold ţ;refine au (aqI kf PySem.F.slot_set_len.lookup ?_);generalize Zm:("set.__len__":String)=ans
 wp_delta
 rw[show splitId ans=some ("set","__len__")from by subst Zm;decide+kernel];subst Zm;refine au (J7 (T:="set") (b:=true) kf (by rw[HR];kernel_rfl) ?_);refine EP (λz=>bx z (by decide)) (λ_=>EP (λ_=>?_) (λz=>bx (by decide+kernel) z));exact au (ĕ kf (aT h))
theorem ae9{ord es:List (Int×Value)}{acc:kV}(po:ord.Perm es)(ao2:es.Perm (l.map ent))(h:ItemsOf (λi v=>∃e,ord[i]?=some e/\v=e.2) acc es.length):acc.toList.Perm (l.map r'):=by
 have e:acc.toList=ord.map (·.2):=by
  apply zf;intro j;rw[cx];by_cases bg:j<es.length
  .have Dq:j<acc.size:=by rw[h.1];exact bg
   obtain⟨e,az,aB⟩:=h.2 j acc[j] (by simp[Dq]);rw[az,sr,y1 Dq];exact ht some aB
  .rw[wB (by rw[nU,h.1];omega),wB (by rw[po.length_eq];omega)];rfl
 rw[e];have:=(po.trans ao2).map (·.2);rw[gU]at this;exact this
theorem jC.typeIs(c4:jC w s.heap a l):s.TypeIs (.ref a) "set":=let⟨o,_,_,_,aU,av,_⟩:=c4;⟨o,aU,av.1⟩
theorem aa3{R:my->aK->Prop}(dr:A.handled=none)(c4:jC w s.heap a l)(S:Addr)(Y1:S≠a)(res:Value)(zS:Nat)(gp:s.heap.get? S=some {cls:=.type "list",data:=.seq #[] zS})(cK:∀h' d' a5 acc c,(∀b o,b≠S->s.heap.get? b=some o->h'.get? b=some o)->h'.get? S=some {cls:=.type "list",dict:=none,data:=.seq acc c,slots:=#[]}->acc.toList.Perm (l.map r')->R (.ok (.ret res)) {s with heap:=h',drawn:=d',toks:=a5}):
  aL (aX prog w) A.in1 (SY (.ref S) (.ref a) res)
   (λfin s'=>match fin with|.done f=>R (.ok f) s'|.again jM=>jM.quiet=true/\iH (aX prog w) A jM R s') (λe s'=>R (.error e) s') s:=by
 have kf:=c4.typeIs;have aF:a<s.heap.objs.size:=let⟨_,_,_,_,aU,_⟩:=c4;c5 aU
 have NT:S<s.heap.objs.size:=c5 gp;have ln:l.length<scanBound:=let⟨_,_,_,_,_,_,_,_,h,_⟩:=c4;h
 unfold SY;refine au (ĕ (T:="set") kf ?_);have ag:Ť (.ref S) (.ref a)=false:=by simp[Ť,Y1]
 have ai:(nk "set"==nk "list")=false:=by decide
 have bK:(nk "set"==nk "tuple")=false:=by decide
 simp only[ag,ai,bK,Ŝ,m9,if_false];refine au (ah8 c4 λh' d' it es ep t ord f B=>?_);have z:=DZ B.pm;have W:=aco (prog:=prog) (A:=A.in1) dr B aF;have è:∃fA,kS h' it a fA 0 es.size ep/\o3 h' a es ep t/\Mode w h' a es ep t ord 0 fA/\(∀bV,fA=.ref bV->f=.ref bV):=⟨f,B.apE,B.set,B.nI,λ_ z=>z⟩
 have u2:S∉[it,a,MF f it]:=λhm=>by
  have cE:=B.new;rcases dv.mp hm with e|hm
  .exact bx e (dR (iX NT cE))
  rcases dv.mp hm with e|hm
  .exact Y1 e
  have e:=g5.mp hm;cases f with
  |ref bV=>exact bx e (dR (iX NT (B.js bV rfl).2))
  |_=>exact bx e (dR (iX NT cE))
 have NO:=B.ext _ _ gp;have key:∀(ai:Heap)(k6 a5:Nat),(∃fA,kS ai it a fA 0 es.size ep/\o3 ai a es ep t/\Mode w ai a es ep t ord 0 fA/\(∀bV,fA=.ref bV->f=.ref bV))->(∀b o,b≠S->s.heap.get? b=some o->ai.get? b=some o)->
   ai.get? S=some {cls:=.type "list",data:=.seq #[] k6}->iH (aX prog w) A (.builtin "list.extend.loop" ⟨[.ref S,.ref it,res],[]⟩) R {s with heap:=ai,drawn:=d',toks:=a5}:=by
  intro ai k6 a5 st aP Hf;refine codeAny_extend_loopS W.toS (Ny (by omega)) S u2 res es.size 0 _ #[] k6 rfl (eZ _) st Hf (ItemsOf.nil _) λs' acc jM hm xD qx=>?_;rw[Moved.eq_with hm];refine cK s'.heap d' s'.toks acc jM (λb o aa e=>hm.heap b o (λvb=>?_) (aP b o aa e)) xD (ae9 B.po B.pm (by rw[nU];exact qx));rcases dv.mp vb with bJ|vb
  .exact aa bJ
  .have:=c5 e;have cE:=B.new;rw[g5.mp vb]at this;exact bx this (ac7.mpr cE)
 have td:jC w h' a l:=c4.at' λo e=>B.ext _ _ e;refine au (hA (ae8 (jC.typeIs (s:={s with heap:=h',drawn:=d'}) td) ?_));refine EP (λ_=>?_) (λ_=>aT ⟨lF adP _,key _ zS _ è (λb o _ e=>B.ext _ _ e) NO⟩);refine au (pS ?_);refine au ?_;show aL _ _ (yJ S (·.push .none) >>=λ_=>yJ S (·.pop)) _ _ _;refine au (sa NO rfl ?_);have Hf:=kr (nZ (·.push gm)) NO rfl;refine sa (hz:=by seq_fits) Hf rfl ?_;have al3:=kr (nZ (·.pop)) Hf rfl;have Φ:∀b o,b≠S->h'.get? b=some o->((h'.update S (nZ (·.push gm))).update S (nZ (·.pop))).get? b=some o:=λb o aa e=>(je _ _ (c2 aa)).trans ((je _ _ (c2 aa)).trans e);exact aT ⟨lF adP _,key _ _ _ (W.frame 0 _ _ è λb aa o e=>Φ b o (λz=>u2 (z▸aa)) e) (λb o aa e=>Φ b o aa (B.ext _ _ e)) al3⟩
theorem aaj{R:List Value->aK->Prop}(dr:A.handled=none)(c4:jC w s.heap a l)(h:∀(h':Heap)d'(a5:Nat)(vs:c7),(∀b o,s.heap.get? b=some o->h'.get? b=some o)->vs.Perm (l.map r')->R vs {s with heap:=h',drawn:=d',toks:=a5}):
  aL (aX prog w) A (collect (.ref a)) R E s:=by
 have aF:a<s.heap.objs.size:=let⟨_,_,_,_,aU,_⟩:=c4;c5 aU
 unfold collect;refine au (ē (kz entry_proto_collect' ?_));rw[mm PySem.F.plain_proto_collect _];show aL _ A.in1 (newList [] >>=λl=>again (.builtin "list.__iadd__" ⟨[l,.ref a],[]⟩)) _ _ s;refine au (m7 ?_);refine aT ⟨lF adQ _,kz entry_list_iadd' ?_⟩;rw[mm adQ _];have gp:(s.heap.push {cls:=.type "list",data:=.seq ([]:c7).toArray}).get? s.heap.objs.size=some {cls:=.type "list",data:=.seq #[]}:=fM _ rfl;show aL _ A.in1 (SY (.ref s.heap.objs.size) (.ref a) (.ref s.heap.objs.size)) _ _ _;have key:=aa3 (A:=A) (s:={s with heap:=s.heap.push {cls:=.type "list",data:=.seq ([]:c7).toArray}})
  (R:=λ(q:my)(s':aK)=>∃(h':Heap)(d':Drawn)(a5:Nat)(acc:kV)(c:Nat),q=.ok (.ret (.ref s.heap.objs.size))/\s'={s with heap:=h',drawn:=d',toks:=a5}/\
   (∀b o,s.heap.get? b=some o->h'.get? b=some o)/\h'.get? s.heap.objs.size=some {cls:=.type "list",dict:=none,data:=.seq acc c,slots:=#[]}/\acc.toList.Perm (l.map r'))
  (prog:=prog) dr (c4.at' λo e=>dm _ e) s.heap.objs.size (zC aF) (.ref s.heap.objs.size) 0 gp
  (λh' d' a5 acc c aP xD qx=>⟨h',d',a5,acc,c,rfl,rfl,λb o e=>aP b o (dR (c5 e)) (dm _ e),xD,qx⟩)
 refine gi key (λfin s' x=>?_) λe s' x=>?_
 .cases fin with
  |done f=>
   obtain⟨h',d',a5,acc,c,e,rfl,aP,xD,qx⟩:=x;cases e;show aL _ A (load s.heap.objs.size >>=_) _ _ _;refine au (Ē xD ?_);exact aT (h h' d' a5 acc.toList aP qx)
  |again k6=>
   refine⟨x.1,qm x.2 λq s2 y=>?_⟩;obtain⟨h',d',a5,acc,c,rfl,rfl,aP,xD,qx⟩:=y;show aL _ A (load s.heap.objs.size >>=_) _ _ _;refine au (Ē xD ?_);exact aT (h h' d' a5 acc.toList aP qx)
 .obtain⟨_,_,_,_,_,bJ,_⟩:=x;cases bJ
end
noncomputable def v'(w:bS)(a:Addr)(ns:fp):f_:=.ext λh=>∃l:List (Int×Tok),(l.map (·.1)).Perm ns/\jC w h a l
noncomputable def intOf:Value->Int|.int n _=>n|_=>0
theorem WQ:∀{ns:fp}{its:c7},cN (ns.map V.int) its->∃l:List (Int×Tok),its=l.map r'/\l.map (·.1)=ns
 |[],[],_=>⟨[],rfl,rfl⟩
 |n::ns,_::its,.cons h r=>by obtain⟨l,rfl,rfl⟩:=WQ r;obtain⟨t,rfl⟩:=h;exact⟨(n,t)::l,rfl,rfl⟩
theorem TO{l:List (Int×Tok)}:∀{vs:c7},(∀v∈vs,∃p:Int×Tok,v=r' p)->cN ((vs.map intOf).map V.int) vs
 |[],_=>.nil
 |v::vs,h=>.cons (by obtain⟨p,rfl⟩:=h v (by simp);exact⟨p.2,rfl⟩) (TO (l:=l) λv bj=>h v (by simp[bj]))
theorem agD{xs ys:fp}(p:xs.Perm ys)(av:xs.Pairwise (· < ·))(cM:ys.Pairwise (· < ·)):xs=ys:=
 p.eq_of_pairwise (λa b _ _ ag ai=>bx (Int.lt_trans ag ai) (Int.lt_irrefl _)) av cM
section
variable{X:bo}
theorem Inv.drew{σ:List (Option V)}(I:Inv X pins σ H s)(d':Drawn):Inv X pins σ H {s with drawn:=d'}:=⟨I.ok,I.os,I.bare,I.base,I.loc,I.cell,I.free,I.mR,I.pin,I.bf,I.len⟩
inductive ai3(w:bS)(K:aY)(xs:aW)(H:ae)(Q:a'):Prop where
 |mk (p:Addr) (ns:fp) (bM:xs=[.ref p]) (bu:bI K H p (ns.map V.int)) (bW:ns.Nodup) (cW:ns.length<1000) (dD:∀q,H q=none->Q (.ref q) (upd H q (v' w q ns)))
theorem aa4(aq:X.calm=true):jV X (.type "set") (ai3 X.w X.K):=by intro pins s σ H xs us Q I r h;obtain⟨p,ns,rfl,a8,aI,aw,q⟩:=h;obtain⟨u,rfl,ez⟩:=vals1 r;cases ez;obtain⟨its,cf,pt,hz⟩:=I.tuple a8;obtain⟨l,rfl,rfl⟩:=WQ cf;rw[bk]at aw;refine aai (l:=l) (I.ok.hd aq) pt rfl aI (by unfold scanBound;omega) λh' a5 c4 bP=>?_;refine⟨.ref s.heap.objs.size,_,I.laid bP (bU _) ?_,rfl,q _ (I.bf.fresh (bU _))⟩;obtain⟨o,es,ep,t,aU,b9⟩:=id c4;refine⟨⟨l.reverse,?_,c4⟩,⟨o,aU⟩,λag ai⟨pv,pl,s1⟩ef=>⟨pv,pl,s1.at' ef⟩⟩;rw[ab4];exact List.reverse_perm _
inductive ai4(w:bS)(xs:aW)(H:ae)(Q:a'):Prop where
 |mk (p:Addr) (ns:fp) (bM:xs=[.ref p]) (bu:H p=some (v' w p ns)) (bW:ns.Pairwise (· < ·)) (cW:ns.length<64) (dD:∀q,H q=none->Q (.ref q) (upd H q (.lst (ns.map V.int))))
theorem aqY(aq:X.calm=true):jV X (.builtin "sorted") (ai4 X.w):=by
 intro pins s σ H xs us Q I r h;obtain⟨p,ns,rfl,a8,up,HX,q⟩:=h;obtain⟨u,rfl,ez⟩:=vals1 r;cases ez;obtain⟨⟨l,pl,c4⟩,_,_⟩:=(show eI X.prog X.w H s.heap p (v' X.w p ns)from I.bf p _ a8)
 have dr:X.A.handled=none:=I.ok.hd aq;refine S4 Z0 Ã Yo (XP (.ref p)) ?_;unfold Builtin.«sorted»;refine au (m:=X0 "sorted" 1 1 _) (aT ?_);refine au (aaj (A:=X.A.in1) dr c4 λag d' a5 vs e4 U=>?_);have lL:vs.length=ns.length:=by rw[U.length_eq,bk,<-pl.length_eq,bk]
 have cf:cN ((vs.map intOf).map V.int) vs:=TO (l:=l) λv bj=>by obtain⟨y,_,rfl⟩:=b7.mp (U.mem_iff.mp bj);exact⟨y,rfl⟩
 have eC:(vs.map intOf).Perm ns:=by refine(U.map intOf).trans ?_;rw[gU];exact pl
 have es:sortI (vs.map intOf)=ns:=agD ((sortI_perm _).trans eC) (TM (eC.nodup_iff.mpr (up.imp λh=>aa7 h))) up;have big:vs.length<=sizeLine:=by rw[tR];omega
 have aR:Inv X pins σ H {s with heap:=ag,drawn:=d',toks:=a5}:=Inv.drew (I.kept (t':=a5) λb o e=>e4 b o e) d';refine au (Sf ?_ big);have bl:(ag.push (iv "list" vs.toArray 0)).get? ag.objs.size=some (iv "list" vs.toArray 0):=fM _ rfl;refine au (hA (nS â ⟨_,bl,rfl⟩ Yn ?_ (XO _)));refine KC (s:={s with heap:=ag.push (iv "list" vs.toArray 0),drawn:=d',toks:=a5}) (κ:=II) (lt:=ltI (vs.map intOf)) bl (by omega) (λai s1 x mx d8=>RT cf ai d8) (λai s1 x i j C ak bg ey=>SH cf ak bg ey) λh' c x aq=>?_;refine⟨_,rfl,aT ⟨_,rfl,?_⟩⟩;refine⟨.ref ag.objs.size,_,aR.laid (a:=ag.objs.size) (o:=.lst (ns.map V.int)) (t':=a5) (λb o q=>x b o (dR (c5 q)) (dm _ q)) (bU _) ?_,rfl,q _ (aR.bf.fresh (bU _))⟩;rw[<-es,<-Km];refine⟨?_,_,c,IV cf,aq⟩;rw[JC,bk,bk];exact big
end
section
variable{prog:cG}{w:bS}{A:du}{E:cc}{s:aK}
theorem agE{hu iN hS i5:Int}{Q:cc}(av:wx s.heap a #[.int hu t1,.int iN dU])(cM:wx s.heap b #[.int hS iz,.int i5 iA])(b_:A.units<cLine)(h:Q (.bool (if hu=hS then decide (i5<=iN)else decide (hS<=hu))) s):aL (aX prog w) A (gA .GtE (.ref a) (.ref b)) Q E s:=by
 obtain⟨tJ,ti,Oa,na,xG⟩:=av;obtain⟨ob,oi,Ob,nb,jx⟩:=cM;have mD:s.TypeIs (.ref a) "tuple":=⟨tJ,ti,Oa⟩
 have qc:s.TypeIs (.ref b) "tuple":=⟨ob,oi,Ob⟩
 show aL _ _ (I3 .GtE (.ref a) (.ref b)) _ _ _;refine aqF (op:=.GtE) mD qc F.slot_tuple_ge (nS F.slot_tuple_ge mD F.entry_tuple_ge ?_ (F.args_tuple_ge_2 _ _)) b_;show aL _ _ (vi (.ref b) (.type "tuple") >>=_) _ _ s;refine au (J7 qc anx ?_);simp only[BJ,m9,if_false];refine au (Sh ti xG ?_);refine au (Sh oi jx ?_);refine au ?_;simp only[acb,acd,abV,abW];refine au (au (J6 ?_));by_cases az:hu=hS
 .rw[bB az]at h;have e5:(hu==hS)=true:=by simp[az]
  rw[e5];simp only[BJ,m9,if_false];refine aT (au (au (J6 ?_)));by_cases aB:iN=i5
  .have eT:(iN==i5)=true:=by simp[aB]
   rw[eT];simp only[BJ,m9,if_false];refine aT (aT ?_);refine aT ⟨_,rfl,(λz=>nomatch z),?_⟩;rw[cT (by omega)]at h;exact h
  .have eT:(iN==i5)=false:=by simp[aB]
   rw[eT];simp only[Kz,if_true];refine au (pS (au ?_));show aL _ _ (gA .GtE (iF iN dU) (iF i5 iA)) _ _ _;exact ge_int (au (aT (aT (aT (aT ⟨_,rfl,(λz=>nomatch z),h⟩)))))
 .rw[bp az]at h;have e5:(hu==hS)=false:=by simp[az]
  rw[e5];simp only[Kz,if_true];refine au (pS (au ?_));show aL _ _ (gA .GtE (iF hu t1) (iF hS iz)) _ _ _;exact ge_int (au (aT (aT (aT (aT ⟨_,rfl,(λz=>nomatch z),h⟩)))))
end
section
variable{X:bo}
theorem ah9(b_:X.A.units<cLine):fO X (gA .GtE) (λx y H Q=>∃a b hu iN hS i5,x=.ref a/\y=.ref b/\bI X.K H a [.int hu,.int iN]/\bI X.K H b [.int hS,.int i5]/\Q (.aA (if hu=hS then decide (i5<=iN)else decide (hS<=hu))) H):=by
 intro pins s σ H x y v u Q I bt bC h;obtain⟨a,b,hu,iN,hS,i5,rfl,rfl,aF,aa,q⟩:=h;cases bt;cases bC;obtain⟨xs,b3,t1,_⟩:=I.tuple aF;obtain⟨ys,dh,dU,_⟩:=I.tuple aa;cases b3 with
 |cons dz b3=>
  cases b3 with
  |cons d_ b3=>
   cases b3;cases dh with
   |cons bz dh=>
    cases dh with
    |cons cv dh=>
     cases dh;obtain⟨_,rfl⟩:=dz;obtain⟨_,rfl⟩:=d_;obtain⟨_,rfl⟩:=bz;obtain⟨_,rfl⟩:=cv;exact agE t1 dU b_ (fY I q rfl)
end
end cH
namespace df
open PySem ar cH di
section
variable{P:cG}{w:bS}{K:aY}{mg:cw}{base:Heap}
noncomputable def CM(st:Step):List ar.V:=[.str st.gq,.int st.due,GV st.MS]
noncomputable def tI(H:ae)(et:Addr)(ay:eK):Prop:=∃r5:List Addr,H et=some (.lst (aG r5))/\bO (λa ss=>H a=some (.tup (CM (lB ss)))) r5 ay
theorem tI.same(h:tI H et ay)(s:aH H H'):tI H' et ay:=by obtain⟨r5,ag,ai⟩:=h;exact⟨r5,s _ _ ag,bO.gL ai λ_ _ e=>s _ _ e⟩
noncomputable abbrev IK:List Str:=["_law_lines","_law_letters","_law_stood","_law_bag"]
noncomputable abbrev an5:List Str:=["_law_lines","_law_letters","_law_stood","_law_bag","_law_turn","_law_road_here","_law_numbers","_law_n"]
noncomputable abbrev I8:Stmt:=top 62
inductive XJ(vs:aW)(H:ae)(Q:a')(el:bX):Prop where
 |mk (b er et dS:Addr) (hs:bF) (rs kH:cj) (ds:ck) (a6:qd) (ay:eK) (eG:Option eO) (cO:eO×List Nat) (bM:vs=[.ref b,.ref er,.ref et,.ref dS]) (bu:H b=some (.lst (aG rs))) (bW:H er=some (.lst (aG kH))) (cW:fa H kH (a6.map lA)) (dD:hr H hs rs ds) (eS:tI H et ay) (hB:i7 H dS cO) (lN:BZ hs ds (d0 a6) ay eG cO) (nT:a6.length=ay.length) (sh:ay.length<=40) (we:b≠et/\er≠et)
   (Ĥ:∀H',(∀b v,b≠et->H b=some v->H' b=some v)->tI H' et (jz (stepK hs ds cO.1) cO.2 ay)->Q (.aA true) H')
theorem CN:c3 an5 IK (cn I8):={}
theorem TP{α β:Type}{F:α->β->Prop}{a:α}{b:β}(q:F a b):∀{xs:List α}{ys:List β}(n:Nat),bO F xs ys->bO F (xs.set n a) (ys.set n b)
 |_,_,_,.nil=>.nil
 |_,_,0,.cons _ r=>.cons q r
 |_,_,n+1,.cons h r=>.cons h (TP q n r)
theorem ai5{n i:Nat}(h:i<n):rE n (i:Int)=some i:=by unfold rE;simp;omega
theorem ai6{H:ae}{ns:dN}(h:H c=some (.tup (ns.map λn:Nat=>V.int n))):lO K H (.ref c) (.tuple ((e2 ns).map uu)):=.tup (bI.of h) (by
 have e:ns.map (λn:Nat=>V.int n)=(e2 ns).map V.int:=by unfold e2;rw[gU];rfl
 rw[e];exact Sz _)
theorem acp(ns:fp):n3 (.tuple (ns.map uu))=true:=by refine tu (n:=1) (E' ns) ?_ (by decide);exact Sy ns
theorem afa{ay:eK}{eG:Option eO}{cO:eO×List Nat}(js:BZ hs ds bT ay eG cO)(Z2:ay.length<=40):cO.2.length<=40:=by have aI:cO.2.Nodup:=js.A5.imp λh=>dR h;have:=AA (L:=dK ay.length) aI λn aM=>j5.mpr (js.lt n aM);rw[iD]at this;omega
inductive ajE(H:ae)(b er et dS c:Addr)(cO:eO×List Nat)(hs:bF)(ds:ck)(ay:eK)(j:Nat)(σ:ar.St)(dG:ae):Prop where
 |mk (t5:kW) (bM:σ=[some (.ref b),some (.ref er),some (.ref et),some (.ref dS),some (.int cO.1.1),some (.int (cO.1.2:Int)),some (.ref c),t5]) (bu:∀x v,x≠et->H x=some v->dG x=some v) (bW:tI dG et (jz (stepK hs ds cO.1) (cO.2.take j) ay))
seal gw bq gI g6
theorem ai7(F:cC K "_law_bag_fits" "_law_bag_fits" I8 f fd)(B:fk mg):aS P w K mg base bh 1 f fd IK XJ:=by
 refine F.ok CN (λ_ A _ s H vs Q E ao h=>?_)
 .obtain⟨b,er,et,dS,hs,rs,kH,ds,a6,ay,eG,cO,rfl,aa,jU,pK,cK,tm,mT,js,AE,Z2,⟨nb,AK⟩,q⟩:=h;refine⟨_,(a_ (dQ (h1.pt (lq (g9 (ip (dj oc (by rfl) B.isinstance jJ (aj (U 3) (aj (nC (by rfl) B.tuple AI) aE))))) (lq (ej BD (dj fQ (by rfl) B.len fG (aj (U 3) aE)) aV (dB _)) (lq (g9 (ip (dj oc (by rfl) B.isinstance jJ (aj (bG c1 (U 3) aV (λ_ _=>rfl)) (aj (nC (by rfl) B.tuple AI) aE))))) (pw (ej (K1 ao.units) (bG c1 (U 3) aV (λ_ _=>rfl)) (kF aE) (dB _))))))) (bb (cp iq)) dW)
   (a_ (Vw (U 3) (EG rfl (mQ (eu (i:=4) CN.aI rfl (cR rfl)) (mQ (eu (i:=5) CN.aI rfl (cR rfl)) (mQ (eu (i:=6) CN.aI rfl (cR rfl)) x')))))
   (a_ (dQ (h1.pt (lq (g9 (vz kG nH aV (U 5) (dj fQ (by rfl) B.len fG (aj (U 0) aE)))) (lq (ej qM (dj fQ (by rfl) B.len fG (aj (U 6) aE)) (bG c1 (bG e3 (U 0) (U 5) (λ_ _=>rfl)) aV (λ_ _=>rfl)) (dB _)) (pw (ej (Bo ao.units) (n9 u0 (by rfl) B.list qC (aj (U 6) aE)) (dj (aqY rfl) (by rfl) B.sorted IW (aj (n9 (aa4 rfl) (by rfl) B.Ý VH (aj (U 6) aE)) aE)) (dB _)))))) (bb (cp iq)) dW)
   (a_ (jR j6 rfl (EH (U 6)) (eu (i:=7) CN.aI rfl (cR rfl))
    (a_ (dQ (h1.pt (lq (g9 (vz kG nH aV (U 7) (dj fQ (by rfl) B.len fG (aj (U 1) aE)))) (lq (ej BD (bG c1 (bG e3 (U 2) (U 7) (λ_ _=>rfl)) aV (λ_ _=>rfl)) (bG c1 (bG e3 (U 0) (U 5) (λ_ _=>rfl)) aV (λ_ _=>rfl)) (dB _)) (pw (ej qM (bG c1 (bG e3 (U 2) (U 7) (λ_ _=>rfl)) aV (λ_ _=>rfl)) (U 4) (dB _)))))) (bb (cp iq)) dW)
   (a_ (dQ (ej jW (bG c1 (bG e3 (U 2) (U 7) (λ_ _=>rfl)) aV (λ_ _=>rfl)) (bG c1 (bG e3 (U 1) (U 7) (λ_ _=>rfl)) aV (λ_ _=>rfl)) (dB _)) (bb (cp iq)) dW)
   (bb (Vw (kF (aj (bG c1 (bG e3 (U 0) (U 5) (λ_ _=>rfl)) aV (λ_ _=>rfl)) (aj (cq i1 (U 4) (bG c1 (bG e3 (U 0) (U 5) (λ_ _=>rfl)) aV (λ_ _=>rfl))) (aj (U 5) aE)))) (ag0 (U 2) (U 7) set_list))))))
   (bb (cp iq)))))),?_⟩
  dsimp only[lD,lu];obtain⟨c,hP,fS⟩:=mT;obtain⟨r5,xK,jy⟩:=tm;have aA:(cO.2.map λn:Nat=>V.int n).length=cO.2.length:=bk _;have aB:cO.2.map (λn:Nat=>V.int n)=(e2 cO.2).map V.int:=by unfold e2;rw[gU];rfl
  refine cut λux zW=>?_;refine⟨_,rfl,_,_,_,_,_,rfl,⟨rfl,.tup hP,rfl⟩,_,rfl,?_⟩;refine dw rfl ⟨_,rfl,dS,_,rfl,.inr (bI.of hP),rfl,_,rfl,?_⟩;refine dw rfl ⟨_,rfl,dS,_,_,_,rfl,rfl,bI.of hP,rfl,_,_,_,_,_,rfl,⟨rfl,.tup fS,rfl⟩,_,rfl,?_⟩;refine dw rfl ⟨_,rfl,dS,_,_,_,rfl,rfl,bI.of hP,rfl,eZ _,λcD vI=>?_⟩;refine⟨_,.tuple [],ai6 (by rw[aD (cA fS vI)];exact fS),.tup (bI.of aQ) .nil,acp _,by decide,_,rfl,?_⟩;have DY:hn (.tuple ((e2 cO.2).map uu)) (.tuple [])=false:=by
   have:=js.ne;unfold e2;cases N3:cO.2 with
   |nil=>exact bx N3 this
   |cons x r=>rfl
  refine dw DY ?_;change ux _ _ _;subst zW;have tO:=b8 (o:=.tup []) vI;have Y3:=tO _ _ hP;have Hk:=tO _ _ fS;generalize upd H cD (.tup [])=ah at tO Y3 Hk⊢;refine⟨_,rfl,dS,_,rfl,bI.of Y3,rfl,_,_,rfl,_,_,rfl,_,_,rfl,rfl,?_⟩;dsimp only;refine cut λux zW=>?_;have fb:rs.length=ds.length:=cK.len;have am3:(0:Int)<=(cO.1.2:Int):=Uj _;have OM:(cO.1.2:Int)<((aG rs).length:Int):=by rw[d6,fb];exact Lg.mpr js.rd
  refine⟨_,rfl,_,_,rfl,rfl,_,rfl,eQ (cT am3) ?_⟩;refine⟨_,rfl,b,_,rfl,.inl (aC.of (tO _ _ aa)),_,_,rfl,rfl,_,rfl,?_⟩;refine dw (by simp only[cT OM];rfl) ?_;obtain⟨hV,era⟩:∃hV,rs[cO.1.2]?=some hV:=⟨_,cF (by rw[fb];exact js.rd)⟩
  obtain⟨d,dp,tK,hd⟩:=cK.get era;have uA:ar.gn (aG rs) (cO.1.2:Int)=some (.ref hV):=il (by unfold aG;rw[cx,era];rfl);have akV:ds.getD cO.1.2 qS=d:=lx dp;have C2:m4 hs d=[.str (oG hs ds cO.1.2),.str (q2 hs ds cO.1.2),.int (tN ds cO.1.2),.int (md ds cO.1.2)]:=by unfold m4 oG q2 tN md;rw[akV]
  rw[C2]at hd;have hd2:=tO _ _ hd;have amc:=tO _ _ aa;refine⟨_,rfl,c,_,rfl,.inr (bI.of Hk),_,rfl,_,rfl,b,_,_,_,rfl,rfl,aC.of amc,uA,hV,_,_,_,rfl,rfl,bI.of hd2,rfl,_,_,rfl,rfl,_,rfl,?_⟩;refine dw (dn (by rw[aA];have:=js.room;omega)) ?_;have up:(e2 cO.2).Pairwise (· < ·):=by unfold e2;rw[wF];exact js.A5.imp λh=>Lg.mpr h
  have c6:=afa js Z2;have Iu:(e2 cO.2).length=cO.2.length:=bk _;refine⟨_,rfl,c,_,rfl,.inr (bI.of Hk),λl nl=>?_⟩;have s3:=b8 (o:=.lst (cO.2.map λn:Nat=>V.int n)) nl;have Ac:upd ah l (.lst (cO.2.map λn:Nat=>V.int n)) l=some (.lst ((e2 cO.2).map V.int)):=by rw[aQ,aB]
  have Y4:upd ah l (.lst (cO.2.map λn:Nat=>V.int n)) c=some (.tup ((e2 cO.2).map V.int)):=by rw[<-aB];exact s3 _ _ Hk
  have tP:=tO.trans s3;generalize upd ah l (.lst (cO.2.map λn:Nat=>V.int n))=aZ at s3 Ac Y4 tP⊢;refine⟨_,rfl,c,e2 cO.2,rfl,bI.of Y4,up.imp (λh=>aa7 h),(by omega),λbz aoH=>?_⟩;have s4:=b8 (o:=v' w bz (e2 cO.2)) aoH;refine⟨bz,e2 cO.2,rfl,aQ,up,(by omega),λcv aoI=>?_⟩;have s5:=b8 (o:=.lst ((e2 cO.2).map V.int)) aoI;have QW:=s4.trans s5;have Hx:=QW _ _ Ac;have ZJ:upd (upd aZ bz (v' w bz (e2 cO.2))) cv (.lst ((e2 cO.2).map V.int)) cv=some (.lst ((e2 cO.2).map V.int)):=aQ;have yt:=tP.trans QW;clear s4 s5;have b5:n3 (xQ (e2 cO.2))=true:=tu (n:=1) (E' _) (Sy _) (by decide);refine⟨_,_,Kr (aC.of (show _=_ from Hx)),Kr (aC.of (show _=_ from ZJ)),b5,b5,_,rfl,?_⟩;refine dw (by simp[Ji _ (E' (e2 cO.2))]) ?_;change ux _ _ (upd (upd aZ bz (v' w bz (e2 cO.2))) cv (.lst ((e2 cO.2).map V.int)));have yt:aH H (upd (upd aZ bz (v' w bz (e2 cO.2))) cv (.lst ((e2 cO.2).map V.int))):=yt;clear Hx ZJ QW;generalize upd (upd aZ bz (v' w bz (e2 cO.2))) cv (.lst ((e2 cO.2).map V.int))=ba at yt⊢;have hi:∀{x:Addr}{y:aW},H x=some (.tup y)->x≠et:=λ{x y}e z=>by rw[z,xK]at e;cases e
  subst zW;refine⟨_,rfl,c,rfl,⟨_,bI.of (yt _ _ fS)⟩,?_⟩;refine Kc (K:=K) (a:=c) (xs:=cO.2.map λn:Nat=>V.int n) (ajE H b er et dS c cO hs ds ay) ⟨none,rfl,λx v _ e=>yt _ _ e,?_⟩ (λj σ dG _⟨_,_,aP,_⟩=>bI.of (aP c _ (hi fS) fS)) ?_ ?_
  .rw[Ga,Ĭ];exact⟨r5,yt _ _ xK,bO.gL jy λ_ _ e=>yt _ _ e⟩
  .rintro j z σ dG ee ⟨RX,rfl,aP,⟨Q',Af,OQ⟩⟩;rw[cx]at ee;obtain⟨i,d7,rfl⟩:=e0.mp ee;have Zp:=dV d7;have ak:=js.lt i Zp;obtain⟨apJ,st,y,es,da,h5⟩:=js.h5 i Zp;have DT:cO.2.Nodup:=js.A5.imp λh=>dR h;have DV:i∉cO.2.take j:=λz=>by
    have bg:=(eb.mp d7).1;have aB:=Lz j cO.2;rw[F5 bg]at aB;rw[<-aB,F9]at DT;have cX:cO.2[j]=i:=by rw[cF bg]at d7;exact gV d7
    exact DT.2.2 i z i (by rw[cX];exact .head _) rfl
   have ga:(jz (stepK hs ds cO.1) (cO.2.take j) ay)[i]?=some (apJ++[st]):=by rw[pb,es];simp[DV]
   have ln:=gW OQ;rw[qt]at ln;obtain⟨bY,Yr⟩:∃bY,Q'[i]?=some bY:=⟨_,cF (by omega)⟩
   obtain⟨ç,s6,Ag⟩:=bO.get OQ Yr;rw[ga]at s6;cases s6;rw[QI]at Ag;unfold zB at h5;simp only[iB,decide_eq_true_eq]at h5;obtain⟨aop,here,due⟩:=h5;have z':=aP hV _ (hi hd) hd;have N4:=aP b _ nb aa;have Zz:=aP er _ AK jU;have as:ar.gn (aG Q') (i:Int)=some (.ref bY):=il (by unfold aG;rw[cx,Yr];rfl);have dA:=pK.len;rw[bk]at dA;obtain⟨nG,zX⟩:∃nG,kH[i]?=some nG:=⟨_,cF (by omega)⟩
   obtain⟨ld,Yl,Hy⟩:=bO.get pK zX;rw[cx]at Yl;obtain⟨e6,akZ,rfl⟩:=e0.mp Yl;have sY:e6.2.2=y:=by unfold d0 at da;rw[cx,akZ]at da;exact gV da
   have amJ:=aP nG _ (hi Hy) Hy;have al:ar.gn (aG kH) (i:Int)=some (.ref nG):=il (by unfold aG;rw[cx,zX];rfl);have amB:(i:Int)<((aG kH).length:Int):=by rw[d6];omega
   refine⟨_,rfl,_,_,rfl,rfl,_,rfl,eQ (cT (Uj _)) ⟨_,rfl,er,_,rfl,.inl (aC.of Zz),_,_,rfl,rfl,_,rfl,?_⟩⟩;refine dw (by simp only[cT amB];rfl) ?_;refine⟨_,rfl,_,rfl,et,_,_,_,rfl,rfl,aC.of Af,as,bY,_,_,_,rfl,rfl,bI.of Ag,rfl,_,rfl,_,rfl,b,_,_,_,rfl,rfl,aC.of N4,uA,hV,_,_,_,rfl,rfl,bI.of z',rfl,rfl,_,rfl,?_⟩;refine dw (by rw[here];simp) ?_;refine⟨_,rfl,_,rfl,et,_,_,_,rfl,rfl,aC.of Af,as,bY,_,_,_,rfl,rfl,bI.of Ag,rfl,_,rfl,_,_,rfl,rfl,_,rfl,?_⟩;refine dw (dn (by omega)) ?_;refine⟨_,rfl,_,rfl,et,_,_,_,rfl,rfl,aC.of Af,as,bY,_,_,_,rfl,rfl,bI.of Ag,rfl,_,rfl,_,rfl,er,_,_,_,rfl,rfl,aC.of Zz,al,nG,_,_,_,rfl,rfl,bI.of amJ,rfl,rfl,_,rfl,?_⟩;refine dw (dn λz=>aop (by rw[V.str.inj z];exact sY)) ?_;refine⟨_,rfl,_,rfl,b,_,_,_,rfl,rfl,aC.of N4,uA,hV,_,_,_,rfl,rfl,bI.of z',rfl,_,rfl,_,rfl,_,rfl,b,_,_,_,rfl,rfl,aC.of N4,uA,hV,_,_,_,rfl,rfl,bI.of z',rfl,_,_,rfl,rfl,_,rfl,(by show 3<=sizeLine;decide),λp np=>?_⟩;have sp:=b8 (o:=.tup [V.str (q2 hs ds cO.1.2),V.int (cO.1.1+tN ds cO.1.2),V.int (cO.1.2:Int)]) np;have aoE:et≠p:=cA Af np;refine⟨_,rfl,_,rfl,et,_,_,i,rfl,rfl,sp _ _ Af,ai5 (by rw[d6];omega),?_⟩;have a5:cO.2.take (j+1)=cO.2.take j++[i]:=by rw[oT,d7];rfl
   refine⟨_,rfl,λx v e4 e=>?_,?_⟩
   .rw[aD e4];exact sp _ _ (aP x v e4 e)
   .rw[a5,Ę _ DV es];refine⟨Q'.set i p,?_,?_⟩
    .rw[aQ];unfold aG;rw[List.map_set]
    .refine TP ?_ i (bO.gL OQ λx y e=>?_)
     .rw[aD (c2 aoE),aQ,QI];rfl
     .rw[aD (λz=>by rw[z,Af]at e;cases e)];exact sp _ _ e
  .rintro σ dG ⟨RX,rfl,aP,st⟩;rw[aA,oU]at st;exact q dG aP st
unseal gw bq gI g6
noncomputable abbrev Ef:Stmt:=top 63
noncomputable abbrev yg:List Str:=B9
theorem ajF:c3 yg yg (cn Ef):={}
inductive MG(vs:aW)(H:ae)(Q:a')(el:bX):Prop where
 |mk (r a:Addr) (d:w2) (st:Step) (t:Int) (bM:vs=[.ref r,.ref a,.int t]) (bu:H r=some (.tup (lA d))) (bW:H a=some (.tup (CM st))) (cW:∀l H',H l=none->aH H H'->H' l=some (.lst (tT (v8 st d.2.2 t)))->Q (.ref l) H')
theorem ai8(F:cC K "_law_due" "_law_due" Ef f fd)(B:fk mg):aS P w K mg base bh 1 f fd yg MG:=by
 refine F.ok ajF (λ_ A _ s H vs Q E ao h=>?_)
 .obtain⟨r,a,d,st,t,rfl,OM,aF,q⟩:=h;refine⟨_,(a_ (dQ (ej qM (bG c1 (U 1) aV (λ_ _=>rfl)) (U 2) (dB _)) (bb (cp (h7 (aj g8 (aj (bG c1 (U 1) aV (λ_ _=>rfl)) (aj (bG c1 (U 1) aV (λ_ _=>rfl)) aE)))))) dW)
   (a_ (dQ (ej jW (bG c1 (U 1) aV (λ_ _=>rfl)) (bG c1 (U 0) aV (λ_ _=>rfl)) (dB _)) (bb (cp (h7 (aj g8 (aj (bG c1 (U 1) aV (λ_ _=>rfl)) aE))))) dW)
   (bb (cp (h7 (aj g8 (aj (bG c1 (U 1) aV (λ_ _=>rfl)) (aj (bG c1 (U 1) aV (λ_ _=>rfl)) aE)))))))),?_⟩
  try dsimp only[lD,lu]
  unfold v8 at q;refine⟨_,rfl,a,_,_,_,rfl,rfl,bI.of aF,rfl,_,rfl,_,_,rfl,rfl,_,rfl,?_⟩;by_cases ag:t<st.due
  .rw[bB ag]at q;refine eQ (cT ag) ?_;exact⟨_,rfl,a,_,_,_,rfl,rfl,bI.of aF,rfl,_,rfl,a,_,_,_,rfl,rfl,bI.of aF,rfl,(by show 3<=sizeLine;decide),λl nl=>q l _ nl (b8 nl) aQ⟩
  .rw[bp ag]at q;refine dw (dn ag) ?_;refine⟨_,rfl,a,_,_,_,rfl,rfl,bI.of aF,rfl,_,rfl,r,_,_,_,rfl,rfl,bI.of OM,rfl,rfl,_,rfl,?_⟩;by_cases ai:st.gq=d.2.2
   .rw[bB ai]at q;refine eQ (cT (by rw[ai])) ?_;exact⟨_,rfl,a,_,_,_,rfl,rfl,bI.of aF,rfl,(by show 2<=sizeLine;decide),λl nl=>q l _ nl (b8 nl) aQ⟩
   .rw[bp ai]at q;refine dw (dn λz=>ai (V.str.inj z)) ?_;exact⟨_,rfl,a,_,_,_,rfl,rfl,bI.of aF,rfl,_,rfl,a,_,_,_,rfl,rfl,bI.of aF,rfl,(by show 3<=sizeLine;decide),λl nl=>q l _ nl (b8 nl) aQ⟩
noncomputable def W0(a b:eO):Prop:=a.1<b.1\/(a.1=b.1/\a.2<b.2)
theorem ai9{a b:eO}(h:W0 a b):(if a.1=b.1 then decide ((b.2:Int)<=(a.2:Int))else decide (b.1<=a.1))=false:=by
 rcases h with h|⟨ag,ai⟩
 .rw[bp (by omega)];exact dn (by omega)
 .rw[bB ag];exact dn (by omega)
noncomputable def M0:Str×Int×Str:=(o4,0,o4)
noncomputable abbrev El:Stmt:=top 64
noncomputable abbrev aoe:List Str:=["_law_lines","_law_letters","_law_log","_law_shut_at","_law_stood","_law_at","_law_bag"]
noncomputable abbrev AQ:List Str:=["_law_lines","_law_letters","_law_log","_law_shut_at"]
theorem GP:c3 aoe AQ (cn El):={}
inductive MH(vs:aW)(H:ae)(Q:a')(el:bX):Prop where
 |mk (b er pp bY:Addr) (hs:bF) (rs kH as:cj) (ds:ck) (a6:qd) (rf:j7) (fin:eK) (dT:en) (bM:vs=[.ref b,.ref er,.ref pp,.ref bY]) (bu:H b=some (.lst (aG rs))) (bW:hr H hs rs ds) (cW:H er=some (.lst (aG kH))) (dD:fa H kH (a6.map lA)) (eS:kH.length<=40) (hB:H pp=some (.lst (aG as))) (lN:bO (i7 H) as rf) (nT:hH hs ds (d0 a6) (a6.map jT) none rf fin) (sh:H bY=some (.d4 dT)) (we:∀b∈rf,cy dT (hT b.1)=none)
   (E5:∀(et:Addr)(H':ae),H et=none->aH H H'->tI H' et fin->Q (.ref et) H')
inductive ajG(b er pp bY et:Addr)(H:ae)(hs:bF)(ds:ck)(rf:j7)(fst:eK)(i:Nat)(σ:ar.St)(b':ae):Prop where
 |mk (nP v6:kW) (bM:σ=[some (.ref b),some (.ref er),some (.ref pp),some (.ref bY),some (.ref et),nP,v6]) (ax:aH H b') (st:tI b' et (kC hs ds (rf.take i) fst))
seal gw bq gI g6
theorem aja(F:cC K "_law_walked" "_law_walked" El f fd)(B:fk mg)(uM:cY K mg "_law_bag_fits" I8 IK f1 dJ)(aqi:aS P w K mg base bh 1 f1 dJ IK XJ):aS P w K mg base bh 2 f fd AQ MH:=by
 refine F.ok GP (λ_ A _ s H vs Q E ao h=>?_)
 .obtain⟨b,er,pp,bY,hs,rs,kH,as,ds,a6,rf,fin,dT,rfl,aa,R,jU,pK,c6,tj,kx,b2,Ag,x9,q⟩:=h;refine⟨_,(a_ (qB (i:=4) GP.aI rfl rfl rfl (N':=["_law_letter_here"]) (cs:=[none]) rfl (kb (U 1)) rfl (by decide+kernel) rfl (by decide+kernel) (ju (λp aN=>bx aN (eo))) rfl
    (.own .nil)
    (λC s3 aZ bR eC=>⟨(eu (i:=0) (by show(["_law_letter_here"]:cb).Nodup;decide+kernel) rfl (.inl rfl)),mX,(kF (aj (bG (tw (K:=K) rfl) (U 0) aV (λ_ _=>rfl)) (aj (bG (tw (K:=K) rfl) (U 0) aV (λ_ _=>rfl)) (aj hL aE))))⟩))
   (a_ (dQ (g9 (ip (dj oc (by rfl) B.isinstance jJ (aj (U 2) (aj (nC (by rfl) B.list qC) aE))))) (bb (cp hL)) dW)
   (a_ (jR j6 rfl (JU rfl B.enumerate (aj (U 2) aE)) (EG rfl (mQ (eu (i:=5) GP.aI rfl (cR rfl)) (mQ (eu (i:=6) GP.aI rfl (cR rfl)) x')))
    (a_ (dQ (h1.pt (lq (g9 (ip (ec aqi ao.mono (by rfl) uM.at_ uM.fn.cI uM.bd .nil cm (aj (U 0) (aj (U 1) (aj (U 4) (aj (U 6) aE))))))) (pw (K4 (ahf (iO ao) (kF (aj (bG c1 (U 6) aV (λ_ _=>rfl)) (aj (bG c1 (U 6) aV (λ_ _=>rfl)) aE))) (U 3)))))) (bb (cp hL)) dW)
   (bb (dQ (h1.pt (Bn (ej qM (U 5) aV (dB _)) (Ew (ej (ah9 (LF (iO ao))) (kF (aj (bG c1 (bG e3 (U 2) (cq rL (U 5) aV) (λ_ _=>rfl)) aV (λ_ _=>rfl)) (aj (bG c1 (bG e3 (U 2) (cq rL (U 5) aV) (λ_ _=>rfl)) aV (λ_ _=>rfl)) aE))) (kF (aj (bG c1 (U 6) aV (λ_ _=>rfl)) (aj (bG c1 (U 6) aV (λ_ _=>rfl)) aE))) (dB _))))) (bb (cp hL)) dW))))
   (bb (cp (U 4)))))),?_⟩
  try dsimp only[lD,lu]
  have au9:kH.length=a6.length:=by have:=pK.len;rwa [bk]at this
  have γ:=d6 kH;have anM:∀{i:Nat}{v:ar.V},(aG kH)[i]?=some v->∃(r:Addr)(d:w2),v=.ref r/\a6[i]?=some d/\H r=some (.tup (lA d)):=λ{i v}ev=>by unfold aG at ev;rw[cx]at ev;obtain⟨r,fh,rfl⟩:=e0.mp ev;obtain⟨d',ro,pd⟩:=bO.get pK fh;rw[cx]at ro;obtain⟨d,dp,rfl⟩:=e0.mp ro;exact⟨r,d,rfl,dp,pd⟩
  refine AX ?_;refine Uw (J:=iW K er) (H1:=H) (xs:=aG kH) (rest:=[]) (λL' h=>⟨_,rfl,er,rfl,⟨_,aC.of jU⟩,h⟩) rfl (nA (aC.of jU)) (fF (by omega)) (λi v H'=>∃r,v=.ref r/\H' r=some (.tup (CM (lB (jT (a6.getD i M0)))))) ?_ ?_ (λi v ah L' ev s2 bP=>?_) (λet H1 vs IA tm lv each s1=>?_)
  .rintro i v ah aZ s3 ⟨r,rfl,e⟩;exact⟨r,rfl,s3 _ _ e⟩
  .rintro i v ah D ys zs bl ⟨r,rfl,e⟩;exact⟨r,rfl,by rw[aD (λz=>by rw[z,bl]at e;cases e)];exact e⟩
  .obtain⟨r,d,rfl,dp,hd⟩:=anM ev;refine⟨_,rfl,r,_,_,_,rfl,rfl,bI.of (s2 _ _ hd),rfl,_,rfl,r,_,_,_,rfl,rfl,bI.of (s2 _ _ hd),rfl,(by show 3<=sizeLine;decide),λt eB=>bP _ _ (b8 eB) ⟨t,rfl,?_⟩⟩;rw[aQ,lx dp];rfl
  obtain⟨HI,rfl,ð⟩:=U5 (H:=H1) (g:=λi=>CM (lB (jT (a6.getD i M0)))) vs 0 λi v ev=>by obtain⟨r,az,aB⟩:=each i v ev;exact⟨r,az,by rw[aB,LJ]⟩
  have abg:tI H1 et (kC hs ds (rf.take 0) (a6.map jT)):=by
   rw[Ga];refine⟨HI,tm,?_⟩;refine ġ (by rw[d6]at lv;show HI.length=(a6.map jT).length;rw[bk];omega) λi x y ex da=>?_;obtain⟨sU,uP,av⟩:=bO.get ð ex;have ak:i<a6.length:=by have:=(eb.mp ex).1;rw[d6]at lv;omega
   rw[cx,Ln (by rw[lv];omega)]at uP;cases uP;have da:(a6.map jT)[i]?=some y:=da;rw[cx,cF ak]at da;cases da;rw[av];show some (f_.tup (CM (lB (jT (a6.getD (0+i) M0)))))=_;rw[LJ,lx (cF ak)]
  refine⟨_,rfl,_,_,_,_,_,rfl,⟨rfl,.lst (s1 _ _ tj),rfl⟩,_,rfl,?_⟩;refine dw rfl ?_;refine⟨_,rfl,pp,rfl,⟨_,aC.of (s1 _ _ tj)⟩,?_⟩;clear ð each tm lv;have Qa:∀{x:Addr}{o:f_},H x=some o->x≠et:=λ{x o}e=>cA e IA;refine Sl (K:=K) (a:=pp) (xs:=aG as) (ajG b er pp bY et H hs ds rf (a6.map jT)) ⟨none,none,rfl,s1,abg⟩ (λi σ b'⟨_,_,_,ax,_⟩=>aC.of (ax _ _ tj)) ?_ ?_
  .rintro i z σ b' p ee ⟨nP,v6,rfl,ax,st⟩ np;unfold aG at ee;rw[cx]at ee;obtain⟨dS,xl,rfl⟩:=e0.mp ee;obtain⟨cO,M',mT⟩:=bO.get kx xl;have a5:rf.take (i+1)=rf.take i++[cO]:=by rw[oT,M'];rfl
   obtain⟨eG,nq,_,lt⟩:=b2.at_ M';have sp:=b8 (o:=.tup [V.int (i:Int),V.ref dS]) np;refine⟨p,_,rfl,bI.of aQ,rfl,_,_,rfl,_,_,rfl,rfl,?_⟩;have ax:=ax.trans sp;have st:=st.same sp;generalize upd b' p (.tup [V.int (i:Int),V.ref dS])=jH at ax st⊢;refine⟨_,rfl,_,rfl,_,rfl,_,rfl,b,er,et,dS,hs,rs,kH,ds,a6,_,eG,cO,rfl,ax _ _ aa,ax _ _ jU,pK.same ax,R.same ax,st,mT.same ax,nq,?_,?_,⟨Qa aa,Qa jU⟩,λiV cI eR=>?_⟩
   .rw[Ed,bk]
   .rw[Ed,bk];omega
   rw[<-Ķ,<-a5]at eR;have tS:aH H iV:=λx o e=>cI x o (Qa e) (ax _ _ e);refine⟨_,rfl,dw rfl ?_⟩;obtain⟨c,hP,fS⟩:=mT;have kE:=tS _ _ hP;refine⟨_,rfl,dS,_,_,_,rfl,rfl,bI.of kE,rfl,_,rfl,dS,_,_,_,rfl,rfl,bI.of kE,rfl,(by show 2<=sizeLine;decide),λD4 aoz=>?_⟩;have s0:=b8 (o:=.tup [V.int cO.1.1,V.int (cO.1.2:Int)]) aoz;have ZG:upd iV D4 (.tup [V.int cO.1.1,V.int (cO.1.2:Int)]) D4=some (.tup ((hT cO.1).map c9)):=aQ;have tS:=tS.trans s0;have eR:=eR.same s0;have kE:=s0 _ _ kE;generalize upd iV D4 (.tup [V.int cO.1.1,V.int (cO.1.2:Int)])=Ft at s0 ZG tS eR kE⊢;have M5:=ir.t (k:=hT cO.1) (tS _ _ Ag) ZG;rw[x9 cO (dV M')]at M5;refine⟨_,rfl,bY,none,rfl,M5,_,rfl,dw rfl ?_⟩;refine⟨_,rfl,_,_,rfl,rfl,_,rfl,?_⟩;by_cases ak:0<i
   .refine eQ (cT (by omega)) ?_;obtain⟨j,rfl⟩:∃j,i=j+1:=⟨i-1,by omega⟩
    have al:=gW kx;have nB:=(eb.mp xl).1;obtain⟨uE,Yd⟩:∃uE,as[j]?=some uE:=⟨_,cF (by omega)⟩
    obtain⟨br,akY,jM,qz,vc⟩:=bO.get kx Yd;have l:W0 br.1 cO.1:=by have o:=nq.ord;rw[lt j br rfl akY]at o;exact o
    have ap:ar.gn (aG as) ((((j+1:Nat):Int))-1)=some (.ref uE):=by rw[show(((j+1:Nat):Int))-1=(j:Int) by omega];exact il (by unfold aG;rw[cx,Yd];rfl)
    have ZI:=tS _ _ tj;have ZH:=tS _ _ qz;refine⟨_,rfl,_,rfl,_,_,rfl,rfl,pp,_,_,_,rfl,rfl,aC.of ZI,ap,uE,_,_,_,rfl,rfl,bI.of ZH,rfl,_,rfl,_,rfl,_,_,rfl,rfl,pp,_,_,_,rfl,rfl,aC.of ZI,ap,uE,_,_,_,rfl,rfl,bI.of ZH,rfl,(by show 2<=sizeLine;decide),λdz AM=>?_⟩;have s1:=b8 (o:=.tup [V.int br.1.1,V.int (br.1.2:Int)]) AM;refine⟨_,rfl,dS,_,_,_,rfl,rfl,bI.of (s1 _ _ kE),rfl,_,rfl,dS,_,_,_,rfl,rfl,bI.of (s1 _ _ kE),rfl,(by show 2<=sizeLine;decide),λd_ x8=>?_⟩;have s2:=b8 (o:=.tup [V.int cO.1.1,V.int (cO.1.2:Int)]) x8;refine⟨dz,d_,br.1.1,_,cO.1.1,_,rfl,rfl,bI.of (s2 _ _ aQ),bI.of aQ,_,rfl,?_⟩;refine dw (ai9 l) ?_;have ih:=s1.trans s2;exact⟨_,_,rfl,tS.trans ih,eR.same ih⟩
   .refine dw (dn (by omega)) ?_;exact⟨_,_,rfl,tS,eR⟩
  .rintro σ b' ⟨nP,v6,rfl,ax,st⟩;have al:=gW kx;rw[d6,al,oU,<-b2.alw]at st;exact⟨_,rfl,q et b' IA ax st⟩
unseal gw bq gI g6
noncomputable abbrev zx:Stmt:=fT (top 54) 10
theorem ajb:c3 dg dg (cn zx):={}
inductive BW(aJ C bw aO d5:Addr)(Sp_:mB)(vs:aW)(H:ae)(Q:a')(E:bX):Prop where
 |mk (a7:ae) (x:Addr) (A:cL) (hs:bF) (ds:ck) (s:ct) (i:Int) (bM:vs=[.ref x,.int i]) (bu:ew aJ C bw aO a7 H x A hs ds s) (bW:s.ay.length=s.a6.length) (cW:∀ss∈s.ay,ss.length<=100)
   (dD:∀n:Nat,i=n->n<s.a6.length->∀v H',aH H H'->mY Sp_ H' v (spotOf (s.ay.getD n []) (i0 (d0 s.a6) n) s.pr)->Q v H') (eS:¬(0<=i/\i<s.a6.length)->∀af H',H af=none->aH H H'->H' af=some (lM af [("number",.int i)])->E (.ref d5) (some af) H')
theorem aia{Sp_:mB}(F:cC K "spot" "Day.spot" zx f fd)(B:fk mg)(cg:oH K aJ)(gc:eh K C)(qj:cS K C "spot_at" "Walk.spot_at" B0 wI f1 dJ)(Py:aS P w K mg base bh 3 f1 dJ wI (Le C Sp_))(vk:qe K mg "RoadError" d5 R)(o9:mg "NoLetter"=some (.ref d5))(IC:mw K (.ref d5)=true)(Ib:cJ K (.ref d5) "__init__"=some (some (.ref n8)))(Ih:sQ K (.ref n8)=true)(xh:aS P w K mg base bh 1 n8 Np dg (CH d5))(Ik:Binds K Np dg []):
  aS P w K mg base (m' P w) 4 f fd dg (BW aJ C bw aO d5 Sp_):=by
 refine Ql F ajb (λ_ sk _ s0 H vs Q E ao h=>?_)
 .obtain⟨a7,x,A,hs,ds,s,i,rfl,D,ln,c6,q,hU⟩:=h;refine⟨_,(a_ (dQ (g9 (vz kG nH aV (U 1) (dj fQ (by rfl) B.len fG (aj (ed (U 0) (by rfl)) aE)))) (bb (RL vk o9 IC Ib Ih xh ao.mono Ik rfl (aj (U 1) aE))) dW)
   (bb (cp (fx (ed (U 0) (by rfl)) gc qj.d1 Py ao.mono qj.bd .nil cm (aj (U 1) (aj (ed (U 0) (by rfl)) aE)))))),?_⟩
  have er:(aG A.eY).length=s.a6.length:=by have:=D.pt.len;rw[bk]at this;rw[d6];exact this
  have go:¬(0<=i/\i<s.a6.length)->∀e,H e=none->CH d5 (V.ref e::[.int i]) (upd H e (mP e d5)) (λu aZ=>u=.bc/\∃af,aZ e=some (mO e d5 af)/\E (.ref d5) (some af) (del aZ e)) sz:=λxI e ne=>by
   refine⟨e,.int i,rfl,aQ,λaf aI x4=>⟨rfl,af,aQ,?_⟩⟩;have tC:H af=none:=by rw[aD x4]at aI;exact aI
   have az:del (upd (upd (upd H e (mP e d5)) af (lM af [("number",.int i)])) e (mO e d5 af)) e=upd H af (lM af [("number",.int i)]):=by
    funext b;by_cases aa:b=e
    .subst aa;rw[Sk,aD (c2 x4)];exact ne.symm
    .rw[tH aa,aD aa];by_cases fS:b=af
     .subst fS;rw[aQ,aQ]
     .rw[aD fS,aD fS,aD aa]
   rw[az];exact hU xI af _ tC (b8 tC) aQ
  refine⟨_,rfl,_,_,rfl,rfl,_,rfl,?_⟩;by_cases h0:0<=i
  .refine eQ (cT h0) ⟨_,rfl,x,aJ,A.af,_,_,rfl,D.ins,cg.cl,cg.no,rfl,A.pl,_,rfl,.inl (aC.of D.po),_,_,rfl,rfl,_,rfl,?_⟩;by_cases ag:i<((aG A.eY).length:Int)
   .refine yN ag ?_;rw[er]at ag;obtain⟨n,rfl⟩:∃n:Nat,i=(n:Int):=⟨i.toNat,by omega⟩
    have nl:n<s.a6.length:=by omega
    have es:s.ay[n]?=some (s.ay.getD n []):=yc (by omega);have sY:(d0 s.a6)[n]?=some (i0 (d0 s.a6) n):=yc (by unfold d0;rw[bk];exact nl);exact⟨_,rfl,x,aJ,A.af,_,_,rfl,D.ins,cg.cl,cg.nw,rfl,A.b2,A.mK,_,rfl,D.wi,rfl,_,rfl,_,rfl,x,aJ,A.af,_,_,rfl,D.ins,cg.cl,cg.np,rfl,A.b2,A.n,A.g,A.sl,_,_,_,n,_,_,_,rfl,D.walk,es,c6 _ (dV es),sY,λv H' ax sp=>q n rfl nl v H' ax sp⟩
   .refine eQ (by rw[dn ag];rfl) ?_;exact⟨_,rfl,(by show 1<=sizeLine;decide),go λz=>ag (by rw[er];exact z.2)⟩
  .refine dw (dn h0) ⟨_,rfl,?_⟩;exact gD ⟨_,rfl,(by show 1<=sizeLine;decide),go λz=>h0 z.1⟩
end
end df
namespace cH
open PySem ar
section
variable{X:bo}{e o:Expr}{es:hF}{pos fq p:Pos}{k:Nat}{f C:Addr}{fd:m_}{ps:cb}{sp:kU}{bQ:TE}{t:fP}{m x:Str}
theorem agF{pl:Sem Bool}(he:bq X.x7 o bQ)(c:eh X.K C)(hm:Meth X.K C m f)(F:aS X.prog X.w X.K X.mg X.base (m' X.prog X.w) k f fd ps sp)(ao:gC k X.A)(aa:Binds X.K fd ps [])(aF:gw X.x7 (e::es) t)(iM:dY (e::es) X.env=(false,eval e X.env)::dY es X.env:=by rfl)(fH:(hp pos (dY es X.env)).any (·.1)=false:=by rfl)(dM:eval (.Call (.Attribute o m fq) (e::es) [] pos) X.env=(do
   let fC <-eval o X.env
   tU fq.atName
   let(f,first) <-mU [fC] (z4 fC m pl)
   CU pos f first (hp pos (dY (e::es) X.env)) (lY pos (l6 [] X.env))):=by rfl):
  VO X (.Call (.Attribute o m fq) (e::es) [] pos) (ahc C m sp bQ t):=by intro pins s σ H Q E I h;refine Gj (pl:=pl) (Κ (X:=X) (pins:=pins) (bD (he pins s σ H _ (I.nR _) h) λu s1 hz=>?_)) dM;obtain⟨x,H1,aR,bt,a,af,fs,ex,a4,l,q⟩:=hz;subst ex;obtain rfl:u=cu a:=bt;have aR:=aR.qY;refine IF aR a4 c hm l ?_;refine Gh (first:=[.ref a]) (h₀:=X.base) I.ok.mod.vB hm.cI (Κ (X:=X) (pins:=pins) (bD (aF pos pins s1 σ H1 _ (aR.nR _) q) λus s2⟨vs,ah,bH,r,cv⟩=>⟨bH.qY.eX,?_⟩)) iM fH;refine afO (us:=.ref a::us) (vs:=.ref a::vs) F ao aa bH.qY (.cons rfl r) ?_;have Ç:sp (V.ref a::(vs++[])) ah Q E:=cv;rw[q9]at Ç;exact Ç
end
end cH
namespace df
open PySem ar cH di
structure XK(K:aY)(d5 Mb:Addr):Prop where
 sub:tG K d5 d5=true
 re:jI K (.ref d5) (.ref Mb)=some true
 aqk:jI K (.ref d5) (.type "ValueError")=some true
 iZ:oJ K d5
 aM:cJ K (.ref d5) "number"=some none
 hd:wW K d5=true
section
variable{P:cG}{w:bS}{K:aY}{mg:cw}{base:Heap}
noncomputable abbrev Jf:Stmt:=top 67
noncomputable abbrev D8:List Str:=["_law_deed","_law_closed"]
theorem ajH:c3 D8 D8 (cn Jf):={}
inductive XM(vs:aW)(H:ae)(Q:a')(E:bX):Prop where
 |mk (l cl:Addr) (d:i8) (eD:dN) (bM:vs=[.ref l,.ref cl]) (bu:yp H l d) (bW:H cl=some (.bN (fw eD))) (cW:eD.length<=900)
   (dD:∀H',(∀b o,b≠cl->H b=some o->H' b=some o)->H' cl=some (.bN (fw (FW eD d)))->Q .bc H')
seal gw bq gI g6
theorem ajc(F:cC K "_law_noted" "_law_noted" Jf f fd)(B:fk mg):aS P w K mg base bh 1 f fd D8 XM:=by
 refine F.ok ajH (λ_ A _ s H vs Q E ao h=>?_)
 .obtain⟨l,cl,d,eD,rfl,aw,aq,rZ,q⟩:=h;refine⟨_,(a_ (dQ (ej jW (bG e3 (U 0) aV (λ_ _=>rfl)) g8 (dB _)) (bb (A3 (iO ao) (U 1) (bG e3 (U 0) aV (λ_ _=>rfl)) iq rfl)) dW)
   (bb (dQ (ej jW (bG e3 (U 0) aV (λ_ _=>rfl)) g8 (dB _)) (bb (gK (Tu (U 1) (bG e3 (U 0) aV (λ_ _=>rfl)) hL ⟨rfl,rfl,rfl,rfl⟩))) dW))),?_⟩
  have sl:(fw eD).length<sizeLine:=fF (by unfold fw;rw[bk];omega);have lc:∀{v:aW},H l=some (.lst v)->l≠cl:=λ{v}e z=>by rw[z,aq]at e;cases e
  cases aw with
  |@m6 r aw=>
   refine⟨_,rfl,l,_,_,_,rfl,rfl,aC.of aw,rfl,rfl,_,rfl,eQ (cT rfl) ?_⟩;refine⟨_,rfl,_,rfl,l,_,_,_,rfl,rfl,aC.of aw,rfl,cl,_,rfl,pM.k (k:=e9 (r:Int)) aq sl,?_⟩;rw[TV];have iK:upd H cl (.bN (fw (v5 eD r))) l=some (.lst [.str "shut",.int (r:Int),.bc]):=by rw[aD (lc aw)];exact aw
   refine⟨_,rfl,l,_,_,_,rfl,rfl,aC.of iK,rfl,rfl,_,rfl,dw (dn (λz=>by cases z)) ?_⟩;exact q _ (λb o n e=>by rw[aD n];exact e) aQ
  |@m5 r aw=>
   refine⟨_,rfl,l,_,_,_,rfl,rfl,aC.of aw,rfl,rfl,_,rfl,dw (dn (λz=>by cases z)) ?_⟩;refine⟨_,rfl,l,_,_,_,rfl,rfl,aC.of aw,rfl,rfl,_,rfl,eQ (cT rfl) ?_⟩;refine⟨_,rfl,cl,rfl,.inl ⟨_,.inl aq⟩,_,rfl,l,_,_,_,rfl,rfl,aC.of aw,rfl,_,e9 (r:Int),aq,rfl,λv ev=>?_,λev=>?_⟩
   .rw[ĸ];exact q _ (λb o n e=>by rw[aD n];exact e) aQ
   .exact q H (λb o _ e=>e) (by show _=some (f_.bN (fw (eD.filter λk=>decide (k≠r))));rw[Ĺ _ _ ev];exact aq)
  |@drop h g c aw u5=>
   refine⟨_,rfl,l,_,_,_,rfl,rfl,aC.of aw,rfl,rfl,_,rfl,dw (dn (λz=>by cases z)) ?_⟩;refine⟨_,rfl,l,_,_,_,rfl,rfl,aC.of aw,rfl,rfl,_,rfl,dw (dn (λz=>by cases z)) ?_⟩;exact q H (λb o _ e=>e) aq
  |@set h g r c aw u5=>
   refine⟨_,rfl,l,_,_,_,rfl,rfl,aC.of aw,rfl,rfl,_,rfl,dw (dn (λz=>by cases z)) ?_⟩;refine⟨_,rfl,l,_,_,_,rfl,rfl,aC.of aw,rfl,rfl,_,rfl,dw (dn (λz=>by cases z)) ?_⟩;exact q H (λb o _ e=>e) aq
noncomputable abbrev Je:Stmt:=top 65
noncomputable abbrev aob:List Str:=["_law_day","_law_number","_law_error","e"]
noncomputable abbrev IM:List Str:=["_law_day","_law_number"]
theorem GQ:c3 aob IM (cn Je):={}
inductive MI(aJ C bw aO:Addr)(vs:aW)(H:ae)(Q:a')(E:bX):Prop where
 |mk (a7:ae) (x:Addr) (A:cL) (hs:bF) (ds:ck) (s:ct) (i:Int) (bM:vs=[.ref x,.int i]) (bu:ew aJ C bw aO a7 H x A hs ds s) (bW:s.ay.length=s.a6.length) (cW:∀ss∈s.ay,ss.length<=100) (dD:¬(0<=i/\i<s.a6.length)) (eS:∀H',aH H H'->Q (.aA true) H')
theorem ajd{S_:mB}(F:cC K "_law_nobody" "_law_nobody" Je f fd)(B:fk mg)(fR:eh K aJ)(qb:XK K d5 Mb)(s8:mg "RoadError"=some (.ref Mb))(o9:mg "NoLetter"=some (.ref d5))(mJ:cS K aJ "spot" "Day.spot" zx dg f1 dJ)(DP:aS P w K mg base (m' P w) 4 f1 dJ dg (BW aJ C bw aO d5 S_)):aS P w K mg base bh 5 f fd IM (MI aJ C bw aO):=by
 refine F.ok GQ (λ_ sk _ s0 H vs Q E ao h=>?_)
 .obtain⟨a7,x,A,hs,ds,s,i,rfl,D,ln,c6,no,q⟩:=h;have al5:=qb.sub;refine⟨_,(a_ (dI (i:=2) GQ.aI rfl (cR rfl) hL)
   (a_ (afS (i:=3) rfl rfl (adz (agF (U 0) fR mJ.d1 DP ao.mono mJ.bd (aj (U 1) aE))) GQ.aI rfl rfl rfl o9 al5 (λa4=>(bb (dI (i:=2) GQ.aI rfl (cR rfl) (U 3)))))
   (bb (cp (hM (dj Ħ (by rfl) B.isinstance jJ (aj (U 2) (aj (Bq (by rfl) s8) aE))) (hM (dj Ħ (by rfl) B.isinstance jJ (aj (U 2) (aj (nC (by rfl) B.ValueError aqQ) aE))) (l5 (ke jW (afL (U 2) (by rfl)) (U 1) (dB _))))))))),?_⟩
  refine⟨_,rfl,x,_,_,rfl,D.ins,rfl,_,rfl,a7,x,A,hs,ds,s,i,rfl,D,ln,c6,λn e aM=>bx ⟨by omega,by omega⟩ no,λ_ af H1 aI s1 hd=>⟨d5,af,rfl,rfl,qb.sub,λa4 Hs=>?_⟩⟩;refine⟨_,rfl,?_⟩;have r2:aH H (upd H1 a4 (pa a4 d5 af)):=s1.trans (b8 Hs);have i2:upd H1 a4 (pa a4 d5 af) a4=some (pa a4 d5 af):=aQ;have kg:upd H1 a4 (pa a4 d5 af) af=some (lM af [("number",V.int i)]):=b8 Hs _ _ hd;generalize upd H1 a4 (pa a4 d5 af)=ah at r2 i2 kg⊢;refine⟨_,rfl,a4,d5,af,_,i2,qb.iZ,.inl ⟨_,rfl,qb.re⟩,_,rfl,gD ?_⟩;refine⟨_,rfl,a4,d5,af,_,i2,qb.iZ,.inr ⟨_,rfl,qb.aqk⟩,_,rfl,gD ?_⟩;exact⟨_,rfl,a4,d5,af,_,_,rfl,i2,kg,qb.iZ,qb.aM,qb.hd,rfl,_,rfl,rfl,rR (cT rfl) (q _ r2)⟩
noncomputable abbrev Jl:Stmt:=top 66
noncomputable abbrev aod:List Str:=["_law_day","_law_closed","_law_shut_at","_law_many","_law_k","_law_road_here"]
noncomputable abbrev IQ:List Str:=["_law_day","_law_closed","_law_shut_at","_law_many"]
theorem MJ:c3 aod IQ (cn Jl):={}
structure i9(aJ C bw aO:Addr)(a7 H:ae)(hs:bF)(ds:ck)(x cl bY:Addr)(dq:Int)(j:Nat)(A:cL)(s:ct)(k:Nat)(dT:en):Prop where
 d:ew aJ C bw aO a7 H x A hs ds s
 aq:H cl=some (.bN (fw s.eD))
 aF:H bY=some (.d4 dT)
 ok:hR hs ds k s
 po:oj hs s
 dS:AZ hs ds s.kvs
 l':mZ hs ds dq dT s
 nm:cl∉A.b0 x/\bY∉A.b0 x
 nb:a7 cl=none/\a7 bY=none
 sl:dT.length<=40*k
 lz:s.kvs.length<=36+j/\s.eD.length<=j
 pr:s.pr=dq+(k:Int)
 lo:∀d∈s.a6,dq<=d.2.1
theorem i9.same{dq:Int}{j:Nat}{A:cL}{s:ct}{k:Nat}{dT:en}(S:i9 aJ C bw aO a7 H hs ds x cl bY dq j A s k dT)(ax:aH H H'):i9 aJ C bw aO a7 H' hs ds x cl bY dq j A s k dT:={S with d:=S.d.same ax,aq:=ax _ _ S.aq,aF:=ax _ _ S.aF}
theorem ew.only{a7 H H':ae}{l:Addr}{A:cL}{s:ct}(D:ew aJ C bw aO a7 H x A hs ds s)(nl:l∉A.b0 x)(nb:a7 l=none)(eB:∀v,H l≠some (.tup v))(k:∀b o,b≠l->H b=some o->H' b=some o):ew aJ C bw aO a7 H' x A hs ds s:=
 D.frame (M:=[l]) (λb o e=>k b o (cA e nb) (D.b4 _ _ e)) (λb o n e=>k b o (by simpa using n) e) (λb aa z=>by rw[g5]at z;exact nl (z▸aa)) (λb aa v=>by rw[g5]at aa;rw[aa];exact eB v)
inductive MK(aJ C bw aO:Addr)(vs:aW)(H:ae)(Q:a')(E:bX):Prop where
 |mk (a7:ae) (hs:bF) (ds:ck) (x cl bY:Addr) (dq:Int) (j:Nat) (A:cL) (s:ct) (k:Nat) (dT:en) (m:Nat) (bM:vs=[.ref x,.ref cl,.ref bY,.int (m:Int)]) (bu:i9 aJ C bw aO a7 H hs ds x cl bY dq j A s k dT) (bW:Good hs) (cW:m<=2) (dD:k+m<=98) (eS:j<=40)
   (hB:∀H' e7 s' gh,i9 aJ C bw aO a7 H' hs ds x cl bY dq j e7 s' (k+m) gh->Q .bc H')
inductive ajI(aJ C bw aO:Addr)(a7:ae)(hs:bF)(ds:ck)(x cl bY:Addr)(dq:Int)(j k m:Nat)(i:Nat)(σ:ar.St)(b':ae):Prop where
 |mk (A:cL) (s:ct) (dT:en) (v4 nP:kW) (bM:σ=[some (.ref x),some (.ref cl),some (.ref bY),some (.int (m:Int)),v4,nP]) (bu:i9 aJ C bw aO a7 b' hs ds x cl bY dq j A s (k+i) dT)
inductive Xv(aJ C bw aO:Addr)(a7:ae)(hs:bF)(ds:ck)(x cl bY:Addr)(A:cL)(s:ct)(dT:en)(o:Obj)(m:Nat)(v4:kW)(i:Nat)(σ:ar.St)(b':ae):Prop where
 |mk (nP:kW) (gh:en) (bM:σ=[some (.ref x),some (.ref cl),some (.ref bY),some (.int (m:Int)),v4,nP]) (bu:ew aJ C bw aO a7 b' x A hs ds s) (bW:b' cl=some (.fi o (.bN (fw s.eD)))) (cW:b' bY=some (.d4 gh)) (dD:gh.length<=dT.length+i) (eS:∀q:eO,q.1≠s.pr->cy gh (hT q)=cy dT (hT q)) (hB:∀r:Nat,r∉s.eD->cy gh (hT (s.pr,r))=cy dT (hT (s.pr,r)))
theorem aiQ(F:cC K "_law_turns" "_law_turns" Jl f fd)(B:fk mg)(fR:eh K aJ)(k':cS K aJ "now" "Day.now" zA eA f1 dJ)(AD:aS P w K mg base bh 1 f1 dJ eA (BX aJ C bw aO))(xk:cS K aJ "pass_turn" "Day.pass_turn" FR eA f2 eV)(aqj:aS P w K mg base bh 6 f2 eV eA (K' K aJ C bw aO)):aS P w K mg base bh 7 f fd IQ (MK aJ C bw aO):=by
 refine F.ok MJ (λ_ sk _ s0 H vs Q E ao h=>?_)
 .obtain⟨a7,hs,ds,x,cl,bY,dq,j,A,s,k,dT,m,rfl,S,G,jA,qD,auY,q⟩:=h;refine⟨_,(bb (jR j6 rfl (tq rfl B.range (aj (U 3) aE)) (eu (i:=4) MJ.aI rfl (cR rfl))
    (a_ (Wm (jR j6 rfl (TF (U 1)) (eu (i:=5) MJ.aI rfl (cR rfl))
    (bb (A3 (iO ao) (U 2) (kF (aj (k8 (U 0) fR k'.d1 AD ao.mono k'.bd .nil cm) (aj (U 5) aE))) iq rfl))))
   (bb (gK (k8 (U 0) fR xk.d1 aqj ao.mono xk.bd .nil cm)))))),?_⟩
  have R:=S.d.oB.ok;refine⟨_,rfl,(m:Int),rfl,(by omega),(by omega),?_⟩;rw[kQ];refine IZ (lo:=0) (n:=m) (ajI aJ C bw aO a7 hs ds x cl bY dq j k m) ⟨A,s,dT,none,none,rfl,S⟩ ?_ ?_
  .rintro i σ y' nB ⟨A,s,dT,v4,nP,rfl,S⟩;refine⟨cl,fw s.eD,S.aq,λo=>?_⟩;have Qe:bY≠cl:=λz=>by have:=S.aF;rw[z,S.aq]at this;cases this
   have jc:=S.d.only (H':=upd y' cl (.fi o (.bN (fw s.eD)))) S.nm.1 S.nb.1 (λv e=>by rw[S.aq]at e;cases e) (λb o n e=>by rw[aD n];exact e);have N8:upd y' cl (.fi o (.bN (fw s.eD))) cl=some (.fi o (.bN (fw s.eD))):=aQ;have oe:upd y' cl (.fi o (.bN (fw s.eD))) bY=some (.d4 dT):=by rw[aD Qe];exact S.aF
   generalize upd y' cl (.fi o (.bN (fw s.eD)))=H1 at jc N8 oe⊢;refine⟨_,rfl,cl,o,_,rfl,N8,?_⟩;refine į (Xv aJ C bw aO a7 hs ds x cl bY A s dT o m (some (.int (0+(i:Int))))) ⟨nP,dT,rfl,jc,N8,oe,bU _,λ_ _=>rfl,λ_ _=>rfl⟩ (λO5 σ iV⟨_,_,_,_,h,_,_,_,_⟩=>h) ?_ ?_
   .rintro O5 key z σ iV eU ⟨J0,gh,rfl,y5,Ho,N0,kp,old,new⟩;unfold fw at eU;rw[cx]at eU;obtain⟨r,fh,eU⟩:=e0.mp eU;cases eU;have HI:r∈s.eD:=dV fh;have auV:O5<s.eD.length:=(eb.mp fh).1;refine⟨_,rfl,_,rfl,x,A.af,_,rfl,y5.ins,rfl,a7,x,A,hs,ds,s,rfl,y5,_,rfl,(by show 2<=sizeLine;decide),λp np=>?_⟩;have sp:=b8 (o:=.tup [V.int s.pr,V.int (r:Int)]) np;have aN:upd iV p (.tup [V.int s.pr,V.int (r:Int)]) p=some (.tup ((hT (s.pr,r)).map c9)):=aQ;have Tj:=y5.same sp;have Zc:=sp _ _ Ho;have z7:=sp _ _ N0;have Er:gh.length<sizeLine:=by have ag:=S.sl;have ai:=S.lz.2;exact oZ (show gh.length<=5000 by omega) (by decide)
    refine⟨bY,_,rfl,pM.t (k:=hT (s.pr,r)) z7 aN Er,?_⟩;show Xv aJ C bw aO a7 hs ds x cl bY A s dT o m (some (.int (0+(i:Int)))) (O5+1) _ (upd (upd iV p (.tup [V.int s.pr,V.int (r:Int)])) bY (.d4 (eN gh (hT (s.pr,r)) (.aA true))));generalize upd iV p (.tup [V.int s.pr,V.int (r:Int)])=arw at Tj Zc z7;refine⟨_,_,rfl,Tj.only S.nm.2 S.nb.2 (λv e=>by rw[z7]at e;cases e) (λb o n e=>by rw[aD n];exact e),?_,aQ,?_,λq a8=>?_,λb9 gX=>?_⟩
    .rw[aD (c2 Qe)];exact Zc
    .have:=Wz gh (hT (s.pr,r)) (.aA true);omega
    .rw[rG,bp (λz=>a8 (by rw[WC z])),old q a8]
    .rw[rG,bp (λz=>gX (by have:=ht Prod.snd (WC z);rw[show b9=r from this];exact HI)),new b9 gX]
   .rintro σ iV ⟨J0,gh,rfl,y5,Ho,N0,kp,old,new⟩;refine⟨Ho,?_⟩;have ei:=y5.only (H':=upd iV cl (.bN (fw s.eD))) S.nm.1 S.nb.1 (λv e=>by rw[Ho]at e;cases e) (λb o n e=>by rw[aD n];exact e);have u5:upd iV cl (.bN (fw s.eD)) cl=some (.bN (fw s.eD)):=aQ;have tf:upd iV cl (.bN (fw s.eD)) bY=some (.d4 gh):=by rw[aD Qe];exact N0
    generalize upd iV cl (.bN (fw s.eD))=ah at ei u5 tf⊢;refine⟨_,rfl,x,A.af,_,rfl,ei.ins,rfl,a7,x,A,hs,ds,s,k+i,rfl,ei,G,S.ok,(by omega),λaZ e7 aA eH gf hj _ _ _ _=>?_⟩;have out:∀l,l∉A.b0 x->ah l≠none->l∉e7.b0 x:=λl ag ai z=>by
     rcases gf.own l z with h|h
     .exact ag h
     .exact ai h
    have shl:(fw s.eD).length=s.eD.length:=bk _;have lz:=S.lz;refine⟨e7,BY hs ds s,gh,_,_,rfl,hj,gf.keep _ _ S.nm.1 u5,gf.keep _ _ S.nm.2 tf,S.ok.pass R,S.po.pass,S.dS,S.l'.pass R S.ok S.dS old (λr gX=>?_),⟨out cl S.nm.1 (by rw[u5];simp),out bY S.nm.2 (by rw[tf];simp)⟩,S.nb,?_,lz,?_,?_⟩
    .rw[new r gX];exact S.l'.b1 _ (oR _)
    .have ag:=S.sl;rw[shl]at kp;omega
    .have:=S.pr;show s.pr+1=dq+((k+(i+1):Nat):Int);omega
    .exact S.lo
  .rintro σ dG ⟨A,s,dT,v4,nP,rfl,S⟩;exact q dG A s dT S
unseal gw bq gI g6
theorem SM:∀{s:mC},(∀h t,s=.at_ h t->wO (.str h)=true)->(p9 (kO s)).canLay0=true
 |.gZ,_=>by decide+kernel
 |.at_ h t,k=>oo λd hd=>by
  simp only[kO,dv,eo,or_false]at hd;rcases hd with rfl|rfl|rfl
  .decide+kernel
  .exact k h t rfl
  .rfl
 |.on (some _) _,_=>oo λd hd=>by
  simp only[kO,GU,dv,eo,or_false]at hd;rcases hd with rfl|rfl|rfl
  .decide+kernel
  .rfl
  .rfl
 |.on none _,_=>oo λd hd=>by
  simp only[kO,GU,dv,eo,or_false]at hd;rcases hd with rfl|rfl|rfl
  .decide+kernel
  .rfl
  .rfl
 |.hQ _,_=>oo λd hd=>by
  simp only[kO,dv,eo,or_false]at hd;rcases hd with rfl|rfl
  .decide+kernel
  .rfl
theorem aae{s:mC}(h:∀h t,s=.at_ h t->wO (.str h)=true):n3 (.list (kO s))=true:=tu (SM h) (ĺ s) (by decide)
noncomputable def mc(s:ct)(n:Nat):mC:=v8 (gT s.ay n) (i0 (d0 s.a6) n) s.pr
theorem TQ{k:Nat}{s:ct}(G:Good hs)(O:hR hs ds k s){n:Nat}(aM:n<s.a6.length):∀h t,mc s n=.at_ h t->wO (.str h)=true:=λh t e=>by
 obtain⟨i,d7,hm⟩:=O.last aM;unfold mc v8 at e;split at e
 .cases e
 .split at e
  .cases e
  .cases e;obtain⟨x,av,ex⟩:=b7.mp hm;rw[<-ex];exact Jo (G.nm x av)
noncomputable abbrev Jk:Stmt:=top 68
noncomputable abbrev aoc:List Str:=["_law_day","_law_lines","_law_shut_at","_law_n","_law_letters","_law_stood","_law_number","_law_due_here"]
noncomputable abbrev IP:List Str:=["_law_day","_law_lines","_law_shut_at","_law_n"]
theorem CJ:c3 aoc IP (cn Jk):={}
inductive ML(aJ C bw aO:Addr)(vs:aW)(H:ae)(Q:a')(E:bX):Prop where
 |mk (a7:ae) (hs:bF) (ds:ck) (x cl bY:Addr) (dq:Int) (j:Nat) (A:cL) (s:ct) (k:Nat) (dT:en) (ei:Addr) (rs:cj) (n:Int) (bM:vs=[.ref x,.ref ei,.ref bY,.int n]) (bu:i9 aJ C bw aO a7 H hs ds x cl bY dq j A s k dT) (bW:Good hs) (cW:a7 ei=some (.lst (aG rs))) (dD:hr a7 hs rs ds) (eS:k<=98)
   (hB:∀H',aH H H'->Q (.aA true) H')
inductive abh(x ei bY:Addr)(n:Int)(dF et:Addr)(aZ:ae)(i:Nat)(σ:ar.St)(b':ae):Prop where
 |mk (v6 t5:kW) (bM:σ=[some (.ref x),some (.ref ei),some (.ref bY),some (.int n),some (.ref dF),some (.ref et),v6,t5]) (ax:aH aZ b')
seal gw bq gI g6
theorem aiR{S_:mB}(F:cC K "_law_spot_right" "_law_spot_right" Jk f fd)(B:fk mg)(fR:eh K aJ)(n5:cS K aJ "letters" "Day.letters" CI eA f1 dJ)(HT:aS P w K mg base bh 1 f1 dJ eA (FC aJ C bw aO))(n':cS K aJ "log" "Day.log" CE eA f2 eV)(IY:aS P w K mg base bh 1 f2 eV eA (FV aJ C bw aO))(k':cS K aJ "now" "Day.now" zA eA cU h8)(AD:aS P w K mg base bh 1 cU h8 eA (BX aJ C bw aO))(mJ:cS K aJ "spot" "Day.spot" zx dg f4 qs)(DP:aS P w K mg base (m' P w) 4 f4 qs dg (BW aJ C bw aO d5 S_))(n6:cY K mg "_law_walked" El AQ e_ C6)(PR:aS P w K mg base bh 2 e_ C6 AQ MH)(n7:cY K mg "_law_due" Ef yg C5 C7)(QL:aS P w K mg base bh 1 C5 C7 yg MG)(l0:cY K mg "_law_told" B1 sL Ng Nn)(Il:aS P w K mg base bh 1 Ng Nn sL (Ma S_)):aS P w K mg base bh 5 f fd IP (ML aJ C bw aO):=by
 refine F.ok CJ (λ_ sk _ s0 H vs Q E ao h=>?_)
 .obtain⟨a7,hs,ds,x,cl,bY,dq,j,A,s,k,dT,ei,rs,n,rfl,S,G,z5,R,anC,q⟩:=h;refine⟨_,(a_ (dI (i:=4) CJ.aI rfl (cR rfl) (k8 (U 0) fR n5.d1 HT ao.mono n5.bd .nil cm))
   (a_ (dI (i:=5) CJ.aI rfl (cR rfl) (ec PR ao.mono (by rfl) n6.at_ n6.fn.cI n6.bd .nil cm (aj (U 1) (aj (U 4) (aj (k8 (U 0) fR n'.d1 IY ao.mono n'.bd .nil cm) (aj (U 2) aE))))))
   (a_ (dQ (ej E7 (U 5) hL (dB _)) (bb (cp iq)) dW)
   (a_ (jR j6 rfl (tq rfl B.range (aj (dj fQ (by rfl) B.len fG (aj (U 4) aE)) aE)) (eu (i:=6) CJ.aI rfl (cR rfl))
    (bb (dQ (ej jW (U 6) (cq g_ (U 3) (dj fQ (by rfl) B.len fG (aj (U 4) aE))) (dB _)) (a_ (dI (i:=7) CJ.aI rfl (cR rfl) (ec QL ao.mono (by rfl) n7.at_ n7.fn.cI n7.bd .nil cm (aj (bG e3 (U 4) (U 6) (λ_ _=>rfl)) (aj (bG e3 (U 5) (U 6) (λ_ _=>rfl)) (aj (k8 (U 0) fR k'.d1 AD ao.mono k'.bd .nil cm) aE)))))
   (bb (dQ (ej (Bo ao.units) (ec Il ao.mono (by rfl) l0.at_ l0.fn.cI l0.bd .nil cm (aj (fx (U 0) fR mJ.d1 DP ao.mono mJ.bd .nil LV (aj (U 6) aE)) aE)) (U 7) (dB _)) (bb (cp iq)) dW))) dW)))
   (bb (cp iq)))))),?_⟩
  try dsimp only[lD,lu]
  have O:=S.ok;have ou:=O.ou;have D:=S.d;refine⟨_,rfl,x,A.af,_,rfl,D.ins,rfl,a7,x,A,hs,ds,s,rfl,D,λdF m1=>?_⟩;have iz:=b8 (o:=.lst (aG A.eY)) m1;have gR:upd H dF (.lst (aG A.eY)) dF=some (.lst (aG A.eY)):=aQ;generalize upd H dF (.lst (aG A.eY))=H1 at iz gR⊢;have jc:=D.same iz;refine⟨_,rfl,_,rfl,_,rfl,x,A.af,_,rfl,jc.ins,rfl,a7,x,A,hs,ds,s,rfl,jc,λd9 pA=>?_⟩;have iA:=b8 (o:=.lst (aG A.eH)) pA;have iK:upd H1 d9 (.lst (aG A.eH)) d9=some (.lst (aG A.eH)):=aQ;generalize upd H1 d9 (.lst (aG A.eH))=ah at iA iK⊢;have RH:=iz.trans iA;have q6:=D.same RH;have pl:=q6.pt.len;rw[bk]at pl;refine⟨_,rfl,ei,dF,d9,bY,hs,rs,A.eY,A.eH,ds,s.a6,s.iw,s.ay,dT,rfl,q6.b4 _ _ z5,R.same q6.b4,iA _ _ gR,q6.pt,(by omega),iK,q6.sp,S.l'.b2,RH _ _ S.aF,S.l'.b5,λet aZ IA tZ st=>?_⟩;have Bg:=RH.trans tZ;have hj:=D.same Bg;have Zs:=tZ _ _ (iA _ _ gR);refine⟨_,rfl,rfl,_,rfl,dw rfl ?_⟩;refine⟨_,rfl,dF,_,rfl,.inl (aC.of Zs),_,rfl,(by rw[d6];omega),(by rw[d6];omega),?_⟩;rw[d6,pl,kQ];obtain⟨r5,tm,Eb⟩:=st;have ê:=gW Eb;refine IZ (lo:=0) (n:=s.a6.length) (abh x ei bY n dF et aZ) ⟨none,none,rfl,aH.refl _⟩ ?_ ?_
  .rintro i σ b' nB ⟨v6,t5,rfl,ax⟩;rw[nc];have Ab:=ax _ _ Zs;have pos:(0:Int)<((aG A.eY).length:Int):=by rw[d6,pl];omega
   refine⟨_,rfl,_,rfl,_,rfl,dF,_,rfl,.inl (aC.of Ab),_,_,rfl,rfl,pos,rfl,_,rfl,sd (λ_=>?_) (λ_=>⟨_,_,rfl,ax⟩)⟩;obtain⟨hV,era⟩:∃hV,A.eY[i]?=some hV:=⟨_,cF (by omega)⟩
   obtain⟨sU,uP,ON⟩:=bO.get hj.pt era;rw[cx]at uP;obtain⟨d,dp,rfl⟩:=e0.mp uP;have sY:i0 (d0 s.a6) i=d.2.2:=by unfold i0 d0;exact lx (by rw[cx,dp];rfl)
   obtain⟨bQ,eta⟩:∃bQ,r5[i]?=some bQ:=⟨_,cF (by rw[ê,O.len];exact nB)⟩
   obtain⟨ss,Nf,Dz⟩:=bO.get Eb eta;have zX:lB ss=gT s.ay i:=by unfold gT;rw[lx Nf]
   rw[zX]at Dz;have fl:=hj.same ax;have XN:∀{as:cj}{b:Addr},as[i]?=some b->ar.gn (aG as) (i:Int)=some (.ref b):=λ{as b}e=>il (by unfold aG;rw[cx,e];rfl);refine⟨_,rfl,_,rfl,dF,_,_,_,rfl,rfl,aC.of Ab,XN era,_,rfl,_,rfl,et,_,_,_,rfl,rfl,aC.of (ax _ _ tm),XN eta,_,rfl,x,A.af,_,rfl,fl.ins,rfl,a7,x,A,hs,ds,s,rfl,fl,hV,bQ,d,gT s.ay i,s.pr,rfl,ax _ _ ON,ax _ _ Dz,λakT dE avm ú Hq=>?_⟩;rw[<-sY]at Hq;have Hq:dE akT=some (.lst (tT (mc s i))):=Hq;have j3:=fl.same ú;have c6:∀ss∈s.ay,ss.length<=100:=λss h=>by have:=O.c6 ss h;omega
   refine⟨_,rfl,x,A.af,_,rfl,j3.ins,rfl,_,rfl,a7,x,A,hs,ds,s,(i:Int),rfl,j3,O.len,c6,λi' jn aM v ba û sp=>?_,λno=>bx ⟨by omega,by omega⟩ no⟩;have jn:i'=i:=by omega
   subst jn;have em:s.ay[i']?=some (s.ay.getD i' []):=yc (by rw[O.len];exact nB);rw[S.l'.ä (dV em) (O.ne _ (dV em))]at sp;have sp:mY S_ ba v (mc s i'):=sp;refine⟨v,_,rfl,sp,λAw f' Η ü Hx=>?_⟩;have h5:=TQ G O nB;have b5:=aae h5;refine⟨_,rfl,.list (kO (mc s i')),.list (kO (mc s i')),.lst (aC.of Hx) (KU _),.lst (aC.of (ü _ _ (û _ _ Hq))) (KU _),b5,b5,_,rfl,dw (Kl (SM h5)) ?_⟩;exact⟨_,_,rfl,((ax.trans ú).trans û).trans ü⟩
  .rintro σ b' ⟨v6,t5,rfl,ax⟩;exact q _ (Bg.trans ax)
unseal gw bq gI g6
noncomputable def Qm(hs:bF)(ds:ck)(g h:Str):Bool:=decide (h≠g)&&(iS hs ds h g).isSome
noncomputable def ajJ(hs:bF)(ds:ck)(g:Str)(L:cb):List Row:=(L.filter (Qm hs ds g)).map λh=>(h,g,best hs ds h g)
noncomputable def Mz(hs:bF)(ds:ck)(L:cb):List Row:=L.flatMap λg=>ajJ hs ds g (hs.map S)
theorem J3{hs:bF}{L:cb}{r:Row}(h:r∈Mz hs ds L):r.1∈hs.map S/\r.2.1∈L/\r.1≠r.2.1/\(iS hs ds r.1 r.2.1).isSome=true/\r.2.2=best hs ds r.1 r.2.1:=by obtain⟨g,bE,ao⟩:=Lu.mp h;obtain⟨k,aP,rfl⟩:=b7.mp ao;obtain⟨ag,ai⟩:=gj.mp aP;unfold Qm at ai;simp only[iB,decide_eq_true_eq]at ai;exact⟨ag,bE,ai.1,ai.2,rfl⟩
theorem agG{hs:bF}{L:cb}{h g:Str}(dr:h∈hs.map S)(bE:g∈L)(ne:h≠g)(is:(iS hs ds h g).isSome=true):(h,g,best hs ds h g)∈Mz hs ds L:=by refine Lu.mpr ⟨g,bE,b7.mpr ⟨h,gj.mpr ⟨dr,?_⟩,rfl⟩⟩;unfold Qm;rw[cT ne,is];rfl
theorem U8{κ:Type}[DecidableEq κ]{k:κ}:∀{l:List (κ×ar.V)}{j:Nat},(l.map (·.1)).Nodup->l[j]?=some (k,v)->cy l k=some v
 |[],j,_,h=>by simp at h
 |p::r,0,aI,h=>by simp only[Lm,LQ]at h;subst h;exact k9 rfl
 |p::r,j+1,aI,h=>by
  rw[hE,iE]at aI;have h':r[j]?=some (k,v):=by simpa using h
  rw[ka (λz=>aI.1 (by rw[z];exact b7.mpr ⟨_,dV h',rfl⟩))];exact U8 aI.2 h'
theorem pn.rows{hs:bF}{kvs:en}(T:pn hs ds kvs):∃rs:List Row,kvs=Bz rs/\rs.Nodup/\∀r,r∈rs↔r∈Mz hs ds (hs.map S):=by
 have val:∀p∈kvs,cy kvs p.1=some p.2:=λp aN=>by obtain⟨j,bg⟩:=sF aN;exact U8 T.k4.aI (show kvs[j]?=some (p.1,p.2)from bg)
 obtain⟨rs,e⟩:=UE (kvs:=kvs) λp aN=>by obtain⟨h,g,az,_,_,_,_,aB⟩:=T.get (val p aN);exact⟨(h,g,best hs ds h g),wN az aB⟩
 subst e;refine⟨rs,rfl,?_,λr=>⟨λao=>?_,λao=>?_⟩⟩
 .have aI:=T.k4.aI;unfold Bz at aI;rw[gU]at aI;exact(wF.mp aI).imp λh z=>h (by rw[z])
 .have aN:(([.inr r.1,.inr r.2.1],.int r.2.2):List bA×ar.V)∈Bz rs:=b7.mpr ⟨r,ao,rfl⟩;obtain⟨h,g,az,ib,jA,ne,is,aB⟩:=T.get (val _ aN);obtain⟨cX,gB⟩:=Bl (h:=r.1) (g:=r.2.1) az;have hN:r=(h,g,best hs ds h g):=wN cX (wN gB (V.int.inj aB));rw[hN];exact agG ib jA ne is
 .obtain⟨ib,jA,ne,is,e⟩:=J3 ao;have bj:=T.k4.yes r.1 r.2.1 ⟨ib,ne,is⟩;obtain⟨j,y,dy⟩:=RS (show(cy (Bz rs) (f7 r.1 r.2.1)).isSome=true by rw[bj];rfl);have da:=val _ (dV dy);rw[bj]at da;obtain⟨b9,gX,bJ⟩:=b7.mp (dV dy);obtain⟨cX,gB⟩:=Bl (h:=b9.1) (g:=b9.2.1) (ht Prod.fst bJ);have qq:V.int b9.2.2=y:=ht Prod.snd bJ;have sV:b9.2.2=best hs ds r.1 r.2.1:=by have:=gV da;rw[<-qq]at this;exact(V.int.inj this).symm
  have hN:r=b9:=wN cX.symm (wN gB.symm (by rw[e,sV]));rw[hN];exact gX
inductive U9(C aO:Addr)(S:mB)(vs:aW)(H:ae)(Q:a')(el:bX):Prop where
 |mk (n bL br er pp:Addr) (rs jX fj:cj) (iR:qd) (hs:bF) (ds:ck) (bs:j7) (fin:eK) (t:Int) (bM:vs=[.ref n,.ref er,.ref pp,.int t]) (bu:i6 aO H n bL br (de hs) (aG rs)) (bW:hr H hs rs ds) (cW:rs.length<=40) (dD:H er=some (.lst (aG jX))) (eS:fa H jX (iR.map lA)) (hB:jX.length<=100) (lN:H pp=some (.lst (aG fj))) (nT:bO (i7 H) fj bs) (sh:Xu fj fin) (we:hH hs ds (iR.map λd=>d.2.2) (iR.map jT) none bs fin) (E5:fin.length=iR.length) (Ĥ:(∀ss∈fin,ss.length<=100)) (aq5:∀(H':ae)(D:Addr)(vs:aW),H D=none->aH H H'->H' D=some (.lst vs)->vs.length=iR.length->(∀i v,vs[i]?=some v->mY S H' v (spotOf (fin.getD i []) ((iR.map λd=>d.2.2).getD i (e8 "")) t))->Q (.ref D) H')
noncomputable abbrev Fn:Stmt:=top 32
theorem U':c3 ["net","letters","plan","turn","walk"] Ca (cn Fn):={}
theorem aeZ{S:mB}(F:cC K "spots_at" "spots_at" Fn f fd)(B:fk mg)(gc:eh K C)(vt:cY K mg "walk_of" FZ Ce f1 dJ)(acq:aS P w K mg base bh 5 f1 dJ Ce (Wu C aO))(qj:cS K C "spot_at" "Walk.spot_at" B0 wI f2 eV)(Py:aS P w K mg base bh 3 f2 eV wI (Le C S)):
  aS P w K mg base bh 6 f fd Ca (U9 C aO S):=by
 refine F.ok U' (λ_ A _ s H vs Q E ao h=>?_)
 .obtain⟨n,bL,br,er,pp,rs,jX,fj,iR,hs,ds,bs,fin,t,rfl,N,R,c6,jU,pK,Nv,tj,Hn,Nw,b2,ft,alu,q⟩:=h;refine⟨_,(a_ (dI (i:=4) U'.aI rfl (o1 rfl) (ec acq ao.mono (by rfl) vt.at_ vt.fn.cI vt.bd .nil cm (aj (U 0) (aj (U 1) (aj (U 2) aE)))))
   (bb (cp (rQ (N':=["number","turn","walk"]) (cs:=[none,some 3,some 4]) rfl (tq rfl B.range (aj (dj fQ (by rfl) B.len fG (aj (U 1) aE)) aE)) rfl (by decide+kernel) rfl (by decide+kernel) (ju (kv.mpr ⟨rfl,(kv.mpr ⟨rfl,(λp aN=>bx aN (eo))⟩)⟩)) rfl
    (.own (.jk rfl (.inl rfl) (.inl rfl) rfl (.jk rfl (.inl rfl) (.inl rfl) rfl .nil)))
    (λC s3 aZ bR eC=>⟨(eu (i:=0) (by show(["number","turn","walk"]:cb).Nodup;decide+kernel) rfl (.inl rfl)),mX,(fx (U 2) gc qj.d1 Py ao.mono qj.bd .nil cm (aj (U 0) (aj (U 1) aE)))⟩))))),?_⟩
  have AE:jX.length=iR.length:=by have:=pK.len;rw[bk]at this;exact this
  have fb:=d6 jX;refine⟨_,rfl,_,rfl,_,rfl,n,bL,br,er,pp,rs,jX,fj,iR,hs,ds,bs,fin,rfl,N,R,c6,jU,pK,Nv,tj,Hn,Nw,b2,λH1 x g st ls s1 W=>?_⟩;obtain⟨af,av⟩:=W.ins;have amN:=s1 _ _ jU;dsimp only[zc];refine Uw (J:=nd 0 (aG jX).length) (H1:=H1) (xs:=(dK (aG jX).length).map λi:Nat=>V.int ((0:Int)+(i:Int))) (rest:=[some (.int t),some (.ref x)]) (λR h=>⟨_,rfl,er,_,rfl,.inl (aC.of amN),_,rfl,(by show -(2 ^ 62)<=((aG jX).length:Int);omega),(by show((aG jX).length:Int)<2 ^ 62;omega),h⟩) rfl (D7 0 _) (fF (by rw[bk,iD];omega))
   (λi v ba=>mY S ba v (spotOf (fin.getD i []) ((iR.map λd:Str×Int×Str=>d.2.2).getD i (e8 "")) t)) (λi v ah aZ ax h=>h.same ax) (λi v ah D ys zs bl h=>h.upd bl) (λi v ah R ev ax k=>?_) (λD ah vs kJ bl lL bj r1=>?_)
  .rw[cx]at ev;obtain⟨j,dy,rfl⟩:=e0.mp ev;obtain⟨ak,e⟩:=eb.mp dy;rw[iD]at ak;rw[zh]at e;subst e;obtain⟨ss,es⟩:∃ss,fin[i]?=some ss:=⟨_,cF (by omega)⟩
   obtain⟨y,da⟩:∃y,(iR.map λd=>d.2.2)[i]?=some y:=⟨_,cF (by rw[bk];omega)⟩
   rw[lx es,lx da]at k;refine⟨_,rfl,x,af,_,rfl,ax _ _ av,rfl,_,rfl,_,rfl,x,n,g,st,_,ls,fin,i,ss,y,t,?_,W.same ax,es,alu ss (dV es),da,λv ba s5 bj=>k v ba s5 bj⟩;rw[nc];rfl
  .refine q ah D vs ?_ (s1.trans r1) bl (by rw[lL,bk,iD,fb,AE]) bj;cases e:H D with
   |none=>rfl
   |some o=>rw[s1 _ _ e]at kJ;cases kJ
end
end df
namespace cH
open PySem PySem.Spec PyProof.Rows ar
structure CR(n dF d9:Nat)(i:Nat)(f0:Value)(h:Heap):Prop where
 hz:IsZip h (n+4) (n+2) (n+3) f0
 ru:IsPair h (n+2) (.ref n) (.ref (n+1))
 te:∃a b,IsPair h (n+3) a b
 ag:h.IsListIter n dF i
 ai:h.IsListIter (n+1) d9 i
noncomputable abbrev si(n:Nat):List Addr:=[n+4,n+2,n+3,n,n+1]
theorem E3{n b:Nat}:b∈si n↔b=n+4\/b=n+2\/b=n+3\/b=n\/b=n+1:=by simp[si]
theorem CR.keep{n dF d9:Nat}{i:Nat}{h h':Heap}(z:CR n dF d9 i f0 h)(k:∀b∈si n,∀o,h.get? b=some o->h'.get? b=some o):CR n dF d9 i f0 h':=by obtain⟨hz,ru,⟨a,b,te⟩,ag,ai⟩:=z;exact⟨k _ (by simp) _ hz,k _ (by simp) _ ru,⟨a,b,k _ (by simp) _ te⟩,ag.at λo e=>k _ (by simp) o e,ai.at λo e=>k _ (by simp) o e⟩
theorem agH:iG "zip"=some (.type "zip"):=by decide+kernel
noncomputable def Li(K:aY)(a b:Nat):fe:=
 ⟨λi H=>∃xs ys x y,aC K H a xs/\aC K H b ys/\xs[i]?=some x/\ys[i]?=some y,
 λi H u H'=>∃p x y,H p=none/\u=.ref p/\(∀xs,aC K H a xs->xs[i]?=some x)/\(∀ys,aC K H b ys->ys[i]?=some y)/\H'=upd H p (.tup [x,y]),
 λi H=>∃xs ys,aC K H a xs/\aC K H b ys/\xs.length<=i⟩
theorem acr{K:aY}{k:Nat}(n a b:Nat)(a1:a<n)(a2:b<n):
  Turn P w K (.Tuple elts k pos) (Li K a b) (si n) (n+4) (λi h=>CR n a b i .none h)where
 mem:=by simp
 obj:=λi h st d hd=>by
  obtain⟨hz,ru,⟨bQ,c_,te⟩,⟨kk,az,k6,hK⟩,⟨tF,aB,o7,kA⟩⟩:=st;rcases E3.mp hd with rfl|rfl|rfl|rfl|rfl
  .exact⟨_,hz,λv z=>by
    have dk:Tb _=Fp v:=z;cases dk⟩
  .exact⟨_,ru,λv z=>by
    have dk:Data.seq _=Fp v:=z;cases dk⟩
  .exact⟨_,te,λv z=>by
    have dk:Data.seq _=Fp v:=z;cases dk⟩
  .exact⟨kk,az,λv z=>by rw[hK]at z;cases z⟩
  .exact⟨tF,aB,λv z=>by rw[kA]at z;cases z⟩
 keep:=λi h h' st bP=>st.keep bP
 item:=by
  intro X f6 hw f5 aq i pins s σ H E I hf st bE;subst f6 hw f5;obtain⟨xs,ys,x,y,HH,rz,av,cM⟩:=bE;obtain⟨anz,Ò,dz,_⟩:=I.list HH;obtain⟨rD,QS,d_,_⟩:=I.list rz;obtain⟨iz,ane,apr⟩:=Ò.get av;obtain⟨iA,OW,aps⟩:=QS.get cM;obtain⟨hz,ru,⟨bQ,c_,te⟩,g1,g2⟩:=id st;refine wpAny_pyNext_zip_item (zipApart_new a1 a2) hz ru te g1 g2 dz.isList d_.isList (x:=iz) (y:=iA) (by simpa using ane) (by simpa using OW) λag e5 eT ji w7 kf hsz aP=>⟨_,rfl,?_⟩
  refine wpAny_letOwnedTupleGo_zip (s:={s with heap:=ag}) e5 λai ZR jy=>?_;have jy:mn (n+4) ag ai:=jy;have aM:H s.heap.objs.size=none:=I.fresh;have qJ:∀d o,d∉si n->s.heap.get? d=some o->ai.get? d=some o:=λd o hd q=>by have hd:=λz=>hd (E3.mpr z);exact(jy.2 d (λz=>hd (.inl z))).trans (aP d o (λz=>hd (.inl z)) (λz=>hd (.inr (.inr (.inl z)))) (λz=>hd (.inr (.inr (.inr (.inl z))))) (λz=>hd (.inr (.inr (.inr (.inr z))))) q)
  have ł:n+4<s.heap.objs.size:=c5 hz;have NU:ai.get? s.heap.objs.size=some {cls:=.type "tuple",data:=.seq #[iz,iA]}:=(jy.2 _ (zC ł)).trans kf;have A':CR n a b (i+1) .none ai:=⟨ZR,(jy.2 _ (by show @Ne Nat _ _;omega)).trans (aP _ _ (by show @Ne Nat _ _;omega) (by show @Ne Nat _ _;omega) (by show @Ne Nat _ _;omega) (by show @Ne Nat _ _;omega) ru),⟨_,_,(jy.2 _ (by show @Ne Nat _ _;omega)).trans eT⟩,ji.at λo q=>(jy.2 _ (by show @Ne Nat _ _;omega)).trans q,w7.at λo q=>(jy.2 _ (by show @Ne Nat _ _;omega)).trans q⟩
  have qI:∀d q,H d=some q->d∉si n:=λd q hd z=>by have:=(hf d z).1;rw[this]at hd;cases hd
  refine⟨.ref s.heap.objs.size,upd H s.heap.objs.size (.tup [x,y]),?_,rfl,⟨s.heap.objs.size,x,y,aM,rfl,(λys cM=>by rw[I.H0 cM HH];exact av),(λKb O2=>by rw[I.H0 O2 rz];exact cM),rfl⟩,A',λd hd=>?_⟩
  .show Inv X pins σ (upd H s.heap.objs.size (.tup [x,y])) {s with heap:=ai,gens:=s.gens,drawn:=s.drawn,toks:=s.toks};refine I.step (g':=s.gens) (d':=s.drawn) (t':=s.toks) (h':=ai) (ch:=si n) (λd hd=>?_) (λd o _ _ aq q _=>qJ d o aq q) (λd o _ _ aq q _=>⟨o.slots,qJ d o aq q⟩) (λd o aq q nn=>?_)
    (λd o aq q=>⟨o,qJ d o aq q⟩) (λd ys q=>?_) (λd o v q=>?_) (λd ps q=>⟨#[],?_⟩) (λm hm=>?_) (λd v q=>?_) I.bare
   .obtain⟨f0,f1,f2,cU,f4,e_⟩:=hf d hd;exact⟨cU,f1,f4,e_⟩
   .rw[aD (dR (c5 q))];exact nn
   .rw[aD (cA q aM)];exact q
   .rw[aD (cA q aM)];exact q
   .rw[aD (cA q aM),q];simp
   .obtain⟨o,es,ep,iL,r⟩:=hm;exact⟨o,es,ep,qJ _ o (λz=>(hf _ z).2.1 rfl) iL,r⟩
   .by_cases aa:d=s.heap.objs.size
    .subst aa;rw[aQ]at q;cases q;exact⟨(by show 2<=sizeLine;decide),[iz,iA],.cons apr (.cons aps .nil),_,NU,rfl,_,rfl⟩
    .rw[aD aa]at q;refine(I.bf d v q).nM (λc y aq z=>qJ c y ?_ z) (λc z=>by rw[aD (cA z aM)];exact z) λc ys z=>by rw[aD (cA z aM)];exact z
     rcases aq with rfl|aq
     .exact qI _ _ q
     .exact qI _ _ aq
  .have dl:d≠s.heap.objs.size:=λz=>by
    have akR:d<s.heap.objs.size:=by
     rcases E3.mp hd with rfl|rfl|rfl|rfl|rfl
     .exact ł
     .exact c5 ru
     .exact c5 te
     .obtain⟨_,q,_⟩:=g1;exact c5 q
     .obtain⟨_,q,_⟩:=g2;exact c5 q
    exact bx z (dR akR)
   rw[aD dl];exact(hf d hd).1
 done:=by
  intro X f6 hw f5 aq i pins s σ H E I hf st bE;subst f6 hw f5;obtain⟨xs,ys,a8,rz,av⟩:=bE;obtain⟨its,cf,p,hz⟩:=I.list a8;obtain⟨rD,QS,d_,_⟩:=I.list rz;have aw:=cf.length;obtain⟨ano,ru,⟨bQ,c_,te⟩,g1,g2⟩:=id st;refine wpAny_pyNext_zip_end (I.ok.hd aq) (zipApart_new a1 a2) ano ru te g1 g2 p.isList d_.isList (.inl (by simp;omega)) λh' G3=>⟨rfl,?_⟩
  have dx:∀c o,c∉si n->s.heap.get? c=some o->h'.get? c=some o:=λc o aq e=>by have aq:=λz=>aq (E3.mpr z);exact G3 c o (λz=>aq (.inl z)) (λz=>aq (.inr (.inr (.inl z)))) (λz=>aq (.inr (.inr (.inr (.inl z))))) (λz=>aq (.inr (.inr (.inr (.inr z))))) e
  show Inv X pins σ H {s with heap:=h',gens:=s.gens,drawn:=s.drawn,toks:=s.toks};refine I.step (g':=s.gens) (d':=s.drawn) (t':=s.toks) (h':=h') (ch:=si n) (λd hd=>?_) (λd o _ _ aq q _=>dx d o aq q) (λd o _ _ aq q _=>⟨o.slots,dx d o aq q⟩) (λd o aq q nn=>nn)
    (λd o aq q=>⟨o,dx d o aq q⟩) (λd ys q=>q) (λd o v q=>q) (λd ps q=>⟨#[],?_⟩) (λm hm=>?_) (λd v q=>?_) I.bare
  .obtain⟨f0,f1,f2,cU,f4,e_⟩:=hf d hd;exact⟨cU,f1,f4,e_⟩
  .rw[q];simp
  .obtain⟨o,es,ep,iL,r⟩:=hm;exact⟨o,es,ep,dx _ o (λz=>(hf _ z).2.1 rfl) iL,r⟩
  .refine(I.bf d v q).nM (λc y aq z=>dx c y (λw=>?_) z) (λc z=>z) λc ys z=>z;have:=(hf c w).1;rcases aq with rfl|aq
   .rw[this]at q;cases q
   .rw[this]at aq;cases aq
 self:=λ_ _ _ _ _ st h=>aqE st.hz h
section
variable{X:bo}{elts:hF}{k:Nat}{EC:Pos}
noncomputable def aiS(K:aY)(bQ:fP):TI:=λσ H R=>bQ σ H λvs H1=>∃a b,vs=[.ref a,.ref b]/\(∃xs,aC K H1 a xs)/\(∃xs,aC K H1 b xs)/\R (Li K a b) H1
theorem agI{aB:Expr}{bQ:fP}{p:Pos}(bE:jd X "zip")(hm:X.mg "zip"=none)(aF:gw X [az,aB] bQ)(he:dY [az,aB] X.env=(false,eval az X.env)::dY [aB] X.env:=by rfl)(fH:(hp pos (dY [aB] X.env)).any (·.1)=false:=by rfl):
  n0 X (.Tuple elts k EC) (.Call (.Name "zip" p) [az,aB] [] pos) (aiS X.K bQ):=by
 intro pins s σ H R I h;refine Call_ (vN I bE hm agH (LY (bD (aF pos pins s σ H _ I h) λus s1 hz=>?_) he fH));obtain⟨vs,H1,aR,b3,bz⟩:=hz;obtain⟨a,b,e,⟨xs,HH⟩,⟨ys,rz⟩,q⟩:=bz;subst e;cases b3 with
 |cons r nL=>
  cases nL with
  |cons b9 nL=>
   cases nL;cases r;cases b9;obtain⟨anz,Ò,dz,auU⟩:=aR.list HH;obtain⟨rD,QS,d_,ZR⟩:=aR.list rz;have a1:a<s1.heap.objs.size:=by obtain⟨_,e,_⟩:=dz.isList;exact c5 e
   have a2:b<s1.heap.objs.size:=by obtain⟨_,e,_⟩:=d_.isList;exact c5 e
   refine call_zip_2 dz.isList d_.isList λh' e5 eT ji w7 akA hsz bP=>?_;refine aqE e5 ?_;refine⟨s1.heap.objs.size+4,si s1.heap.objs.size,_,_,H1,rfl,aR.kept (t':=s1.toks) λb o e=>bP b o e,acr _ a b a1 a2,⟨e5,eT,⟨_,_,ji⟩,w7,akA⟩,λd hd=>?_,q⟩;have le:s1.heap.objs.size<=d:=by rcases E3.mp hd with rfl|rfl|rfl|rfl|rfl<;>first|exact bU _|exact Nat.le_add_right _ _
   exact aR.s_ le (aR.bf.fresh le)
end
end cH
namespace df
open PySem ar cH di
theorem TR{wi:TI}{b6:TE}{rest:ar.St}{H1:ae}{Q:a'}{J:fe}{xs:aW}(hw:∀R:fe->ae->Prop,R J H1->wi σ H R)(gd:hc cs σ=none::rest)(b2:mF J H1 xs)(aw:xs.length<sizeLine)(F:Addr->Nat->ar.V->ae->Prop)(st:∀D i v ah aZ,aH ah aZ->F D i v ah->F D i v aZ)(sl:∀D i v ah zs,F D i v ah->F D i v (upd ah D (.lst zs)))(elt:∀(D:Addr)(i:Nat)(x:ar.V)(ah:ae)(R:a'),xs[i]?=some x->aH H1 ah->H1 D=none->(∃ys,ah D=some (.lst ys))->(∀v ba,aH ah ba->F D i v ba->R v ba)->b6 (some x::rest) ah R)(fin:∀(D:Addr)(H':ae)(vs:aW),H1 D=none->H' D=some (.lst vs)->vs.length=xs.length->(∀i v,vs[i]?=some v->F D i v H')->aH H1 H'->Q (.ref D) H'):mf wi cs (ha 0) q0 b6 σ H Q:=by
 refine hw _ λD bl=>?_;refine⟨λi m ys a9 H'=>m=xs.length-i/\i<=xs.length/\(ys.length=i/\∀j v,ys[j]?=some v->F D j v H')/\(∃o,a9=o::rest)/\aH H1 H'/\H' D=some (.lst ys),⟨xs.length,by simp,eZ _,⟨rfl,λj v e=>by simp at e⟩,⟨none,by rw[gd]⟩,b8 bl,aQ⟩,?_⟩;rintro i m ys a9 H' ⟨rfl,ak,⟨y0,cM⟩,⟨o,rfl⟩,ax,eM⟩;obtain⟨gF,g4,gv⟩:=b2 H' ax;refine⟨eM,oZ (by omega) aw,?_⟩;by_cases cz:i<xs.length
 .refine .inr ⟨g4 i cz,λx ah y=>?_⟩;obtain⟨rfl,ex⟩:=gv i x ah cz y;show b6 (some x::rest) ah _;refine elt D i x ah _ ex ax bl ⟨ys,eM⟩ λv ba s5 bj=>⟨s5 _ _ eM,xs.length-(i+1),by omega,rfl,cz,⟨by rw[hD,y0];rfl,λj u e=>?_⟩,⟨_,rfl⟩,k7 bl (ax.trans s5),aQ⟩
  refine sl D j u ba _ ?_;by_cases bg:j<ys.length
  .rw[wA bg]at e;exact st D j u _ _ s5 (cM j u e)
  .rw[sE (by omega)]at e;have dy:j=i:=by
    by_cases hz:j-ys.length=0
    .omega
    .rw[wB (by simp;omega)]at e;cases e
   subst dy;rw[y0,Gb]at e;cases e;exact bj
 .have e:i=xs.length:=by omega
  subst e;exact .inl ⟨gF,fin D H' ys bl eM y0 cM ax⟩
theorem ae0{L:cb}:∀{ps:List (Str×Str)},ps.Nodup->(∀p∈ps,p.1∈L/\p.2∈L)->ps.length<=L.length*L.length:=λ{ps}aI h=>by
 have sub:ps ⊆ L.flatMap λa=>L.map λb=>(a,b):=λp aN=>by obtain⟨ag,ai⟩:=h p aN;exact Lu.mpr ⟨p.1,ag,b7.mpr ⟨p.2,ai,rfl⟩⟩
 have:=AA aI sub;rw[ab2]at this;have e:(L.map λa=>(L.map λb=>(a,b)).length)=L.map λ_=>L.length:=sI λa _=>bk ..;rw[e]at this;have s:∀(M:cb),((M.map λ_=>L.length).sum)=M.length*L.length:=λM=>by
  induction M with
  |nil=>simp
  |cons a r a3=>rw[hE,Ly,a3,lR,Nat.succ_mul];omega
 rw[s]at this;exact this
theorem pn.c6{hs:bF}{kvs:en}(T:pn hs ds kvs)(c6:hs.length<=6):kvs.length<=36:=by
 obtain⟨rows,e,aI,mem⟩:=T.rows;have tC:(rows.map λr=>(r.1,r.2.1)).Nodup:=by refine wF.mpr (abM (λ{b3 dh}ib jA ne z=>ne ?_) aI);obtain⟨_,_,_,_,az⟩:=J3 ((mem b3).mp ib);obtain⟨_,_,_,_,aB⟩:=J3 ((mem dh).mp jA);obtain⟨a1,a2,ik⟩:=b3;obtain⟨k6,o7,xa⟩:=dh;obtain⟨bM,bu⟩:=Prod.mk.inj z;have bM:a1=k6:=bM;have bu:a2=o7:=bu;have az:ik=best hs ds a1 a2:=az;have aB:xa=best hs ds k6 o7:=aB;rw[az,aB,bM,bu]
 have h:=ae0 (L:=hs.map S) tC λp aN=>by obtain⟨r,ao,rfl⟩:=b7.mp aN;obtain⟨ib,jA,_⟩:=J3 ((mem r).mp ao);exact⟨ib,jA⟩
 rw[bk,bk]at h;have ai:=eP h (ac6 c6 c6);have aB:=ht F8 e;unfold Bz at aB;rw[bk]at aB;omega
theorem ew.apm{b':ae}{n:Addr}{rs:cj}{A:cL}{s:ct}(D:ew aJ C bw aO a7 H x A hs ds s)(sc:aH b' H)(jn:A.n=n)(fh:A.rs=rs)(N:i6 aO b' n bL br (de hs) (aG rs))(R:hr b' hs rs ds)(fr:∀b∈A.b0 x,b' b=none):ew aJ C bw aO b' H x A hs ds s:=by subst jn fh;obtain⟨hK,ag⟩:=D.ie.ins;obtain⟨kA,ai⟩:=N.ins;have az:=D.b4 _ _ ag;rw[sc _ _ ai]at az;cases az;exact⟨sc,N,R,D.ins,D.po,D.pt,D.q1,D.t8,D.b5,D.wi,D.pP,D.ws,D.pO,D.cP,D.sp,D.aI,fr⟩
theorem ae1{K:aY}{wi:TI}{a b:Nat}{xs ys:aW}{rest:ar.St}{b6:TE}{Q:a'}{H1:ae}(hw:∀R:fe->ae->Prop,R (Li K a b) H1->wi σ H R)(gd:hc cs σ=none::none::rest)(aF:aC K H1 a xs)(aa:aC K H1 b ys)(aw:xs.length<sizeLine)(d9:ys.length=xs.length)(F:Addr->Nat->ar.V->ae->Prop)(st:∀D i v ah aZ,aH ah aZ->F D i v ah->F D i v aZ)(sl:∀D i v ah zs,F D i v ah->F D i v (upd ah D (.lst zs)))(elt:∀(D:Addr)(i:Nat)(x y:ar.V)(ah:ae)(R:a'),xs[i]?=some x->ys[i]?=some y->aH H1 ah->(∃us,ah D=some (.lst us))->(∀v ba,aH ah ba->F D i v ba->R v ba)->b6 (some x::some y::rest) ah R)(fin:∀(D:Addr)(H':ae)(vs:aW),H1 D=none->H' D=some (.lst vs)->vs.length=xs.length->(∀i v,vs[i]?=some v->F D i v H')->aH H1 H'->Q (.ref D) H'):
  mf wi cs (Cn K 2 (yM (ha 0) (yM (ha 1) Gl))) q0 b6 σ H Q:=by
 refine hw _ λD bl=>?_;refine⟨λi m zs a9 H'=>m=xs.length-i/\i<=xs.length/\(zs.length=i/\∀j v,zs[j]?=some v->F D j v H')/\(∃o cB,a9=o::cB::rest)/\aH H1 H'/\H' D=some (.lst zs),⟨xs.length,by simp,eZ _,⟨rfl,λj v e=>by simp at e⟩,⟨none,none,gd⟩,b8 bl,aQ⟩,?_⟩;rintro i m zs a9 H' ⟨rfl,ak,⟨pT,ny⟩,⟨o,cB,rfl⟩,ax,eM⟩;have gp:aC K H' a xs:=ax.seq aF;have Dg:aC K H' b ys:=ax.seq aa;refine⟨eM,oZ (by omega) aw,?_⟩;by_cases cz:i<xs.length
 .have ex:xs[i]?=some xs[i]:=cF cz;have da:ys[i]?=some (ys[i]'(by omega)):=cF (by omega);refine .inr ⟨⟨xs,ys,_,_,gp,Dg,ex,da⟩,λx ah y=>?_⟩;obtain⟨q,gG,SA,a8,rfl,fB,O2,rfl⟩:=y;have C4:=fB xs gp;have ald:=O2 ys Dg;have qT:aH H' (upd H' q (.tup [gG,SA])):=b8 a8;refine⟨q,_,rfl,bI.of aQ,rfl,⟨_,_,rfl,⟨_,_,rfl,rfl,?_⟩⟩⟩;show b6 (some gG::some SA::rest) _ _;refine elt D i gG SA _ _ C4 ald (ax.trans qT) ⟨_,qT _ _ eM⟩ λv ba s5 e_=>⟨s5 _ _ (qT _ _ eM),xs.length-(i+1),by omega,rfl,cz,⟨by rw[hD,pT];rfl,λj u jo=>?_⟩,⟨_,_,rfl⟩,k7 bl ((ax.trans qT).trans s5),aQ⟩
  refine sl D j u ba _ ?_;by_cases bg:j<i
  .rw[wA (by omega)]at jo;exact st D j u H' ba (qT.trans s5) (ny j u jo)
  .have H3:=(eb.mp jo).1;rw[hD]at H3;have dy:j=i:=by simp at H3;omega
   subst dy;rw[sE (by omega),pT,Gb]at jo;cases jo;exact e_
 .have e:i=xs.length:=by omega
  subst e;exact .inl ⟨⟨xs,ys,gp,Dg,bU _⟩,fin D H' zs bl eM pT ny ax⟩
noncomputable def lH(s:ct)(y_:ae)(D:Addr)(i:Nat)(v:ar.V)(H:ae):Prop:=∃l,v=.ref l/\l≠D/\y_ l=none/\H l=some (.lst (tT (mc s i)))
theorem lH.same{s:ct}(D:Addr)(i:Nat)(v:ar.V)(H H':ae)(ax:aH H H')(h:lH s y_ D i v H):lH s y_ D i v H':=by obtain⟨l,e,n,z,aw⟩:=h;exact⟨l,e,n,z,ax _ _ aw⟩
theorem lH.upd{s:ct}(D:Addr)(i:Nat)(v:ar.V)(H:ae)(zs:aW)(h:lH s y_ D i v H):lH s y_ D i v (ar.upd H D (.lst zs)):=by obtain⟨l,e,n,z,aw⟩:=h;exact⟨l,e,n,z,by rw[aD n];exact aw⟩
noncomputable def rT(s:ct)(i:Nat)(v:ar.V)(H:ae):Prop:=∃l,v=.ref l/\H l=some (.lst (tT (mc s i)))
noncomputable def yr(s:ct):List PyData:=(dK s.a6.length).map λi=>.list (kO (mc s i))
theorem TS{K:aY}{s:ct}:∀(vs:aW)(k:Nat),(∀i v,vs[i]?=some v->rT s (k+i) v H)->iT K H vs ((dK vs.length).map λi=>p9 (kO (mc s (k+i))))
 |[],_,_=>.nil
 |v::vs,k,h=>by
  obtain⟨l,rfl,aw⟩:=h 0 v rfl;rw[lR,ab8,hE,gU];refine .cons (.lst (aC.of aw) (KU _)) ?_;have:=TS (K:=K) vs (k+1) λi v e=>by have:=h (i+1) v e;rw[show k+1+i=k+(i+1) by omega];exact this
  refine(ht (iT K H vs) (sI λi _=>?_)).mp this;show p9 (kO (mc s (k+1+i)))=p9 (kO (mc s (k+(i+1))));rw[show k+1+i=k+(i+1) by omega]
theorem JM{K:aY}{s:ct}{vs:aW}(l:vs.length=s.a6.length)(h:∀i v,vs[i]?=some v->rT s i v H):iT K H vs (yr s):=by
 have:=TS (K:=K) vs 0 λi v e=>by rw[LJ];exact h i v e
 rw[l]at this;refine(ht (iT K H vs) (sI λi _=>?_)).mp this;rw[LJ]
theorem T2{k:Nat}{s:ct}(G:Good hs)(O:hR hs ds k s):(p9 (yr s)).canLay0=true:=oo λd hd=>by obtain⟨i,ak,rfl⟩:=b7.mp hd;exact SM (TQ G O (j5.mp ak))
theorem agJ{k:Nat}{s:ct}(G:Good hs)(O:hR hs ds k s):n3 (.list (yr s))=true:=tu (n:=2) (T2 G O) (LR λd hd=>by
 obtain⟨i,_,rfl⟩:=b7.mp hd;exact ĺ _) (by decide)
theorem lH.told{s:ct}{i:Nat}(h:lH s y_ D i v H):rT s i v H:=by obtain⟨l,e,_,_,aw⟩:=h;exact⟨l,e,aw⟩
theorem vT{nX b':ae}(ax:aH nX b')(e:b' b=none):nX b=none:=by
 cases aB:nX b with
 |none=>rfl
 |some o=>rw[ax _ _ aB]at e;cases e
theorem rT.same{s:ct}{i:Nat}(h:rT s i v H)(ax:aH H H'):rT s i v H':=by obtain⟨l,e,aw⟩:=h;exact⟨l,e,ax _ _ aw⟩
theorem iT.app{K:aY}:∀{vs us:aW}{ds es:gx},iT K H vs ds->iT K H us es->iT K H (vs++us) (ds++es)
 |_,_,_,_,.nil,q=>q
 |_,_,_,_,.cons h r,q=>.cons h (iT.app r q)
theorem hH.Yx{eG:Option eO}{bs:j7}(w:hH hs ds bT ay eG bs fin){j9:eO×List Nat}(cD:bs[0]?=some j9):∀(i:Nat)(b:eO×List Nat),bs[i]?=some b->j9.1.1<=b.1.1
 |0,b,e=>by rw[cD]at e;cases e;exact oR _
 |i+1,b,e=>by
  obtain⟨br,bJ⟩:∃br,bs[i]?=some br:=⟨_,cF (by have:=(eb.mp e).1;omega)⟩
  have a3:=w.Yx cD i br bJ;obtain⟨k,ok,_,h⟩:=w.at_ e;have o:=ok.ord;rw[h i br rfl bJ]at o;have o:br.1.1<b.1.1\/(br.1.1=b.1.1/\br.1.2<b.1.2):=o;omega
theorem acs{K:aY}{wi:TI}{b6:TE}{rest:ar.St}{H:ae}{Q:a'}{s:ct}{X:List ar.V->ae->Prop}(hw:∀R:fe->ae->Prop,(∀p H1 vs,aH H H1->H1 p=some (.lst vs)->vs.length=s.a6.length->X vs H1->R (iW K p) H1)->wi σ H R)(gd:hc cs σ=none::rest)(aw:s.a6.length<sizeLine)(elt:∀(vs:aW)(H1:ae)(i:Nat)(x:ar.V)(ah:ae)(R:a'),X vs H1->vs[i]?=some x->i<s.a6.length->aH H1 ah->(∀l ba,ah l=none->aH ah ba->ba l=some (.lst (tT (mc s i)))->R (.ref l) ba)->b6 (some x::rest) ah R)(fin:∀(D:Addr)(H':ae)(us:aW),H D=none->H' D=some (.lst us)->us.length=s.a6.length->(∀i v,us[i]?=some v->rT s i v H')->aH H H'->Q (.ref D) H'):mf wi cs (ha 0) q0 b6 σ H Q:=
 hw _ λp H1 vs s1 aN lv kg=>TR (wi:=λ_ _ R=>R (iW K p) H1) (H:=H) (σ:=σ) (J:=iW K p) (H1:=H1) (λR h=>h) gd (nA (aC.of aN)) (by rw[lv];exact aw) (lH s H1) lH.same lH.upd
  (λD i x ah R ex ax bl cM k=>elt vs H1 i x ah R kg ex (by rw[<-lv];exact(eb.mp ex).1) ax λl ba nl s5 dX=>k _ ba s5 ⟨l,rfl,(λz=>by obtain⟨ys,e⟩:=cM;rw[<-z,nl]at e;cases e),vT ax nl,dX⟩)
  (λD H' us kJ bl xZ ny ax=>fin D H' us (vT s1 kJ) bl (xZ.trans lv) (λi v e=>(ny i v e).told) (s1.trans ax))
theorem ac9{wi:TI}{b6:TE}{rest:ar.St}{H:ae}{Q:a'}{s:ct}(hw:∀R:fe->ae->Prop,R (nd 0 s.a6.length) H->wi σ H R)(gd:hc cs σ=none::rest)(aw:s.a6.length<sizeLine)(elt:∀(i:Nat)(ah:ae)(R:a'),i<s.a6.length->aH H ah->(∀l ba,ah l=none->aH ah ba->ba l=some (.lst (tT (mc s i)))->R (.ref l) ba)->b6 (some (.int (i:Int))::rest) ah R)(fin:∀(D:Addr)(H':ae)(us:aW),H D=none->H' D=some (.lst us)->us.length=s.a6.length->(∀i v,us[i]?=some v->rT s i v H')->aH H H'->Q (.ref D) H'):mf wi cs (ha 0) q0 b6 σ H Q:=by
 refine TR (J:=nd 0 s.a6.length) (H1:=H) (xs:=(dK s.a6.length).map λi:Nat=>V.int (0+(i:Int))) hw gd (D7 0 s.a6.length) (by rw[bk,iD];exact aw) (lH s H) lH.same lH.upd (λD i x ah R ex ax bl cM k=>?_) (λD H' us kJ bl xZ ny ax=>fin D H' us kJ bl (by rw[xZ,bk,iD]) (λi v e=>(ny i v e).told) ax);have ak:i<s.a6.length/\x=.int (i:Int):=by rw[cx]at ex;obtain⟨j,dy,rfl⟩:=e0.mp ex;obtain⟨xB,qu⟩:=eb.mp dy;rw[zh]at qu;subst qu;rw[iD]at xB;exact⟨xB,by rw[nc]⟩
 obtain⟨ak,rfl⟩:=ak;exact elt i ah R ak ax λl ba nl s5 dX=>k _ ba s5 ⟨l,rfl,(λz=>by obtain⟨ys,e⟩:=cM;rw[<-z,nl]at e;cases e),vT ax nl,dX⟩
theorem SR(bs:j7):(p9 (bs.map oI++[.none])).canLay0=true:=oo λd hd=>by
 rcases hl.mp hd with hd|hd
 .obtain⟨b,_,rfl⟩:=b7.mp hd;have:p8 (b.2.map λn:Nat=>uu n)=true:=oo λd hd=>by obtain⟨n,_,rfl⟩:=b7.mp hd;rfl
  unfold oI;simp only[wO,p8,ś,BK];exact this
 .rw[g5.mp hd];rfl
theorem T3(bs:j7):n3 (.list (bs.map oI++[.none]))=true:=
 tu (SR bs) (n:=4) (LR (n:=3) λd hd=>by
  rcases hl.mp hd with hd|hd
  .obtain⟨b,_,rfl⟩:=b7.mp hd;unfold oI;refine Gz (n:=2) λd hd=>?_;simp only[dv,eo,or_false]at hd;rcases hd with rfl|rfl|rfl
   .exact eZ _
   .exact eZ _
   .exact Gz (n:=1) λd hd=>by obtain⟨n,_,rfl⟩:=b7.mp hd;exact eZ _
  .rw[g5.mp hd];exact eZ _) (by decide)
end df
namespace cH
open PySem PySem.Spec PyProof.Rows ar
section
variable{X:bo}{a b c d:Expr}{pos:Pos}{bQ c_ mh ek:TE}
noncomputable def agK(r b9 I1:lU)(bQ c_ mh ek:TE):TE:=λσ H Q=>bQ σ H λx H1=>c_ σ H1 λy ah=>r x y ah λz aZ=>∃k,z=.aA k/\
 (if k=true then mh σ aZ λeJ dE=>b9 y eJ dE λbu ba=>∃k2,bu=.aA k2/\(if k2=true then ek σ ba λg4 f'=>I1 eJ g4 f' Q else Q (.aA false) ba)else Q (.aA false) aZ)
theorem ada{op qK Qn:sv}{r b9 I1:lU}(aU:fO X (gA op) r)(iL:fO X (gA qK) b9)(Dy:fO X (gA Qn) I1)(aF:bq X a bQ)(aa:bq X b c_)(aq:bq X c mh)(hd:bq X d ek)(hm:Z7 [op,qK,Qn] [b,c,d]=false:=by with_unfolding_all rfl):lT X (.Compare a [op,qK,Qn] [b,c,d] pos) (wb (agK r b9 I1 bQ c_ mh ek)):=by
 intro pins s σ H Q I h;refine isTrue_chain (bD (aF pins s σ H _ I h) λv s1⟨x,H1,aR,b3,bz⟩=>ï (bD (aa pins s1 σ H1 _ aR bz) λu s2⟨y,ah,bH,dh,cv⟩=>
  bD (aU pins s2 σ ah x y v u _ bH b3 dh cv) λd s3⟨z,aZ,cZ,qQ,k,e,gg⟩=>?_)) hm
 subst e;cases qQ;refine ml ?_;cases k with
 |false=>
  obtain⟨ef,bJ,gs⟩:=gg;cases bJ;exact ite_ff ⟨aZ,cZ,gs⟩
 |true=>
  refine ite_tt (ï (bD (aq pins s3 σ aZ _ cZ gg) λeJ s4⟨dk,dE,jf,vU,pH⟩=>bD (iL pins s4 σ dE y dk u eJ _ jf dh vU pH) λd' s5 hz=>?_));obtain⟨bu,ba,ks,yi,k2,aB,tL⟩:=hz;subst aB;cases yi;refine ml ?_;cases k2 with
  |false=>
   obtain⟨ef,bJ,gs⟩:=tL;cases bJ;exact ite_ff ⟨ba,ks,gs⟩
  |true=>
   refine ite_tt (test_last (bD (hd pins s5 σ ba _ ks tL) λgv i_⟨eS,f',sC,aph,Ec⟩=>bD (Dy pins i_ σ f' dk eS eJ gv _ sC vU aph Ec) λar9 oE hz=>?_));obtain⟨hB,jG,ku,QD,au5,sV,m2⟩:=hz;subst sV;cases QD;exact ml ⟨jG,ku,m2⟩
set_option maxHeartbeats 8000000
end
end cH
namespace df
open PySem ar cH di
section
variable{P:cG}{w:bS}{K:aY}{mg:cw}{base:Heap}
noncomputable abbrev zE:Stmt:=top 69
noncomputable abbrev ahV:List Str:=["_law_script","_law_names","_law_cells","_law_lines","_law_first","_law_net","_law_day","_law_closed","_law_shut_at","_law_cell","_law_n","_law_now","_law_log","_law_letters","_law_stood","_law_due_here"]
theorem l9:c3 ahV ["_law_script"] (cn zE):={}
inductive WJ(aJ C bw aO:Addr)(a7:ae)(hs:bF)(ds:ck)(a dz fl ei:Addr)(dq:Int)(n x cl bY:Addr)(j:Nat)(σ:ar.St)(H:ae):Prop where
 |mk (A:cL) (s:ct) (k:Nat) (dT:en) (JQ v10:kW) (bM:σ=[some (.ref a),some (.ref dz),some (.ref fl),some (.ref ei),some (.int dq),some (.ref n),some (.ref x),some (.ref cl),some (.ref bY),JQ,v10,none,none,none,none,none]) (bu:i9 aJ C bw aO a7 H hs ds x cl bY dq j A s k dT) (bW:k<=2*j)
theorem akL{t:TT}{b:e'}{D:Ends}(h:∀R:e',R=b->sb t a R D σ H):sb t a b D σ H:=h b rfl
section
variable{aJ C bw aO:Addr}{a7 H H':ae}{hs:bF}{ds:ck}{x cl bY:Addr}{dq:Int}{j:Nat}{A e7:cL}{s:ct}{k:Nat}{dT:en}
theorem i9.next(S:i9 aJ C bw aO a7 H hs ds x cl bY dq j A s k dT):i9 aJ C bw aO a7 H hs ds x cl bY dq (j+1) A s k dT:={S with lz:=by have:=S.lz;omega}
theorem i9.out(S:i9 aJ C bw aO a7 H hs ds x cl bY dq j A s k dT)(gf:hZ (A.b0 x) (e7.b0 x) H H'):cl∉e7.b0 x/\bY∉e7.b0 x:=by
 refine⟨λz=>?_,λz=>?_⟩
 .rcases gf.own _ z with h|h
  .exact S.nm.1 h
  .rw[S.aq]at h;cases h
 .rcases gf.own _ z with h|h
  .exact S.nm.2 h
  .rw[S.aF]at h;cases h
theorem i9.post(S:i9 aJ C bw aO a7 H hs ds x cl bY dq j A s k dT){h g:Str}(b:jj (bl hs) (kI (h,s.pr,g))=true)(x1:h∈hs.map df.S)(mg:g∈hs.map df.S)(ou:s.a6.length+1<=40)(gf:hZ (A.b0 x) (e7.b0 x) H H')(ei:ew aJ C bw aO a7 H' x e7 hs ds (BA s h g)):i9 aJ C bw aO a7 H' hs ds x cl bY dq (j+1) e7 (BA s h g) k dT:=by
 have lz:=S.lz;refine⟨ei,gf.keep _ _ S.nm.1 S.aq,gf.keep _ _ S.nm.2 S.aF,S.ok.post x1 mg ou,S.po.post b,S.dS,S.l'.post h g,S.out gf,S.nb,S.sl,⟨by show s.kvs.length<=_;omega,by show s.eD.length<=_;omega⟩,S.pr,λd hd=>?_⟩;rcases hl.mp hd with hd|hd
 .exact S.lo d hd
 .rw[g5.mp hd];exact S.l'.bR
theorem i9.C1(S:i9 aJ C bw aO a7 H hs ds x cl bY dq j A s k dT){ah aZ:ae}{d:i8}(y6:rM hs ds d)(gf:hZ (A.b0 x) (A.b0 x) H ah)(ei:ew aJ C bw aO a7 ah x A hs ds (d.act s))(cI:∀b o,b≠cl->ah b=some o->aZ b=some o)(aq:aZ cl=some (.bN (fw (FW s.eD d)))):i9 aJ C bw aO a7 aZ hs ds x cl bY dq (j+1) A (d.act s) k dT:=by
 have u5:=gf.keep _ _ S.nm.1 S.aq;have tf:=gf.keep _ _ S.nm.2 S.aF;have dS:=aaf S.dS y6;rw[<-KS]at dS;have d9:=aeJ s.kvs d;have nE:=aeK s.eD d;have lz:=S.lz;refine⟨ei.only S.nm.1 S.nb.1 (λv e=>by rw[u5]at e;cases e) cI,?_,cI _ _ (λz=>by rw[z,u5]at tf;cases tf) tf,S.ok.act y6,S.po.act d,dS,S.l'.act d,S.nm,S.nb,S.sl,⟨?_,?_⟩,?_,?_⟩
 .rw[U2];exact aq
 .rw[KS];omega
 .rw[U2];omega
 .rw[Wy];exact S.pr
 .rw[yd];exact S.lo
end
seal gw bq gI g6
theorem ahW{S_:mB}(F:cC K "law" "law" zE f fd)(B:fk mg)(E4:mg "Net"=some (.ref aO))(EZ:mg "Day"=some (.ref aJ))(fR:eh K aJ)(jK:cY K mg "_law_cell_at" I6 zo jq aln)(DF:aS P w K mg base bh 1 jq aln zo (Xr K))(uT:cY K mg "_law_houses" JA Cd alv alo)(aqZ:aS P w K mg base bh 1 alv alo Cd ħ)(vl:cY K mg "_law_road" Gw wG ft alp)(aar:aS P w K mg base bh 1 ft alp wG W7)(ahX:p6 K aO C8)(xT:lP K aO "Net.__init__" FQ zm C8 Nt)(QM:aS P w K mg base bh 5 C8 Nt zm (VG K aO))(ahY:p6 K aJ s9)(xU:lP K aJ "Day.__init__" GL zp s9 Nu)(abc:aS P w K mg base bh 5 s9 Nu zp (Me aJ C bw aO))(uX:cY K mg "_law_turns" Jl IQ f1 dJ)(ū:aS P w K mg base bh 7 f1 dJ IQ (MK aJ C bw aO))(uY:cY K mg "_law_noted" Jf D8 f2 eV)(Ŭ:aS P w K mg base bh 1 f2 eV D8 XM)(uU:cY K mg "_law_change" I9 IL cU h8)(aq0:aS P w K mg base bh 5 cU h8 IL (MD aJ C bw aO))(uJ:cY K mg "_law_spot_right" Jk IP f4 qs)(ul:aS P w K mg base bh 5 f4 qs IP (ML aJ C bw aO))(n6:cY K mg "_law_walked" El AQ e_ C6)(PR:aS P w K mg base bh 2 e_ C6 AQ MH)(n7:cY K mg "_law_due" Ef yg C5 C7)(QL:aS P w K mg base bh 1 C5 C7 yg MG)(l0:cY K mg "_law_told" B1 sL Ng Nn)(Il:aS P w K mg base bh 1 Ng Nn sL (Ma S_))(vw:cY K mg "spots_at" Fn Ca f8 ali)(abe:aS P w K mg base bh 6 f8 ali Ca (U9 C aO S_))(qk:cY K mg "_law_nobody" Je IM Nh alj)(É:aS P w K mg base bh 5 Nh alj IM (MI aJ C bw aO))(n':cS K aJ "log" "Day.log" CE eA g1 alG)(IY:aS P w K mg base bh 1 g1 alG eA (FV aJ C bw aO))(k':cS K aJ "now" "Day.now" zA eA g2 alH)(AD:aS P w K mg base bh 1 g2 alH eA (BX aJ C bw aO))(n5:cS K aJ "letters" "Day.letters" CI eA g3 alI)(HT:aS P w K mg base bh 1 g3 alI eA (FC aJ C bw aO))(xV:cS K aJ "post" "Day.post" FD gk C9 alJ)(abf:aS P w K mg base (m' P w) 5 C9 alJ gk (K9 aJ C bw aO d5))(mJ:cS K aJ "spot" "Day.spot" zx dg C' alK)(DP:aS P w K mg base (m' P w) 4 C' alK dg (BW aJ C bw aO d5 S_)):
  aS P w K mg base bh 8 f fd ["_law_script"] (FJ K):=by
 refine F.ok l9 (λ_ A _ s H vs Q E ao h=>?_)
 .obtain⟨a,ns,rfl,c4,Dv,q⟩:=h;obtain⟨m,hm⟩:∃m:Nat,2+ns.getD (1:Int).toNat 0%5=(m:Int):=⟨(2+ns.getD (1:Int).toNat 0%5).toNat,by omega⟩
  have ZC:2<=m/\m<=6:=by omega
  obtain⟨hs,G5⟩:∃hs,hs=tx (ns.getD (0:Int).toNat 0) m:=⟨_,rfl⟩
  have G:Good hs:=by rw[G5];exact Ś (by omega)
  have aw:hs.length=m:=by rw[G5,Qt]
  refine⟨_,(a_ (dI (i:=1) l9.aI rfl (o1 rfl) (ec aqZ ao.mono (by rfl) uT.at_ uT.fn.cI uT.bd .nil cm (aj (ec DF ao.mono (by rfl) jK.at_ jK.fn.cI jK.bd .nil cm (aj (U 0) (aj aV aE))) (aj (cq i1 aV (cq g_ (ec DF ao.mono (by rfl) jK.at_ jK.fn.cI jK.bd .nil cm (aj (U 0) (aj aV aE))) aV)) aE))))
   (a_ (qB (i:=2) l9.aI rfl rfl rfl (N':=["_law_k","_law_script"]) (cs:=[none,some 0]) rfl (tq rfl B.range (aj (cq i1 aV (cq g_ (cq jO (ec DF ao.mono (by rfl) jK.at_ jK.fn.cI jK.bd .nil cm (aj (U 0) (aj aV aE))) aV) aV)) aE)) rfl (by decide+kernel) rfl (by decide+kernel) (ju (kv.mpr ⟨rfl,(λp aN=>bx aN (eo))⟩)) rfl
    (.own (.jk rfl (.inl rfl) (.inl rfl) rfl .nil))
    (λC s3 aZ bR eC=>⟨(eu (i:=0) (by show(["_law_k","_law_script"]:cb).Nodup;decide+kernel) rfl (.inl rfl)),mX,(cq i1 (ec DF ao.mono (by rfl) jK.at_ jK.fn.cI jK.bd .nil cm (aj (U 1) (aj (cq i1 aV (U 0)) aE))) (cq vO (cq vO aV (U 0)) (U 0)))⟩))
   (a_ (qB (i:=3) l9.aI rfl rfl rfl (N':=wG) (cs:=[none,some 1]) rfl (kb (U 2)) rfl (by decide+kernel) rfl (by decide+kernel) (ju (kv.mpr ⟨rfl,(λp aN=>bx aN (eo))⟩)) rfl
    (.own (.jk rfl (.inl rfl) (.inl rfl) rfl .nil))
    (λC s3 aZ bR eC=>⟨(eu (i:=0) (by show(wG:cb).Nodup;decide+kernel) rfl (.inl rfl)),mX,(ec aar ao.mono (by rfl) vl.at_ vl.fn.cI vl.bd .nil cm (aj (U 0) (aj (U 1) aE)))⟩))
   (a_ (dI (i:=4) l9.aI rfl (cR rfl) (cq g_ (ec DF ao.mono (by rfl) jK.at_ jK.fn.cI jK.bd .nil cm (aj (U 0) (aj aV aE))) (cq rL (cq Vy aV aV) aV)))
   (a_ (dI (i:=5) l9.aI rfl (cR rfl) (vE ahX QM ao.mono (by rfl) E4 xT.bd .nil cm (aj (U 1) (aj (U 3) aE))))
   (a_ (dI (i:=6) l9.aI rfl (o1 rfl) (vE ahY abc ao.mono (by rfl) EZ xU.bd .nil cm (aj (U 5) (aj (U 4) aE))))
   (a_ (dI (i:=7) l9.aI rfl (cR rfl) Jn)
   (a_ (dI (i:=8) l9.aI rfl (cR rfl) Tr)
   (a_ (jR j6 rfl (kb (Ja UK (U 0) (Eg aV) (Eg aV))) (eu (i:=9) l9.aI rfl (cR rfl))
    (a_ (dI (i:=10) l9.aI rfl (cR rfl) (cq g_ (cq vO (U 9) aV) aV))
   (a_ (dQ (ej nH (cq g_ (U 10) aV) aV (dB _)) (bb (gK (ec ū ao.mono (by rfl) uX.at_ uX.fn.cI uX.bd .nil cm (aj (U 6) (aj (U 7) (aj (U 8) (aj (cq i1 aV (cq g_ (cq jO (U 10) aV) aV)) aE))))))) (bb (dQ (h1.pt (Bn (ej nH (cq g_ (U 10) aV) aV (dB _)) (Bn (ej nH (dj fQ (by rfl) B.len fG (aj (k8 (U 6) fR n5.d1 HT ao.mono n5.bd .nil cm) aE)) aV (dB _)) (Ew (ej kG (cq rL (k8 (U 6) fR k'.d1 AD ao.mono k'.bd .nil cm) (U 4)) aV (dB _)))))) (bb (gK (fx (U 6) fR xV.d1 abf ao.mono xV.bd .nil LV (aj (bG e3 (U 1) (cq g_ (cq jO (U 10) aV) (dj fQ (by rfl) B.len fG (aj (U 1) aE))) (λ_ _=>rfl)) (aj (bG e3 (U 1) (cq g_ (cq i1 (cq jO (U 10) aV) aV) (dj fQ (by rfl) B.len fG (aj (U 1) aE))) (λ_ _=>rfl)) aE))))) (bb (gK (ec Ŭ ao.mono (by rfl) uY.at_ uY.fn.cI uY.bd .nil cm (aj (ec aq0 ao.mono (by rfl) uU.at_ uU.fn.cI uU.bd .nil cm (aj (U 6) (aj (U 1) (aj (U 3) (aj (cq jO (U 10) aV) aE))))) (aj (U 7) aE))))))))
   (bb (dQ (h1.pt (Bn (ej jW (cq g_ (cq jO (U 10) aV) aV) aV (dB _)) (Ew (g9 (ip (ec ul ao.mono (by rfl) uJ.at_ uJ.fn.cI uJ.bd .nil cm (aj (U 6) (aj (U 3) (aj (U 8) (aj (cq jO (U 10) aV) aE)))))))))) (bb (cp iq)) dW)))))
   (a_ (dI (i:=11) l9.aI rfl (o1 rfl) (k8 (U 6) fR k'.d1 AD ao.mono k'.bd .nil cm))
   (a_ (dI (i:=12) l9.aI rfl (cR rfl) (k8 (U 6) fR n'.d1 IY ao.mono n'.bd .nil cm))
   (a_ (dI (i:=13) l9.aI rfl (cR rfl) (k8 (U 6) fR n5.d1 HT ao.mono n5.bd .nil cm))
   (a_ (dI (i:=14) l9.aI rfl (cR rfl) (ec PR ao.mono (by rfl) n6.at_ n6.fn.cI n6.bd .nil cm (aj (U 3) (aj (U 13) (aj (U 12) (aj (U 8) aE))))))
   (a_ (dQ (h1.pt (lq (ej E7 (U 14) hL (dB _)) (pw (h1.pt (Bn (ej (Bo ao.units) (U 12) (h7 aE) (dB _)) (Ew (g9 (ada kG kG nH (U 4) (bG c1 (bG e3 (U 12) aV (λ_ _=>rfl)) aV (λ_ _=>rfl)) (bG c1 (bG e3 (U 12) (cq rL (dj fQ (by rfl) B.len fG (aj (U 12) aE)) aV) (λ_ _=>rfl)) aV (λ_ _=>rfl)) (U 11))))))))) (bb (cp iq)) dW)
   (a_ (qB (i:=15) l9.aI rfl rfl rfl (N':=B9) (cs:=[none,none,some 11]) rfl (agI rfl B.zip (aj (U 13) (aj (U 14) aE))) rfl (by decide+kernel) rfl (by decide+kernel) (ju (kv.mpr ⟨rfl,(λp aN=>bx aN (eo))⟩)) rfl
    (.own (.own (.jk rfl (.inl rfl) (.inl rfl) rfl .nil)))
    (λC s3 aZ bR eC=>⟨(Kf (K:=K) (n:=2) rfl rfl (mQ (eu (i:=0) (by show(B9:cb).Nodup;decide+kernel) rfl (.inl rfl)) (mQ (eu (i:=1) (by show(B9:cb).Nodup;decide+kernel) rfl (.inl rfl)) x'))),mX,(ec QL ao.mono (by rfl) n7.at_ n7.fn.cI n7.bd .nil cm (aj (U 0) (aj (U 1) (aj (U 2) aE))))⟩))
   (a_ (dQ (ej (Bo ao.units) (rQ (N':=sL) (cs:=[none]) rfl (kb (ec abe ao.mono (by rfl) vw.at_ vw.fn.cI vw.bd .nil cm (aj (U 5) (aj (U 13) (aj (U 12) (aj (U 11) aE)))))) rfl (by decide+kernel) rfl (by decide+kernel) (ju (λp aN=>bx aN (eo))) rfl
    (.own .nil)
    (λC s3 aZ bR eC=>⟨(eu (i:=0) (by show(sL:cb).Nodup;decide+kernel) rfl (.inl rfl)),mX,(ec Il ao.mono (by rfl) l0.at_ l0.fn.cI l0.bd .nil cm (aj (U 0) aE))⟩)) (U 15) (dB _)) (bb (cp iq)) dW)
   (a_ (gK (tQ uv wU wV tr (U 12) (aj hL aE)))
   (a_ (gK (tQ uv wU wV tr (U 13) (aj hL aE)))
   (a_ (dQ (h1.pt (lq (g9 (ip (ec É ao.mono (by rfl) qk.at_ qk.fn.cI qk.bd .nil cm (aj (U 6) (aj (dj fQ (by rfl) B.len fG (aj (U 15) aE)) aE))))) (lq (g9 (ip (ec É ao.mono (by rfl) qk.at_ qk.fn.cI qk.bd .nil cm (aj (U 6) (aj (cq rL (BN EJ aV) (U 4)) aE))))) (pw (ej (Bo ao.units) (cq VI (k8 (U 6) fR n'.d1 IY ao.mono n'.bd .nil cm) (h7 (aj hL aE))) (U 12) (dB _)))))) (bb (cp iq)) dW)
   (bb (cp (ke (K1 ao.units) (rQ (N':=["_law_n","_law_day"]) (cs:=[none,some 6]) rfl (tq rfl B.range (aj (dj fQ (by rfl) B.len fG (aj (U 15) aE)) aE)) rfl (by decide+kernel) rfl (by decide+kernel) (ju (kv.mpr ⟨rfl,(λp aN=>bx aN (eo))⟩)) rfl
    (.own (.jk rfl (.inl rfl) (.inl rfl) rfl .nil))
    (λC s3 aZ bR eC=>⟨(eu (i:=0) (by show(["_law_n","_law_day"]:cb).Nodup;decide+kernel) rfl (.inl rfl)),mX,(ec Il ao.mono (by rfl) l0.at_ l0.fn.cI l0.bd .nil cm (aj (fx (U 1) fR mJ.d1 DP ao.mono mJ.bd .nil LV (aj (U 0) aE)) aE))⟩)) (U 15) (dB _))))))))))))))))))))))),?_⟩
  try dsimp only[lD,lu]
  refine cut λR f3=>?_;refine⟨_,rfl,a,ns,0,rfl,c4,by decide,_,rfl,a,ns,1,rfl,c4,by decide,_,_,rfl,rfl,(by show(0:Int)<5;decide),_,_,rfl,rfl,ns.getD (0:Int).toNat 0,m,?_,by omega,λdz H1 AM s1 ag=>?_⟩
  .show[V.int _,V.int (2+ns.getD (1:Int).toNat 0%5)]=_;rw[hm]
  rw[<-G5]at ag;have dr:2<=hs.length/\hs.length<=6:=by rw[aw];exact ZC
  clear hm ZC aw G5;have td:=s1.seq c4;obtain⟨ov,ZD⟩:∃ov:Nat,1+ns.getD (1:Int).toNat 0/5%8=(ov:Int):=⟨(1+ns.getD (1:Int).toNat 0/5%8).toNat,by omega⟩
  have an1:ov<=8:=by omega
  obtain⟨cl,Yf⟩:∃cl:Nat->Int,cl=λi:Nat=>ns.getD (3+(i:Int)).toNat 0+31*(i:Int)*(i:Int):=⟨_,rfl⟩
  refine mb R f3 λR f3=>?_;dsimp only[iQ,so,ha];refine Kv (J:=nd 0 ov) (H1:=H1) (xs:=(dK ov).map λi:Nat=>V.int (0+(i:Int))) (rest:=[some (.ref a)]) (λR h=>⟨_,rfl,a,ns,1,rfl,td,by decide,_,_,rfl,rfl,⟨by decide,by decide⟩,_,_,rfl,rfl,(by show(0:Int)<8;decide),_,_,rfl,rfl,_,rfl,?_,?_,?_⟩) rfl (D7 0 ov) (fF (by simp;omega)) (λi=>.int (cl i)) (λi v ah R ev ax k=>?_) (λfl ah avf Df ih=>?_)
  .show -2 ^ 62<=1+ns.getD (1:Int).toNat 0/5%8;omega
  .show 1+ns.getD (1:Int).toNat 0/5%8<2 ^ 62;omega
  .show R (nd 0 (1+ns.getD (1:Int).toNat 0/5%8).toNat) H1;rw[ZD,kQ];exact h
  .have ak:i<ov/\v=.int (0+(i:Int)):=by rw[cx]at ev;obtain⟨j,dy,rfl⟩:=e0.mp ev;obtain⟨xB,qu⟩:=eb.mp dy;rw[zh]at qu;subst qu;rw[iD]at xB;exact⟨xB,rfl⟩
   obtain⟨ak,rfl⟩:=ak;refine⟨_,rfl,_,rfl,_,_,rfl,rfl,a,ns,3+(0+(i:Int)),rfl,ax.seq td,by omega,_,rfl,_,_,rfl,rfl,.inl ⟨by decide,by decide⟩,_,rfl,_,_,rfl,rfl,.inr ⟨by show -(2 ^ 64)<0+(i:Int);omega,by show 0+(i:Int)<2 ^ 64;omega⟩,_,_,rfl,rfl,?_⟩;have:=k ah (aH.refl _);rw[Yf]at this;simp only[nc];exact this
  have avb:1<=ov:=by omega
  clear ZD Yf;have AF:((dK ov).map λi:Nat=>V.int (0+(i:Int))).length=ov:=by simp
  rw[AF]at Df;obtain⟨cs,sW⟩:∃cs:List Int,cs=(dK ov).map cl:=⟨_,rfl⟩
  have Df:ah fl=some (.lst (cs.map V.int)):=by rw[Df,sW,gU];rfl
  have lcs:cs.length=ov:=by rw[sW];simp
  obtain⟨ds,jP⟩:∃ds:List di.gJ,ds=cs.map λc=>H_ hs.length c:=⟨_,rfl⟩
  have u_:∀d∈ds,d.Ok hs.length:=λd hd=>by rw[jP]at hd;obtain⟨c,_,rfl⟩:=b7.mp hd;exact ahI (by omega) c
  have Z8:ds.length=ov:=by rw[jP,bk,lcs]
  have xC:=ih _ _ ag;refine mb R f3 λR f3=>?_;dsimp only[iQ,so,ha];refine afY (J:=iW K fl) (H1:=ah) (xs:=cs.map V.int) (rest:=[some (.ref dz)]) (λR h=>⟨_,rfl,fl,rfl,⟨_,aC.of Df⟩,h⟩) rfl (nA (aC.of Df)) (fF (by rw[bk];omega)) (λv=>match v with|.int c=>m4 hs (H_ hs.length c)|_=>[]) (λi y aZ R da ax bP=>?_) (λei aZ rs ave z5 bV Ô=>?_)
  .obtain⟨c,_,rfl⟩:=b7.mp (dV da);exact⟨_,rfl,_,rfl,c,dz,hs,rfl,ax _ _ xC,by omega,by omega,λdh aoJ=>bP dh _ (b8 aoJ) aQ⟩
  have ô:fa aZ rs (ds.map (m4 hs)):=by rw[jP,gU];rw[gU]at bV;exact bV
  have cK:hr aZ hs rs ds:=⟨ô,u_⟩
  have c6:rs.length<=8:=by rw[cK.len,Z8];omega
  have atn:1<=ds.length/\ds.length<=8:=by omega
  clear Z8 lcs an1 AF sW jP ô bV;have YM:=Ô _ _ xC;have z6:=Ô.seq (ih.seq td);refine mb R f3 λR f3=>?_;refine⟨_,rfl,a,ns,2,rfl,z6,by decide,_,_,rfl,rfl,⟨by decide,by decide,by decide⟩,_,_,rfl,rfl,_,_,rfl,rfl,(by show(0:Int)<10 ^ (9:Int).toNat - 99;decide),?_⟩;have f0:0<=ns.getD (2:Int).toNat 0%(10 ^ (9:Int).toNat - 99):=lQ _ (by decide);have Ys:ns.getD (2:Int).toNat 0%(10 ^ (9:Int).toNat - 99)<10 ^ (9:Int).toNat - 99:=p1 _ (by decide);have Nh:ns.getD (2:Int).toNat 0%(10 ^ (9:Int).toNat - 99)<=999999900:=by
   have e:(10:Int) ^ (9:Int).toNat - 99=999999901:=by decide
   rw[e]at Ys⊢;omega
  generalize ns.getD (2:Int).toNat 0%(10 ^ (9:Int).toNat - 99)=dq at f0 Nh⊢;clear Ys;refine mb R f3 λR f3=>?_;refine⟨_,rfl,_,rfl,λn h6 nn Β _=>?_⟩;have mk:∀{b:Addr}{v:f_},aZ b=some v->upd (upd aZ h6 (.own n)) n (.ins aO h6 []) b=some v:=λ{b v}e=>by rw[aD (cA e nn),aD (cA e Β)];exact e
  refine⟨n,h6,dz,ei,hs,rs,ds,rfl,aQ,mk YM,G,mk z5,cK.same (λb v e=>mk e),(by omega),λdE bL br b4 DC al8 N2 na nb=>⟨rfl,?_⟩⟩;have rY:aH aZ dE:=RJ nn Β b4;have ie:i6 aO dE n bL br (de hs) (aG rs):=⟨⟨h6,DC⟩,al8,N2⟩
  have YZ:=cK.same rY;have al6:=rY.seq z6;have alP:=rY _ _ YM;have He:=rY _ _ z5;dsimp only;refine mb R f3 λR f3=>?_;refine⟨_,rfl,_,rfl,λx af b1 tD _=>?_⟩;have x2:aH dE (upd (upd dE af (.own x)) x (.ins aJ af [])):=λb v e=>by rw[aD (cA e b1),aD (cA e tD)];exact e
  refine⟨x,af,n,bL,br,hs,rs,ds,dq,rfl,aQ,ie.same x2,G,YZ.same x2,(by omega),λba BE k1 Q2 jc ak2 ak7 Mg Χ=>⟨rfl,?_⟩⟩;have yu:aH dE ba:=RJ b1 tD Q2;have bc:∀{nX b':ae}{b:Addr},aH nX b'->b' b=none->nX b=none:=λ{nX b' b}ax e=>by
   cases aB:nX b with
   |none=>rfl
   |some o=>rw[ax _ _ aB]at e;cases e
  have kk:∀b∈BE.b0 x,dE b=none:=λb aa=>by
   rcases Χ b aa with rfl|h
   .exact b1
   .exact bc x2 h
  refine mb R f3 λR f3=>?_
  refineλcl PY=>?_
  have yH:=b8 (o:=.bN []) PY;have nG:upd ba cl (.bN []) cl=some (.bN (fw [])):=aQ;generalize upd ba cl (.bN [])=nX at yH nG⊢;refine mb R f3 λR f3=>?_
  refineλbY Ο=>?_
  have JK:=b8 (o:=.d4 []) Ο;have lc:upd nX bY (.d4 []) bY=some (.d4 []):=aQ;generalize upd nX bY (.d4 [])=b' at JK lc⊢;have QY:=yH.trans JK;refine mb R f3 λR f3=>?_;refine⟨_,rfl,_,rfl,_,rfl,a,_,rfl,(yu.trans QY).seq al6,λsl kK=>⟨sl,rfl,⟨_,aC.of aQ⟩,?_⟩⟩;have JL:=b8 (o:=.lst (lC (ns.map V.int) (some 3) (some 43))) kK;have lf:upd b' sl (.lst (lC (ns.map V.int) (some 3) (some 43))) sl=some (.lst (lC (ns.map V.int) (some 3) (some 43))):=aQ;generalize upd b' sl (.lst (lC (ns.map V.int) (some 3) (some 43)))=Ft at JL lf⊢;have Õ:=QY.trans JL;have ou:(lC (ns.map V.int) (some 3) (some 43)).length<=40:=by unfold lC;have alE:hk.eg (ns.map V.int).length 0 (some ((3:Nat):Int))=min 3 (ns.map V.int).length:=hk.Q1 _ _ 3;have alF:hk.eg (ns.map V.int).length (ns.map V.int).length (some ((43:Nat):Int))=min 43 (ns.map V.int).length:=hk.Q1 _ _ 43;rw[show(some (3:Int))=some ((3:Nat):Int)from rfl,show(some (43:Int))=some ((43:Nat):Int)from rfl,alE,alF,lS];omega
  have Td:=jc.same Õ;have a4:=(JK.trans JL) _ _ nG;have iZ:=JL _ _ lc;have PX:ba bY=none:=bc yH Ο;obtain⟨a7,o'⟩:∃a7,a7=mask Ft ([cl,bY]++BE.b0 x):=⟨_,rfl⟩
  have O9:∀b o,Ft b=some o->b∉[cl,bY]->b∉BE.b0 x->a7 b=some o:=λb o e ag ai=>by rw[o'];exact kc e λz=>(hl.mp z).elim ag ai
  have yI:aH dE a7:=λb o e=>O9 b o (Õ _ _ (yu _ _ e)) (λz=>by
   have hN:=yu _ _ e;simp only[dv,eo,or_false]at z;rcases z with rfl|rfl
   .rw[PY]at hN;cases hN
   .rw[PX]at hN;cases hN) λz=>by rw[kk b z]at e;cases e
  have akD:a7 sl=some (.lst (lC (ns.map V.int) (some 3) (some 43))):=O9 sl _ lf (λz=>by
   simp only[dv,eo,or_false]at z;rcases z with rfl|rfl
   .rw[JK _ _ nG]at kK;cases kK
   .rw[lc]at kK;cases kK) (jc.live (bc QY kK))
  have MQ:a7 ei=some (.lst (aG rs)):=yI _ _ He;have uE:a7 dz=some (.lst (de hs)):=yI _ _ alP;have CT:=YZ.same yI;have XQ:=ie.same yI;have aeU:i9 aJ C bw aO a7 Ft hs ds x cl bY dq 0 BE ⟨dq,[],[],[],k1,[]⟩ 0 []:=by have dF:=Mg.c6 (by omega);exact⟨Td.apm (by rw[o'];exact Az _ _) ak2 ak7 XQ CT (λb aa=>by rw[o'];exact yb (hl.mpr (.inr aa))),a4,iZ,⟨rfl,by show 0<=40;decide,by omega,(λ_ h=>nomatch h),Mg.ok u_,(λ_ h=>nomatch h),(λ_ h=>nomatch h),(λ_ h=>nomatch h),bU _⟩,⟨(λ_ h=>nomatch h),(λ_ h=>nomatch h),(λ_ h=>nomatch h)⟩,Mg.uC u_,mZ.start,⟨jc.live PY,jc.live PX⟩,⟨by rw[o'];exact yb (by simp),by rw[o'];exact yb (by simp)⟩,bU _,⟨dF,bU _⟩,by show dq=dq+0;omega,(λ_ h=>nomatch h)⟩
  clear o' O9 yI a4 iZ PX Td Χ kk;refine vy (K:=K) (a:=sl) (xs:=lC (ns.map V.int) (some 3) (some 43)) (WJ aJ C bw aO a7 hs ds a dz fl ei dq n x cl bY)
   ⟨BE,_,0,_,none,none,rfl,aeU,bU _⟩ (λj σ dG _⟨_,_,_,_,_,_,_,h,_⟩=>aC.of (h.d.b4 _ _ akD)) ?_ ?_
  .rintro j z σ dG ee ⟨A,s,k,dT,JQ,v10,rfl,S,anD⟩;have anA:=(eb.mp ee).1;obtain⟨c,rfl⟩:∃c:Int,z=.int c:=by have Hz:=dV ee;unfold lC at Hz;obtain⟨c,_,rfl⟩:=b7.mp (ab7 (Vi Hz));exact⟨c,rfl⟩
   have lz:=S.lz;refine⟨_,rfl,_,_,rfl,rfl,.inr ⟨by decide,by decide⟩,_,_,rfl,rfl,(by show(0:Int)<10000000000037;decide),?_⟩;generalize c*1099087573%10000000000037=nn;dsimp only[ha];refine cut (a:=sb _ _ _) (b:=sb _ _ _) λux zW=>?_;have tail:∀(D:Ends)(nY:ae)(e7:cL)(s':ct)(ef:Nat)(gh:en),(∀σ H,WJ aJ C bw aO a7 hs ds a dz fl ei dq n x cl bY (j+1) σ H->D.b1 σ H)->i9 aJ C bw aO a7 nY hs ds x cl bY dq (j+1) e7 s' ef gh->ef<=2*(j+1)->ux D [some (.ref a),some (.ref dz),some (.ref fl),some (.ref ei),some (.int dq),some (.ref n),some (.ref x),some (.ref cl),some (.ref bY),some (.int c),some (.int nn),none,none,none,none,none] nY:=λD nY e7 s' ef gh b1 lV bP=>by subst zW;refine⟨_,rfl,_,_,rfl,rfl,⟨by decide,by decide⟩,_,_,rfl,rfl,(by show(0:Int)<3;decide),rfl,_,rfl,sd (λ_=>?_) (λ_=>fI (b1 _ _ ⟨e7,s',ef,gh,_,_,rfl,lV,bP⟩))⟩;exact⟨_,rfl,_,rfl,_,rfl,_,rfl,_,_,rfl,rfl,⟨by decide,by decide⟩,a7,hs,ds,x,cl,bY,dq,j+1,e7,s',ef,gh,ei,rs,_,rfl,lV,G,MQ,CT,(by omega),λH' ax=>⟨_,rfl,fI (b1 _ _ ⟨e7,s',ef,gh,_,_,rfl,lV.same ax,bP⟩)⟩⟩
   clear zW;refine⟨_,rfl,_,_,rfl,rfl,(by show(0:Int)<8;decide),_,_,rfl,rfl,_,rfl,sd (λ_=>?_) (λ_=>?_)⟩
   .-- turns pass
    obtain⟨mt,ak1⟩:∃mt:Nat,1+nn/8%2=(mt:Int):=⟨(1+nn/8%2).toNat,by omega⟩
    have an3:mt<=2:=by omega
    refine⟨_,rfl,_,rfl,_,rfl,_,rfl,_,_,rfl,rfl,⟨by decide,by decide⟩,_,_,rfl,rfl,(by show(0:Int)<2;decide),_,_,rfl,rfl,a7,hs,ds,x,cl,bY,dq,j,A,s,k,dT,mt,?_,S,G,an3,(by omega),(by omega),λH' e7 s' gh lV=>?_⟩
    .show[V.ref x,V.ref cl,V.ref bY,V.int (1+nn/8%2)]=_;rw[ak1]
    .exact tail _ H' e7 s' (k+mt) gh (λ_ _ h=>h) lV.next (by omega)
   .refine akL λaeD X_=>?_;have C1:∀(D:Ends)(nY:ae),(∀uf e7 s' ef gh,i9 aJ C bw aO a7 uf hs ds x cl bY dq (j+1) e7 s' ef gh->ef<=2*(j+1)->D.b1 [some (.ref a),some (.ref dz),some (.ref fl),some (.ref ei),some (.int dq),some (.ref n),some (.ref x),some (.ref cl),some (.ref bY),some (.int c),some (.int nn),none,none,none,none,none] uf)->aH dG nY->aeD D [some (.ref a),some (.ref dz),some (.ref fl),some (.ref ei),some (.int dq),some (.ref n),some (.ref x),some (.ref cl),some (.ref bY),some (.int c),some (.int nn),none,none,none,none,none] nY:=λD nY b1 apM=>by subst X_;have S:=S.same apM;refine⟨_,rfl,_,rfl,_,rfl,_,rfl,_,_,rfl,rfl,⟨by decide,by decide⟩,a7,x,A,hs,ds,s,dz,ei,rs,_,rfl,S.d,G,(by omega),(by omega),(by have:=S.d.oB.len;omega),(by omega),(by omega),uE,MQ,CT,λd ah l y6 gf q6 nl avo akM=>?_⟩;refine⟨_,rfl,l,cl,d,s.eD,rfl,akM,gf.keep _ _ S.nm.1 S.aq,(by omega),λaZ cI aq=>?_⟩;exact b1 aZ A (d.act s) k dT (S.C1 y6 gf q6 cI aq) (by omega)
    clear X_;refine⟨_,rfl,_,_,rfl,rfl,(by show(0:Int)<8;decide),_,_,rfl,rfl,_,rfl,sd (λ_=>?_) (λ_=>fI (C1 _ dG (λuf e7 s' ef gh lV bP=>tail _ uf e7 s' ef gh (λ_ _ h=>h) lV bP) (aH.refl _)))⟩;refine⟨_,rfl,x,A.af,_,rfl,S.d.ins,rfl,a7,x,A,hs,ds,s,rfl,S.d,λdF m1=>?_⟩;have iz:=b8 (o:=.lst (aG A.eY)) m1;have gR:upd dG dF (.lst (aG A.eY)) dF=some (.lst (aG A.eY)):=aQ;generalize upd dG dF (.lst (aG A.eY))=j4 at iz gR⊢;have zL:=S.same iz;refine⟨dF,_,rfl,.inl (aC.of gR),_,_,rfl,rfl,_,rfl,sd (λMT=>?_) (λ_=>fI (C1 _ j4 (λuf e7 s' ef gh lV bP=>tail _ uf e7 s' ef gh (λ_ _ h=>h) lV bP) iz))⟩;refine⟨_,rfl,x,A.af,_,rfl,zL.d.ins,rfl,a7,x,A,hs,ds,s,rfl,zL.d,_,rfl,_,_,rfl,rfl,_,_,rfl,rfl,_,rfl,sd (λMU=>?_) (λ_=>(C1 _ j4 (λuf e7 s' ef gh lV bP=>tail _ uf e7 s' ef gh (λ_ _ h=>h) lV bP) iz))⟩;have MT:=kL MT;have MU:=kL MU;have pl:=S.d.pt.len;rw[bk]at pl;rw[d6,pl]at MT;have dA:(de hs).length=hs.length:=by unfold de;rw[bk]
    obtain⟨u,MO,jo⟩:=E1 (λy=>V.str (df.S y)) (L:=hs) (by omega) (nn/8);obtain⟨v,MP,ev⟩:=E1 (λy=>V.str (df.S y)) (L:=hs) (by omega) (nn/8+1);have b0:df.S u∈hs.map df.S:=b7.mpr ⟨u,dV jo,rfl⟩;have gf:df.S v∈hs.map df.S:=b7.mpr ⟨v,dV ev,rfl⟩;have ne:df.S u≠df.S v:=λz=>by have e:=FI z;subst e;obtain⟨ag,az⟩:=eb.mp jo;obtain⟨bK,cX⟩:=eb.mp ev;have:=(wC G.aI).mp (az.trans cX.symm);have a1:0<=nn/8%(hs.length:Int):=lQ _ (by omega);have a2:0<=(nn/8+1)%(hs.length:Int):=lQ _ (by omega);have:=Wx (x:=nn/8) (c:=1) (m:=hs.length) (by omega) (by omega);omega
    have pos:(0:Int)<((de hs).length:Int):=by omega
    have avy:=S.pr;have ZW:jj (bl hs) (kI (df.S u,s.pr,df.S v))=true:=agt.mpr ⟨b0,gf,ne,by omega,by omega⟩;have uA:=aeI S.po ZW (by omega) S.lo MU;have HF:=zL.d.b4 _ _ uE;refine⟨_,rfl,x,A.af,_,rfl,zL.d.ins,rfl,_,rfl,_,rfl,_,_,rfl,rfl,⟨by decide,by decide⟩,_,rfl,dz,_,rfl,.inl (aC.of HF),_,_,rfl,rfl,pos,dz,_,_,_,rfl,rfl,aC.of HF,MO,?_⟩;refine⟨_,rfl,_,rfl,_,_,rfl,rfl,⟨by decide,by decide⟩,_,_,rfl,rfl,_,rfl,dz,_,rfl,.inl (aC.of HF),_,_,rfl,rfl,pos,dz,_,_,_,rfl,rfl,aC.of HF,MP,?_⟩;refine⟨a7,x,A,hs,ds,s,df.S u,df.S v,rfl,zL.d,G,S.ok.lets,(by omega),S.ok.len,λ_=>BC G b0,λ_=>BC G gf,λ_ H' e7 tB cQ=>?_,λna=>bx uA na⟩;exact tail _ H' e7 _ k dT (λ_ _ h=>h) (zL.post ZW b0 gf (by omega) tB cQ) (by omega)
  .rintro σ dG ⟨A,s,k,dT,JQ,v10,rfl,S,anD⟩;have O:=S.ok;have D:=S.d;have avw:=O.ou;have pl:=D.pt.len;rw[bk]at pl;have c6:∀ss∈s.ay,ss.length<=100:=λss h=>by have:=O.c6 ss h;omega
   refine mb R f3 λR f3=>?_;refine⟨_,rfl,x,A.af,_,rfl,D.ins,rfl,a7,x,A,hs,ds,s,rfl,D,?_⟩;refine mb R f3 λR f3=>?_;refine⟨_,rfl,x,A.af,_,rfl,D.ins,rfl,a7,x,A,hs,ds,s,rfl,D,λd9 pA=>?_⟩;have iA:=b8 (o:=.lst (aG A.eH)) pA;have iK:upd dG d9 (.lst (aG A.eH)) d9=some (.lst (aG A.eH)):=aQ;generalize upd dG d9 (.lst (aG A.eH))=f' at iA iK⊢;have S6:=D.same iA;refine mb R f3 λR f3=>?_;refine⟨_,rfl,x,A.af,_,rfl,S6.ins,rfl,a7,x,A,hs,ds,s,rfl,S6,λdF m1=>?_⟩;have iz:=b8 (o:=.lst (aG A.eY)) m1;have gR:upd f' dF (.lst (aG A.eY)) dF=some (.lst (aG A.eY)):=aQ;have ν:dF≠d9:=λz=>by rw[<-z,m1]at iK;cases iK
   have iK:=iz _ _ iK;generalize upd f' dF (.lst (aG A.eY))=jG at iz gR iK⊢;have yG:=iA.trans iz;have Fo:=D.same yG;refine mb R f3 λR f3=>?_;refine⟨_,rfl,_,rfl,_,rfl,_,rfl,ei,dF,d9,bY,hs,rs,A.eY,A.eH,ds,s.a6,s.iw,s.ay,dT,rfl,Fo.b4 _ _ MQ,CT.same Fo.b4,gR,Fo.pt,(by omega),iK,Fo.sp,S.l'.b2,yG _ _ S.aF,S.l'.b5,λet gO IA u8 st=>?_⟩;have amH:=u8 _ _ gR;have Zu:=u8 _ _ iK;have ù:=yG.trans u8;subst f3;dsimp only[ha];refine cut (a:=sb _ _ _) λlU Ya=>?_;have rest:∀(D:Ends)(nY:ae),(∀v H,Q v H->D.rW v H)->aH gO nY->lU D [some (.ref a),some (.ref dz),some (.ref fl),some (.ref ei),some (.int dq),some (.ref n),some (.ref x),some (.ref cl),some (.ref bY),JQ,v10,some (.int s.pr),some (.ref d9),some (.ref dF),some (.ref et),none] nY:=λy5 nY alW JP=>by
    subst Ya;have Dr:=JP _ _ amH;have OA:=JP _ _ Zu;have Ts:=D.same (ù.trans JP);obtain⟨r5,tm,Eb⟩:=st.same JP;have ê:=gW Eb;have sl:=O.len;refine cut λR f3=>?_;refine AX ?_;refine ae1 (K:=K) (a:=dF) (b:=et) (xs:=aG A.eY) (ys:=aG r5) (H1:=nY) (rest:=[some (.int s.pr)]) (λR h=>⟨_,rfl,_,rfl,dF,et,rfl,⟨_,aC.of Dr⟩,⟨_,aC.of tm⟩,h⟩) rfl (aC.of Dr) (aC.of tm) (fF (by rw[d6];omega)) (by rw[d6,d6];omega) (lH s nY) lH.same lH.upd (λy4 i v y ah R ev da ax cM bP=>?_) (λy4 nX vs Ii YS lv each yH=>?_)
    .unfold aG at ev da;rw[cx]at ev da;obtain⟨r,fh,rfl⟩:=e0.mp ev;obtain⟨bQ,eta,rfl⟩:=e0.mp da;have nB:i<s.a6.length:=by have:=(eb.mp fh).1;omega
     obtain⟨sU,uP,ON⟩:=bO.get Ts.pt fh;rw[cx]at uP;obtain⟨d,dp,rfl⟩:=e0.mp uP;have sY:i0 (d0 s.a6) i=d.2.2:=by unfold i0 d0;exact lx (by rw[cx,dp];rfl)
     obtain⟨ss,Nf,Dz⟩:=bO.get Eb eta;have zX:lB ss=gT s.ay i:=by unfold gT;rw[lx Nf]
     rw[zX]at Dz;refine⟨_,rfl,_,rfl,_,rfl,r,bQ,d,gT s.ay i,s.pr,rfl,ax _ _ ON,ax _ _ Dz,λl ba nl s5 dX=>bP _ ba s5 ⟨l,rfl,λz=>?_,vT ax nl,?_⟩⟩
     .obtain⟨us,e⟩:=cM;rw[<-z,nl]at e;cases e
     .rw[dX,<-sY];rfl
    rw[d6,pl]at lv;have a4:∀i v,vs[i]?=some v->rT s i v nX:=λi v e=>(each i v e).told;have Da:=Ts.same yH;have Zt:=yH _ _ Dr;have Zv:=yH _ _ OA;have h5:=T2 G O;have Js:=agJ G O;have å:∀{i:Nat},i<s.a6.length->spotOf (s.ay.getD i []) (i0 (d0 s.a6) i) s.pr=mc s i:=λ{i}nB=>by have em:s.ay[i]?=some (s.ay.getD i []):=yc (by rw[O.len];exact nB);rw[S.l'.ä (dV em) (O.ne _ (dV em))];rfl
    refine mb R f3 λR f3=>?_;dsimp only[iQ,sb,wb,r8];refine acs (K:=K) (s:=s) (rest:=[]) (X:=λus H1=>∀i v,us[i]?=some v->mY S_ H1 v (spotOf (s.ay.getD i []) ((s.a6.map λd=>d.2.2).getD i (e8 "")) s.pr)) (λR h=>⟨_,rfl,_,rfl,_,rfl,_,rfl,n,bL,br,dF,d9,rs,A.eY,A.eH,s.a6,hs,ds,s.iw,s.ay,s.pr,rfl,XQ.same Da.b4,CT.same Da.b4,(by omega),Zt,Da.pt,(by omega),Zv,Da.sp,.inr c6,S.l'.b2,O.len,c6,λH1 jc us avd s1 Hd xZ jo=>⟨jc,rfl,⟨_,aC.of Hd⟩,h jc H1 us s1 Hd xZ jo⟩⟩) rfl (fF (by omega)) (λus H1 i v ah R kg ev nB ax bP=>?_) (λlO y9 us avg alY xZ ny yF=>?_)
    .have sp:=kg i v ev;have sp:mY S_ H1 v (spotOf (s.ay.getD i []) (i0 (d0 s.a6) i) s.pr):=sp;rw[å nB]at sp;exact⟨_,rfl,v,_,rfl,sp.same ax,λl ba nl s5 dX=>bP l ba nl s5 dX⟩
    refine⟨_,rfl,.list (yr s),.list (yr s),.lst (aC.of alY) (JM xZ ny),.lst (aC.of (yF _ _ YS)) (JM lv λi v e=>(a4 i v e).same yF),Js,Js,_,rfl,dw (Kl h5) ?_⟩;have Oz:=yF _ _ Zv;have amI:=yF _ _ Zt;have aA:=gW Da.sp;have yx:=O.yx;have Db:=Da.same yF;have Ζ:dG dF=none:=vT iA m1;have ib:=D.live Ζ;have jA:=D.live pA;have e5:=vT D.b4 Ζ;have eT:=vT D.b4 pA;have aoi:y4≠dF:=λz=>by rw[z,Dr]at Ii;cases Ii
    have tC:y4≠d9:=λz=>by rw[z,OA]at Ii;cases Ii
    have alV:=yF _ _ YS;have dx:∀i v,vs[i]?=some v->∃l,v=.ref l/\l≠dF/\l≠d9/\y9 l=some (.lst (tT (mc s i))):=λi v e=>by obtain⟨l,rfl,_,z,aw⟩:=each i v e;exact⟨l,rfl,(λy=>by rw[y,Dr]at z;cases z),(λy=>by rw[y,OA]at z;cases z),yF _ _ aw⟩
    refine mb R f3 λR f3=>?_;refine⟨_,rfl,.inl ⟨rfl,_,aC.of Oz⟩,d9,_,_,rfl,rfl,Oz,oZ (show(aG A.eH).length<=5000 by rw[d6];omega) (by decide),?_⟩;have Tc:=Db.only (H':=upd y9 d9 (.lst (aG A.eH++[.bc]))) jA eT (λv e=>by rw[Oz]at e;cases e) (λb o n e=>by rw[aD n];exact e);have Zw:upd y9 d9 (.lst (aG A.eH++[.bc])) d9=some (.lst (aG A.eH++[.bc])):=aQ;have HU:∀b o,b≠d9->y9 b=some o->upd y9 d9 (.lst (aG A.eH++[.bc])) b=some o:=λb o n e=>by rw[aD n];exact e
    generalize upd y9 d9 (.lst (aG A.eH++[.bc]))=B3 at Tc Zw HU⊢;have Ab:=HU _ _ ν amI;refine mb R f3 λR f3=>?_;refine⟨_,rfl,.inl ⟨rfl,_,aC.of Ab⟩,dF,_,_,rfl,rfl,Ab,fF (by rw[d6];omega),?_⟩;have BQ:=Tc.only (H':=upd B3 dF (.lst (aG A.eY++[.bc]))) ib e5 (λv e=>by rw[Ab]at e;cases e) (λb o n e=>by rw[aD n];exact e);have Zx:upd B3 dF (.lst (aG A.eY++[.bc])) d9=some (.lst (aG A.eH++[.bc])):=by rw[aD (c2 ν)];exact Zw
    have NN:upd B3 dF (.lst (aG A.eY++[.bc])) y4=some (.lst vs):=by rw[aD aoi];exact HU _ _ tC alV
    have dp:∀i v,vs[i]?=some v->rT s i v (upd B3 dF (.lst (aG A.eY++[.bc]))):=λi v e=>by obtain⟨l,rfl,oN,EY,aw⟩:=dx i v e;exact⟨l,rfl,by rw[aD oN];exact HU _ _ EY aw⟩
    generalize upd B3 dF (.lst (aG A.eY++[.bc]))=aru at BQ Zx NN dp⊢;refine mb R f3 λR f3=>?_;refine⟨_,rfl,_,rfl,y4,_,rfl,.inl (aC.of NN),a7,x,A,hs,ds,s,_,rfl,BQ,O.len,c6,(by rw[lv];omega),λiV ý=>⟨_,rfl,fI ?_⟩⟩;refine⟨_,rfl,_,rfl,_,rfl,_,_,rfl,rfl,a7,x,A,hs,ds,s,_,rfl,BQ.same ý,O.len,c6,(by show¬(0<=-1-dq/\_);omega),λT' aqa=>⟨_,rfl,fI ?_⟩⟩;have þ:=ý.trans aqa;have Te:=BQ.same þ;refine⟨_,rfl,x,A.af,_,rfl,Te.ins,rfl,a7,x,A,hs,ds,s,rfl,Te,λnE It=>?_⟩;have gv:=b8 (o:=.lst (aG A.eH)) It;have bK:upd T' nE (.lst (aG A.eH)) nE=some (.lst (aG A.eH)):=aQ;generalize upd T' nE (.lst (aG A.eH))=Fu at gv bK⊢;refine⟨(by show 1<=sizeLine;decide),λnF oy=>?_⟩;have t7:=b8 (o:=.lst [V.bc]) oy;have c8:upd Fu nF (.lst [V.bc]) nF=some (.lst [V.bc]):=aQ;have YO:=t7 _ _ bK;generalize upd Fu nF (.lst [V.bc])=T_ at t7 c8 YO⊢;refine⟨nE,nF,_,_,rfl,rfl,YO,c8,eP (show(aG A.eH).length+1<=5000 by rw[d6];omega) (by decide),λAw Η=>?_⟩;have J0:=b8 (o:=.lst (aG A.eH++[V.bc])) Η;have dX:upd T_ Aw (.lst (aG A.eH++[V.bc])) Aw=some (.lst (aG A.eH++[V.bc])):=aQ;generalize upd T_ Aw (.lst (aG A.eH++[V.bc]))=y' at J0 dX⊢;have JN:=þ.trans (gv.trans (t7.trans J0));have Tg:=BQ.same JN;have bd:iT K y' (aG A.eH++[V.bc]) (s.iw.map oI++[VX]):=iT.app (SI Tg.sp) (.cons .bc .nil);refine⟨_,rfl,.list (s.iw.map oI++[VX]),.list (s.iw.map oI++[VX]),.lst (aC.of dX) bd,.lst (aC.of (JN _ _ Zx)) bd,T3 _,T3 _,_,rfl,dw (Kl (SR _)) ?_⟩;have YT:=JN _ _ NN;subst f3;dsimp only[wa,iQ,zc,r8];refine ac9 (s:=s) (rest:=[some (.ref x)]) (λR h=>⟨_,rfl,y4,_,rfl,.inl (aC.of YT),_,rfl,(by rw[lv];omega),(by rw[lv];omega),?_⟩) rfl (fF (by omega)) (λi ah R nB ax bP=>?_) (λarq j4 us avh alZ anV al0 Ā=>?_)
    .rw[lv,kQ];exact h
    .have q6:=Tg.same ax;refine⟨_,rfl,x,A.af,_,rfl,q6.ins,rfl,_,rfl,a7,x,A,hs,ds,s,(i:Int),rfl,q6,O.len,c6,λi' jn aM v H' u sp=>?_,λno=>bx ⟨by omega,by omega⟩ no⟩;have jn:i'=i:=by omega
     subst jn;rw[å nB]at sp;exact⟨v,_,rfl,sp,λl ba nl s5 dX=>bP l ba (vT u nl) (u.trans s5) dX⟩
    exact⟨_,rfl,.list (yr s),.list (yr s),.lst (aC.of alZ) (JM anV al0),.lst (aC.of (Ā _ _ YT)) (JM lv λi v e=>((dp i v e).same JN).same Ā),Js,Js,rR (Ji _ h5) (alW _ _ (q _))⟩
   clear Ya;refine⟨_,rfl,rfl,_,rfl,dw rfl ?_⟩;refine⟨_,rfl,(by show 0<=sizeLine;decide),λcD vI=>?_⟩;have qX:=b8 (o:=.lst []) vI;have Zf:upd gO cD (.lst []) cD=some (.lst []):=aQ;generalize upd gO cD (.lst [])=q7 at qX Zf⊢;have Ż:=D.same (ù.trans qX);have Hw:=qX _ _ Zu;have Ju:=Ż.sp;refine⟨.list (s.iw.map oI),.list [],.lst (aC.of Hw) (SI Ju),.lst (aC.of Zf) .nil,af3 _,(by decide+kernel),_,rfl,?_⟩;have aA:=gW Ju;by_cases OT:s.iw=[]
   .refine dw (by rw[OT];rfl) (fI (rest _ q7 (λ_ _ h=>h) qX))
   .have pos:0<s.iw.length:=zi.mpr OT;refine eQ (by
     cases aq:s.iw with
     |nil=>exact bx aq OT
     |cons b r=>rfl) ?_
    obtain⟨Ì,Yp⟩:∃r,A.eH[0]?=some r:=⟨_,cF (by omega)⟩
    obtain⟨j9,G3,_,ama,_⟩:=bO.get Ju Yp;obtain⟨Î,Yq⟩:∃r,A.eH[s.iw.length-1]?=some r:=⟨_,cF (by omega)⟩
    obtain⟨XW,Ye,_,amg,_⟩:=bO.get Ju Yq;have akx:ar.gn (aG A.eH) 0=some (.ref Ì):=il (j:=0) (by unfold aG;rw[cx,Yp];rfl);have akz:ar.gn (aG A.eH) (((aG A.eH).length:Int)-1)=some (.ref Î):=by rw[d6,aA,show((s.iw.length:Int)-1)=((s.iw.length-1:Nat):Int) by omega];exact il (by unfold aG;rw[cx,Yq];rfl)
    have bz:=(S.l'.lo j9 (dV G3)).1;have cv:=S.l'.b2.Yx G3 _ XW Ye;have gg:=(S.l'.lo XW (dV Ye)).2;refine⟨_,rfl,_,rfl,d9,_,_,_,rfl,rfl,aC.of Hw,akx,Ì,_,_,_,rfl,rfl,bI.of ama,rfl,_,_,rfl,rfl,_,rfl,eQ (cT bz) ?_⟩;refine⟨_,rfl,_,rfl,d9,_,rfl,.inl (aC.of Hw),_,_,rfl,rfl,d9,_,_,_,rfl,rfl,aC.of Hw,akz,Î,_,_,_,rfl,rfl,bI.of amg,rfl,_,_,rfl,rfl,_,rfl,eQ (cT cv) ?_⟩;exact⟨_,rfl,_,_,rfl,rfl,_,rfl,yN gg (rest _ q7 (λ_ _ h=>h) qX)⟩
unseal gw bq gI g6
end
theorem ahZ{K:aY}(hm:L2 T=true)(hs:ho K (.ref C) (.type T)=some b):jI K (.ref C) (.type T)=some b:=by unfold jI;rw[bp (by intro z;cases z)];unfold ad7;show(if L2 T=true then _ else _)=_;rw[bB hm,hs]
structure Kh(P:cG)(w:bS)(K:aY)(mg:cw)(base:Heap):Prop where
 one:True
theorem Kh.fn{K:aY}{mg:cw}{base:Heap}{k:Nat}(Z:Kh P w K mg base)(h:aS P w K mg base CX k f fd ps sp):aS P w K mg base CX k f fd ps sp:=h
section
variable{K:aY}{h:Heap}{mg:cw}{x qual:Str}{st:Stmt}{C f:Addr}{ps:cb}{km:Value}{cV an:Option Addr}{l_:nj}{c9 doc pm cdv eL:Value}
theorem an2(a:cJ K (.ref C) x=some (some (.ref f)))(i:sQ K (.ref f)=true)(l:K.lookup f=some ⟨km,cV,.func (mv x qual (nz st) (k_ st) (cn st) .none c9 doc pm an cdv eL),l_⟩)(c:Cx K cdv qual=true)(k:mw K (.ref f)=true)(u:∀(c9 doc pm:Value)(an:Option Addr)(cdv eL:Value)(us:c7),us.length=ps.length->GS (mv x qual (nz st) (k_ st) (cn st) .none c9 doc pm an cdv eL) ⟨us,[]⟩=pure (ps.zip us)):
  cS K C x qual st ps f (mv x qual (nz st) (k_ st) (cn st) .none c9 doc pm an cdv eL):=
 ⟨xr l c k,⟨a,i,k⟩,(xr l c k).binds u⟩
theorem anu(m:zI K C=true)(n:mw K (.ref C)=true)(a:cJ K (.ref C) "__init__"=some (some (.ref f)))(i:sQ K (.ref f)=true)(l:K.lookup f=some ⟨km,cV,.func (mv "__init__" qual (nz st) (k_ st) (cn st) .none c9 doc pm an cdv eL),l_⟩)(c:Cx K cdv qual=true)(k:mw K (.ref f)=true)(u:∀(c9 doc pm:Value)(an:Option Addr)(cdv eL:Value)(us:c7),us.length=ps.length->GS (mv "__init__" qual (nz st) (k_ st) (cn st) .none c9 doc pm an cdv eL) ⟨us,[]⟩=pure (ps.zip us)):
  lP K C qual st ps f (mv "__init__" qual (nz st) (k_ st) (cn st) .none c9 doc pm an cdv eL):=
 ⟨xr l c k,⟨m,a,i,n⟩,(xr l c k).binds u⟩
theorem akS(X:K.In h)(G:h.Ns qF mg)(a:PySem.W.nsIn K qF x=some (some (.ref f)))(l:K.lookup f=some ⟨km,cV,.func (mv x x (nz st) (k_ st) (cn st) .none c9 doc pm an cdv eL),l_⟩)(c:Cx K cdv x=true)(k:mw K (.ref f)=true)(u:∀(c9 doc pm:Value)(an:Option Addr)(cdv eL:Value)(us:c7),us.length=ps.length->GS (mv x x (nz st) (k_ st) (cn st) .none c9 doc pm an cdv eL) ⟨us,[]⟩=pure (ps.zip us)):
  cY K mg x st ps f (mv x x (nz st) (k_ st) (cn st) .none c9 doc pm an cdv eL):=
 ⟨xr l c k,aee X G a,(xr l c k).binds u⟩
end
theorem Pp{us:c7}(h:us.length=1):∃a0,us=[a0]:=by rcases us with _|⟨a0,_|⟨b,r⟩⟩<;>first|exact⟨a0,rfl⟩|simp at h
theorem HZ{us:c7}(h:us.length=2):∃a0 a1,us=[a0,a1]:=by rcases us with _|⟨a0,_|⟨a1,_|⟨b,r⟩⟩⟩<;>first|exact⟨a0,a1,rfl⟩|simp at h
theorem Pq{us:c7}(h:us.length=3):∃a0 a1 a2,us=[a0,a1,a2]:=by rcases us with _|⟨a0,_|⟨a1,_|⟨a2,_|⟨b,r⟩⟩⟩⟩<;>first|exact⟨a0,a1,a2,rfl⟩|simp at h
theorem Pr{us:c7}(h:us.length=4):∃a0 a1 a2 ik,us=[a0,a1,a2,ik]:=by rcases us with _|⟨a0,_|⟨a1,_|⟨a2,_|⟨ik,_|⟨b,r⟩⟩⟩⟩⟩<;>first|exact⟨a0,a1,a2,ik,rfl⟩|simp at h
theorem Pt{us:c7}(h:us.length=5):∃a0 a1 a2 ik kX,us=[a0,a1,a2,ik,kX]:=by rcases us with _|⟨a0,_|⟨a1,_|⟨a2,_|⟨ik,_|⟨kX,_|⟨b,r⟩⟩⟩⟩⟩⟩<;>first|exact⟨a0,a1,a2,ik,kX,rfl⟩|simp at h
theorem all_mk{l:V3}{K:aY}{mg:cw}(ams:mg "law"=some (.ref jq))(EA:mg "Spot"=some (.ref nV))(vp:mg "NotYet"=some (.ref fK))(vv:mg "AtHouse"=some (.ref fJ))(vq:mg "OnRoad"=some (.ref fL))(vr:mg "AtHome"=some (.ref fV))(E4:mg "Net"=some (.ref hC))(Ey:mg "Ways"=some (.ref hW))(vH:mg "Walk"=some (.ref gN))(EZ:mg "Day"=some (.ref fD))(s8:mg "RoadError"=some (.ref pV))(o9:mg "NoLetter"=some (.ref jb))(QN:mg "NoHouse"=some (.ref BM))(R6:mg "NoRoad"=some (.ref wj))(U_:eh K nV)(ι:zI K nV=true)(ZZ:mw K (.ref nV)=true)(R7:eh K fK)(PA:zI K fK=true)(Pg:mw K (.ref fK)=true)(DQ:eh K fJ)(Ie:cJ K (.ref fJ) "at"=some none)(Ig:cJ K (.ref fJ) "since"=some none)(xp:lP K fJ "AtHouse.__init__" Jc zq atw asb)(D0:eh K fL)(Im:cJ K (.ref fL) "by"=some none)(Io:cJ K (.ref fL) "due"=some none)(xv:lP K fL "OnRoad.__init__" Jd zt atR asz)(D1:eh K fV)(Ic:cJ K (.ref fV) "since"=some none)(xw:lP K fV "AtHome.__init__" Jb zv atv asa)(gz:eh K hC)(PM:cJ K (.ref hC) "kept_houses"=some none)(PN:cJ K (.ref hC) "kept_roads"=some none)(xT:lP K hC "Net.__init__" FQ zm atM ass)(kZ:cS K hC "houses" "Net.houses" AJ eA atL asr)(qn:cS K hC "roads" "Net.roads" Ex eA atQ asx)(lZ:cS K hC "road" "Net.road" yn dg atP asw)(qp:cS K hC "out_of" "Net.out_of" CB ni atO asv)(xe:cS K hC "need_house" "Net.need_house" FF ni atN asu)(kd:eh K hW)(PV:cJ K (.ref hW) "net"=some none)(PW:cJ K (.ref hW) "told"=some none)(xR:lP K hW "Ways.__init__" Jp zw at5 asK)(qi:cS K hW "set_way" "Ways.set_way" Ek nh at7 asM)(xi:cS K hW "drop_way" "Ways.drop_way" I' gk at4 asJ)(xW:cS K hW "way" "Ways.way" Jq gk at8 asN)(mH:cS K hW "need_pair" "Ways.need_pair" A8 gk at6 asL)(gc:eh K gN)(PT:cJ K (.ref gN) "net"=some none)(PS:cJ K (.ref gN) "goals"=some none)(PU:cJ K (.ref gN) "steps"=some none)(qo:lP K gN "Walk.__init__" CD wH atX asD)(qh:cS K gN "take_in" "Walk.take_in" BS uq at3 asI)(qr:cS K gN "send" "Walk.send" BU wJ at0 asG)(xS:cS K gN "goal" "Walk.goal" FE dg atV asB)(mI:cS K gN "last_house" "Walk.last_house" Bj dg atY asE)(mG:cS K gN "last_turn" "Walk.last_turn" Bk dg atZ asF)(qf:cS K gN "home_turn" "Walk.home_turn" EV dg atW asC)(xf:cS K gN "can_leave" "Walk.can_leave" FX zl atU asA)(qj:cS K gN "spot_at" "Walk.spot_at" B0 wI at1 asH)(fR:eh K fD)(PE:cJ K (.ref fD) "net"=some none)(PG:cJ K (.ref fD) "present"=some none)(PF:cJ K (.ref fD) "posted"=some none)(PK:cJ K (.ref fD) "ways"=some none)(PI:cJ K (.ref fD) "shut_roads"=some none)(PJ:cJ K (.ref fD) "walk"=some none)(PH:cJ K (.ref fD) "sent"=some none)(xU:lP K fD "Day.__init__" GL zp aty ase)(k':cS K fD "now" "Day.now" zA eA atD asj)(xV:cS K fD "post" "Day.post" FD gk atF asm)(xu:cS K fD "set_way" "Day.set_way" GA nh atH aso)(xo:cS K fD "drop_way" "Day.drop_way" GB gk atx asd)(xX:cS K fD "shut" "Day.shut" FU oV atI asp)(xO:cS K fD "reopen" "Day.reopen" GD oV atG asn)(xk:cS K fD "pass_turn" "Day.pass_turn" FR eA atE asl)(n':cS K fD "log" "Day.log" CE eA atA ash)(n5:cS K fD "letters" "Day.letters" CI eA atz asf)(mJ:cS K fD "spot" "Day.spot" zx dg atJ asq)(qg:cS K fD "need_road" "Day.need_road" Ej dg atB asi)(h3:cY K mg "is_whole" yl hY auz ath)(kY:cY K mg "is_whole_within" AS sM auA ati)(j':cY K mg "is_tuple_of" ym p4 auy atg)(j8:cY K mg "are_unlike_houses" ya p5 aup as3)(vm:cY K mg "is_name" FL hY auu atd)(u1:cY K mg "are_houses" FN ["things"] aum as0)(vn:cY K mg "is_road" FO oW auv ate)(ve:cY K mg "are_roads" FP zr auo as2)(vg:cY K mg "is_letter" GJ oW aut atc)(uS:cY K mg "turns_apart" Fi ["letters"] auI ats)(uW:cY K mg "letters_of" GK Ci auC atm)(uL:cY K mg "is_shorter_by" Fe zu auw atf)(uG:cY K mg "least_turns_from" Ff Cg auB atk)(uI:cY K mg "begins_shortest" GI Cc aur as5)(vu:cY K mg "shortest" Jj ["net"] auG atq)(vf:cY K mg "queues_at" Jg Cb auE ato)(vo:cY K mg "bags_at" I7 B_ auq as4)(vC:cY K mg "is_bag" Fl hY aus atb)(uH:cY K mg "are_rising_below" GF Cf aun as1)(uN:cY K mg "reason_against" GG B' auF atp)(vt:cY K mg "walk_of" FZ Ce auJ att)(vw:cY K mg "spots_at" Fn Ca auH atr)(jK:cY K mg "_law_cell_at" I6 zo aua asP)(uT:cY K mg "_law_houses" JA Cd aud asS)(vl:cY K mg "_law_road" Gw wG auh asV)(uU:cY K mg "_law_change" I9 ["_law_day","_law_names","_law_lines","_law_n"] aub asQ)(l0:cY K mg "_law_told" B1 sL auj asX)(uM:cY K mg "_law_bag_fits" I8 ["_law_lines","_law_letters","_law_stood","_law_bag"] at9 asO)(n7:cY K mg "_law_due" Ef B9 auc asR)(n6:cY K mg "_law_walked" El ["_law_lines","_law_letters","_law_log","_law_shut_at"] aul asZ)(qk:cY K mg "_law_nobody" Je ["_law_day","_law_number"] aue asT)(uX:cY K mg "_law_turns" Jl ["_law_day","_law_closed","_law_shut_at","_law_many"] auk asY)(uY:cY K mg "_law_noted" Jf ["_law_deed","_law_closed"] auf asU)(uJ:cY K mg "_law_spot_right" Jk ["_law_day","_law_lines","_law_shut_at","_law_n"] aui asW)(MN:mg "law"=some (.ref aly))(Fs:cC K "law" "law" zE aly atj)(Pl:K.lookup pV=some ⟨.type "type",as9,.cls akG,avE⟩)(HY:K.lookup jb=some ⟨.type "type",as7,.cls MW,ß⟩)(Z4:K.lookup BM=some ⟨.type "type",as6,.cls ar7,avC⟩)(Z5:K.lookup wj=some ⟨.type "type",as8,.cls ar8,avD⟩)(GR:cJ K (.ref jb) "__init__"=some (some (.ref Yt)))(HQ:sQ K (.ref Yt)=true)(Fq:cC K "__init__" "NoLetter.__init__" Q0 Yt asy)(Su:Cy K pV [.type "ValueError",.type "Exception",.type "BaseException",.type "object"] "ValueError.__new__"=true)(Sr:Cy K BM [.type "ValueError",.type "Exception",.type "BaseException",.type "object"] "ValueError.__new__"=true)(Ss:Cy K wj [.type "ValueError",.type "Exception",.type "BaseException",.type "object"] "ValueError.__new__"=true)(EX:VQ MW ß jb jb=true)(RZ:mg "MOST_HOUSES"=some (.int 12 avG))(R1:mg "MOST_ROADS"=some (.int 40 avI))(R3:mg "MOST_SIGNS"=some (.int 8 avK))(R5:mg "MOST_TURNS"=some (.int 9 avM))(R2:mg "MOST_ROOM"=some (.int 1000000000 avJ))(R0:mg "MOST_LETTERS"=some (.int 40 avH))(R4:mg "MOST_TURN"=some (.int 1000000000 avL))(RY:mg "MOST_APART"=some (.int 30 avF))(B:fk mg)(Sw:Fc MW akG ß jb "ValueError.__new__"=true)(Sp:MW.hasDict=true)(Rz:cJ K (.ref jb) "__setattr__"=some (some (.builtin "object.__setattr__")))(Qk:ho K (.ref jb) (.type "object")=some true)(HO:wW K jb=true)(HW:mw K (.ref jb)=true)(Hb:cJ K (.ref jb) "__getattribute__"=some (some (.builtin "BaseException.__getattribute__")))(Iv:cJ K (.ref jb) "__getattr__"=some none)(Hj:cJ K (.ref jb) "__class__"=some (some (.builtin "object.__class__")))(HC:uw K (.builtin "object.__class__") "__get__"=some (some (.builtin "getset_descriptor.__get__")))(HK:Cz K (.builtin "object.__class__")=some true)(HA:p_ K jb (.type "object")=some true)(Hl:p_ K jb (.type "BaseException")=some true)(QO:Wa K pV (.type "type")=true)(Nm:V5 K (.ref pV) (.type "type") "__init__"=some (.val (.builtin "ValueError.__init__")))(Q6:uw K (.ref pV) "__getattribute__"=some (some (.builtin "type.__getattribute__")))(HE:cJ K (.ref jb) "number"=some none)(O7:zH K pV=true)(RF:ri K (.ref pV)=some (.type "type"))(Rl:ho K (.ref jb) (.type "ValueError")=some true)(Rk:ho K (.ref jb) (.ref pV)=some true)(O8:cJ K (.ref fK) "__init__"=some (some (.builtin "object.__init__")))(Ad:uw K (.builtin "object.__class__") "__get__"=some (some (.builtin "getset_descriptor.__get__")))(Ah:Cz K (.builtin "object.__class__")=some true)(NY:cJ K (.ref fK) "__class__"=some (some (.builtin "object.__class__")))(OE:p_ K fK (.type "object")=some true)(NX:cJ K (.ref fJ) "__class__"=some (some (.builtin "object.__class__")))(OD:p_ K fJ (.type "object")=some true)(NZ:cJ K (.ref fL) "__class__"=some (some (.builtin "object.__class__")))(OF:p_ K fL (.type "object")=some true)(NW:cJ K (.ref fV) "__class__"=some (some (.builtin "object.__class__")))(OC:p_ K fV (.type "object")=some true)(An:zH K nV=true)(Bf:ri K (.ref nV)=some (.type "type"))(Al:zH K fK=true)(Bd:ri K (.ref fK)=some (.type "type"))(Ak:zH K fJ=true)(Bc:ri K (.ref fJ)=some (.type "type"))(Am:zH K fL=true)(Be:ri K (.ref fL)=some (.type "type"))(Aj:zH K fV=true)(Bb:ri K (.ref fV)=some (.type "type"))(Rq:ho K (.ref fK) (.ref nV)=some true)(Ro:ho K (.ref fK) (.ref fK)=some true)(Rn:ho K (.ref fK) (.ref fJ)=some false)(P7:(cu fK==cu fJ)=false)(Rp:ho K (.ref fK) (.ref fL)=some false)(P8:(cu fK==cu fL)=false)(Rm:ho K (.ref fK) (.ref fV)=some false)(P6:(cu fK==cu fV)=false)(Rj:ho K (.ref fJ) (.ref nV)=some true)(Rh:ho K (.ref fJ) (.ref fK)=some false)(P4:(cu fJ==cu fK)=false)(Rg:ho K (.ref fJ) (.ref fJ)=some true)(Ri:ho K (.ref fJ) (.ref fL)=some false)(P5:(cu fJ==cu fL)=false)(Rf:ho K (.ref fJ) (.ref fV)=some false)(P2:(cu fJ==cu fV)=false)(Rx:ho K (.ref fL) (.ref nV)=some true)(Rv:ho K (.ref fL) (.ref fK)=some false)(P_:(cu fL==cu fK)=false)(Ru:ho K (.ref fL) (.ref fJ)=some false)(P':(cu fL==cu fJ)=false)(Rw:ho K (.ref fL) (.ref fL)=some true)(Rt:ho K (.ref fL) (.ref fV)=some false)(P9:(cu fL==cu fV)=false)(Rd:ho K (.ref fV) (.ref nV)=some true)(Rb:ho K (.ref fV) (.ref fK)=some false)(P0:(cu fV==cu fK)=false)(Ra:ho K (.ref fV) (.ref fJ)=some false)(PZ:(cu fV==cu fJ)=false)(Rc:ho K (.ref fV) (.ref fL)=some false)(P1:(cu fV==cu fL)=false)(Q_:ho K (.ref fV) (.ref fV)=some true):
  ∃fd:m_,(∀(s:aK)(v:Value),BH s fd ⟨[v],[]⟩ [("_law_script",v)])/\∀base:Heap,K.In base->base.Ns qF mg->aS l.prog w K mg base bh 8 jq fd ["_law_script"] (FJ K):=by
 have e:=ams.symm.trans MN;cases e;have XR:=Fq.binds (ps:=dg) λ_ _ _ _ _ _ us aw=>by(obtain⟨_,_,rfl⟩:=HZ aw);rfl
 have ŭ:Exc K mg "RoadError" pV _ _:=⟨s8,Su⟩
 have Ar:Exc K mg "NoHouse" BM _ _:=⟨QN,Sr⟩
 have Ay:Exc K mg "NoRoad" wj _ _:=⟨R6,Ss⟩
 have EX:=abJ HY EX;have nW:Cp mg:=⟨⟨_,RZ⟩,⟨_,R1⟩,⟨_,R3⟩,⟨_,R5⟩,⟨_,R2⟩⟩
 have wh:Mw mg:=⟨⟨_,R0⟩,⟨_,R4⟩,⟨_,RY⟩⟩
 obtain⟨_,_,c9,akO,pm,an,cd,eL,_,rfl,_,_⟩:=id Fs.ex;refine⟨mv "law" "law" (nz zE) (k_ zE) (cn zE) .none c9 akO pm an cd eL,λs v=>.of_eq rfl,λbase _ _=>?_⟩;have Z:Kh l.prog w K mg base:=⟨trivial⟩
 have fW:ua K hC:=⟨gz,PM,PN⟩
 have KT:U3 K:=⟨agU K⟩
 have rr:=Z.fn (adB h3.fn B KT);have zV:=Z.fn (acf kY.fn h3 rr);have uR:=Z.fn (PP j'.fn B);have xb:=Z.fn (acg j8.fn);have RM:=Z.fn (afT vm.fn B nW);have Qj:=Z.fn (afU u1.fn B nW vm RM);have RN:=Z.fn (afV vn.fn nW j' uR j8 xb kY zV);have Qu:=Z.fn (afW ve.fn B nW vn RN);have QM:=Z.fn (afX xT.fn B fW u1 Qj ve Qu);have aaC:=Z.fn (acj h3.fn B);have aav:=Z.fn (aaR kY.fn h3 aaC);have Gt:=Z.fn (ack j'.fn B);have T4:=Z.fn (aaS j8.fn);have abA:uj K nV fK fJ fL fV fK true false false false:=⟨⟨R7,NY,Ad,Ah,OE⟩,jl An Bf Rq (λ_=>rfl),jl Al Bd Ro (λ_=>rfl),jl Ak Bc Rn (λh=>bx (h.symm.trans P7) (by decide)),jl Am Be Rp (λh=>bx (h.symm.trans P8) (by decide)),jl Aj Bb Rm (λh=>bx (h.symm.trans P6) (by decide))⟩
 have abz:uj K nV fK fJ fL fV fJ false true false false:=⟨⟨DQ,NX,Ad,Ah,OD⟩,jl An Bf Rj (λ_=>rfl),jl Al Bd Rh (λh=>bx (h.symm.trans P4) (by decide)),jl Ak Bc Rg (λ_=>rfl),jl Am Be Ri (λh=>bx (h.symm.trans P5) (by decide)),jl Aj Bb Rf (λh=>bx (h.symm.trans P2) (by decide))⟩
 have abB:uj K nV fK fJ fL fV fL false false true false:=⟨⟨D0,NZ,Ad,Ah,OF⟩,jl An Bf Rx (λ_=>rfl),jl Al Bd Rv (λh=>bx (h.symm.trans P_) (by decide)),jl Ak Bc Ru (λh=>bx (h.symm.trans P') (by decide)),jl Am Be Rw (λ_=>rfl),jl Aj Bb Rt (λh=>bx (h.symm.trans P9) (by decide))⟩
 have aby:uj K nV fK fJ fL fV fV false false false true:=⟨⟨D1,NW,Ad,Ah,OC⟩,jl An Bf Rd (λ_=>rfl),jl Al Bd Rb (λh=>bx (h.symm.trans P0) (by decide)),jl Ak Bc Ra (λh=>bx (h.symm.trans PZ) (by decide)),jl Am Be Rc (λh=>bx (h.symm.trans P1) (by decide)),jl Aj Bb Q_ (λ_=>rfl)⟩
 have vk:qe K mg "RoadError" jb pV:=⟨ŭ,⟨_,_,_,_,_,_,HY,Pl,Sw,Sp⟩,Rz,Qk,QO,Nm,Q6,⟨Hb,Iv,Hj,HC,HK,HA,Hl⟩,HO⟩
 have qb:XK K jb pV:=⟨EX,(jl O7 RF Rk (λ_=>rfl)),(ahZ (by decide+kernel) Rl),⟨Hb,Iv,Hj,HC,HK,HA,Hl⟩,HE,HO⟩
 have sR:vZ K hW:=⟨kd,PV,PW⟩
 have c0:pC K gN:=⟨gc,PT,PS,PU⟩
 have cg:oH K fD:=⟨fR,PE,PG,PF,PK,PI,PJ,PH⟩
 have xh:=Z.fn (ain Fq vk s8 HE);have rn:=Z.fn (aak kZ.fn B fW);have QA:=Z.fn (ahu vg.fn wh j' Gt j8 T4 kY aav);have PQ:=Z.fn (aeR uS.fn B);have aiT:=Z.fn (ahv uW.fn B wh gz kZ rn vg QA uS PQ vk o9 HW GR HQ xh XR);have Aq:=Z.fn (aci qn.fn B fW);have O_:=Z.fn (afy xe.fn fW Cv Ar);have Xw:=Z.fn (aem lZ.fn B fW);have ajK:=Z.fn (aex lZ.fn B fW Cv Ay);have As:=Z.fn (ahL qp.fn B fW xe O_);have Pm:=Z.fn (aen uL.fn);have Pb:=Z.fn (aeo uG.fn uL Pm);have Qy:=Z.fn (aih xR.fn sR);have sT:=Z.fn (aii mH.fn sR gz Cv Ar kZ rn j8 T4);have z3:=Z.fn (aij qi.fn sR gz Cv Ay qp As mH sT);have QH:=Z.fn (aik xW.fn sR mH sT);have ajL:=Z.fn (ais xi.fn sR mH sT);have aiU:=Z.fn (ahQ uI.fn);have ajM:=Z.fn (ail vu.fn B sR gz Ey kZ rn qn Aq qp As uG Pb uI aiU xR.made xR Qy qi z3);have Xx:=Z.fn (afB qh.fn c0);have Xy:=Z.fn (ahD qo.fn c0 qh Xx);have aj8:=Z.fn (afx xS.fn c0);have MA:=Z.fn (aeu mI.fn c0);have MB:=Z.fn (aev mG.fn c0);have Xz:=Z.fn (aew qf.fn c0 mI MA mG MB);have XA:=Z.fn (afw qr.fn c0 gz lZ Xw);have aj9:=Z.fn (aim vf.fn c0 sR mG MB mI MA xS aj8 xW QH);have aka:=Z.fn (ahs vo.fn B gz vf aj9 lZ Xw);have akb:=Z.fn (sp:=(Me fD gN hW hC)) (ahk xU.fn cg vH vu ajM qo.made qo Xy);have MC:=Z.fn (sp:=(BX fD gN hW hC)) (ahw k'.fn cg);have XB:=Z.fn (sp:=(FC fD gN hW hC)) (ahx n5.fn B cg);have akc:=Z.fn (sp:=(K9 fD gN hW hC jb)) (agp xV.fn B cg gc uW aiT qh Xx);have akd:=Z.fn (sp:=(K' K fD gN hW hC)) (ags xk.fn B cg gc qf Xz vo aka qr XA);have ake:=Z.fn (aiG jK.fn B.len);have akf:=Z.fn (aaq uT.fn B);have akg:=Z.fn (ahJ vl.fn B);have akh:=Z.fn (af9 xf.fn c0 mI MA mG MB qf Xz);have aki:=Z.fn (ai0 xp.fn DQ Ie Ig);have akj:=Z.fn (ai1 xv.fn D0 Im Io);have adc:=Z.fn (ai2 xw.fn D1 Ic);have XC:=Z.fn (af2 (S:=⟨fK,fJ,fL,fV⟩) qj.fn c0 vp vv vq vr ⟨PA,O8,Pg⟩ xp.made xp aki xv.made xv akj xw.made xw adc);have akk:=Z.fn (aeL vC.fn B h3 rr j' uR);have akl:=Z.fn (ah4 uH.fn);have akm:=Z.fn (ah5 uN.fn B gc gz vC akk uH akl qn Aq xf akh);have akn:=Z.fn (af1 vt.fn B c0 vH uN akm qo.made qo Xy qr XA);have aiV:=Z.fn (sp:=(Mc fD gN hW hC BM wj)) (ahl xu.fn cg kd qi z3);have aiW:=Z.fn (sp:=(Gk fD gN hW hC BM)) (ahm xo.fn cg kd xi ajL);have XD:=Z.fn (sp:=(GC fD gN hW hC wj)) (aiL qg.fn cg gz lZ ajK);have aiX:=Z.fn (sp:=(BB fD gN hW hC wj FT)) (af7 xX.fn cg qg XD);have aiY:=Z.fn (sp:=(BB fD gN hW hC wj AY)) (aho xO.fn cg qg XD);have XE:=Z.fn (sp:=(FV fD gN hW hC)) (ah2 n'.fn B cg);have ako:=Z.fn (sp:=(MD fD gN hW hC)) (aiO uU.fn B fR xX aiX xO aiY xo aiW xu aiV);have Mf:=Z.fn (sp:=(BW fD gN hW hC jb ⟨fK,fJ,fL,fV⟩)) (aia (Sp_:=⟨fK,fJ,fL,fV⟩) mJ.fn B cg gc qj XC vk o9 HW GR HQ xh XR);have akp:=Z.fn (aeZ (S:=⟨fK,fJ,fL,fV⟩) vw.fn B gc vt akn qj XC);have XF:=Z.fn (af5 (S:=⟨fK,fJ,fL,fV⟩) l0.fn B EA vp vv vq vr ⟨abA,abz,abB,aby⟩ DQ D0 D1 Ie Ig Im Io Ic);have akq:=Z.fn (ai7 uM.fn B);have XG:=Z.fn (ai8 n7.fn B);have XH:=Z.fn (aja n6.fn B uM akq);have akr:=Z.fn (sp:=(MI fD gN hW hC)) (ajd (S_:=⟨fK,fJ,fL,fV⟩) qk.fn B fR qb s8 o9 mJ Mf);have aks:=Z.fn (sp:=(MK fD gN hW hC)) (aiQ uX.fn B fR k' MC xk akd);have akt:=Z.fn (ajc uY.fn B);have aku:=Z.fn (sp:=(ML fD gN hW hC)) (aiR (S_:=⟨fK,fJ,fL,fV⟩) uJ.fn B fR n5 XB n' XE k' MC mJ Mf n6 XH n7 XG l0 XF);exact ahW (S_:=⟨fK,fJ,fL,fV⟩) Fs B E4 EZ fR jK ake uT akf vl akg xT.made xT QM xU.made xU akb uX aks uY akt uU ako uJ aku n6 XH n7 XG l0 XF vw akp qk akr n' XE k' MC n5 XB xV akc mJ Mf
theorem walk{l:V3}{zO:cw->Heap->Prop}{uz:bS->Heap->Prop}{d:DefRec}{K:Params->aY}(aM:l.most=some 63)(Dm:d.params.defaults=[])(NV:∀(w:bS)(h:Heap),uz w h->(K w.params).In h)(F:∀(w:bS)(mg:cw)(jq:Addr)(h:Heap),(K w.params).In h->h.Ns qF mg->mg d.name=some (.ref jq)->
   ∃fd:m_,(∀(s:aK)(u:Value),BH s fd ⟨[u],[]⟩ [("_law_script",u)])/\∀base:Heap,(K w.params).In base->base.Ns qF mg->aS l.prog w (K w.params) mg base bh 8 jq fd ["_law_script"] (FJ (K w.params))):
  ad0 q loose zO uz l.row.toRowW d [] (λf vs=>Wd f vs):=
 ar.aqm (n:=63) (k:=8) (x:="_law_script") (CX:=λ_=>bh) (sp:=λw=>FJ (K w.params)) aM (by decide) Dm ⟨rfl,by decide,by decide⟩ NV F (λ_ _ a ns aw _ c4=>⟨a,ns,rfl,c4,aw,λ_=>rfl⟩) λ_ _ _ _ _ z=>z
end df
inductive PySem.W.Fast|tw2021631282002042070|tw7337543115711803095|tw15949969815825812106|tw14092569694619778892|tw665443055961936424|tw15082077697005833322|tw2147547744303686278|tw15580526269429074972|tw15517479373485444128|tw17001404160071699457|tw5479878089599106121|tw1121619817612889689|tw11721213142504193207|tw164056034514333701|tw1100399986249964081|tw5768339611097373323|tw7534815976633089329|tw8467930538461031939|tw13871851555882080717|tw10510423551406816195|tw13152512669152998572|tw14465306367429908979|tw1354366328311634034|tw14284599867499932880|tw4214523555643912599|tw8426274559707655080|tw8889130781714511952|tw4042176699032944990|tw13965837300627027629|tw10290505666755525402|tw6700245025342199338|tw12720648648853889122|tw15435119128581810719|tw15865986521087481246|tw11796781523862293043|tw3707700408597840775|tw10346575264894543622|tw2180612648097814383|tw967338229968279247|tw17274748563082352151|tw13438214853404711854|tw14397946703699090677|tw11466945250563063967|tw1941249624100982198|tw12567578899013963079|tw4038575820388569935|tw2603555334568998875|tw3467530976533380446|tw10072487512775360005|tw3127800132099755975|tw3430368883404245857|tw6506488583841399040|tw8583722372766846334|tw3147556682603147112|tw12639301844020733136|tw7333694552186978862|tw6162288592872065052|tw11071356169239583980|tw2377738922295544908|tw3908249995353457112|tw12010176059435341691|tw8344512111455409104|tw9204706150928436217|tw1436413232632587973|tw1780811782291086529|tw2787140836645371591|tw4935120435777018592|tw3493353806671518757|tw4615435049140371935|tw5917756367361655293|tw9294043654033421814|tw17068812995607955984|tw7057728577253491708|tw16053775703551115032|tw13528654655227268190|tw6375530568765204953|tw1354691937427213185|tw8737789761686267009|tw9706295794779747790|tw10715647728671855900|tw2810378099466888076|tw10142439957729158655|tw1544877128432784878|tw1137965614077929588|tw1182886698128242240|tw3240842180151136701|tw14093215697114435929|tw8277418691705124931|tw12098252169574334127|tw6011491845640368077|tw8121935152041470798|tw10042733035653190498|tw5205378024992841163|tw6132775034849070203|tw9488592460032540856|tw13396644389470735114|tw5895602919083343550|tw8418923402224481501|tw1388646402011395980|tw18148898576881610069|tw12781670370476396467|tw4955196882333883843|tw11810468323707250437|tw15670491760534965304|tw8076007411619637726|tw14238266552079451829|tw12854639891740251963|tw8987827154844158892|tw9361959544809886430|tw10059359836359362143|tw5878433952634554718|tw15045579502230308101|tw10034772462823669984|tw5337523382728114070|tw14461322300110951331|tw4998534158336559777|tw9689462722095451933|tw2662479585278465464|tw4483431271046930783|tw17614733478401465939|tw10473976157276882717|tw3909209010714799395|tw12317237463670639027|tw4663237231254622298|tw16663719162644216387
open PySem PySem.W PyProof.Rows
set_option maxRecDepth 100000 in
set_option maxHeartbeats 0 in
theorem PySem.Challenge.cw_postroad_k74_whole_log_walked_holds : PySem.Challenge.rw_postroad_k74_whole_log_walked.Holds := by
 w_on;o_law;k_head;(case hw=>w_witness2)
 k_fill
 refine df.walk (l:=arB) rfl rfl (λw h Y=>PySem.W.kIn_of Y) ?F
 case F=>
  intro w mg jq h oS G Dt
  refine' df.all_mk Dt ?EA ?vp ?vv ?vq ?vr ?E4 ?Ey ?vH ?EZ ?s8 ?o9 ?QN ?R6 ?U_ ?ι ?ZZ ?R7 ?PA ?Pg ?DQ ?Ie ?Ig ?xp ?D0 ?Im ?Io ?xv ?D1 ?Ic ?xw ?gz ?PM ?PN ?xT ?kZ ?qn ?lZ ?qp ?xe ?kd ?PV ?PW ?xR ?qi ?xi ?xW ?mH ?gc ?PT ?PS ?PU ?qo ?qh ?qr ?xS ?mI ?mG ?qf ?xf ?qj ?fR ?PE ?PG ?PF ?PK ?PI ?PJ ?PH ?xU ?k' ?xV ?xu ?xo ?xX ?xO ?xk ?n' ?n5 ?mJ ?qg ?h3 ?kY ?j' ?j8 ?vm ?u1 ?vn ?ve ?vg ?uS ?uW ?uL ?uG ?uI ?vu ?vf ?vo ?vC ?uH ?uN ?vt ?vw ?jK ?uT ?vl ?uU ?l0 ?uM ?n7 ?n6 ?qk ?uX ?uY ?uJ ?MN ?Fs ?Pl ?HY ?Z4 ?Z5 ?GR ?HQ ?Fq ?Su ?Sr ?Ss ?EX ?RZ ?R1 ?R3 ?R5 ?R2 ?R0 ?R4 ?RY ?B ?Sw ?Sp ?Rz ?Qk ?HO ?HW ?Hb ?Iv ?Hj ?HC ?HK ?HA ?Hl ?QO ?Nm ?Q6 ?HE ?O7 ?RF ?Rl ?Rk ?O8 ?Ad ?Ah ?NY ?OE ?NX ?OD ?NZ ?OF ?NW ?OC ?An ?Bf ?Al ?Bd ?Ak ?Bc ?Am ?Be ?Aj ?Bb ?Rq ?Ro ?Rn ?P7 ?Rp ?P8 ?Rm ?P6 ?Rj ?Rh ?P4 ?Rg ?Ri ?P5 ?Rf ?P2 ?Rx ?Rv ?P_ ?Ru ?P' ?Rw ?Rt ?P9 ?Rd ?Rb ?P0 ?Ra ?PZ ?Rc ?P1 ?Q_
  (case EA|vp|vv|vq|vr|E4|Ey|vH|EZ|s8|o9|QN|R6|MN|RZ|R1|R3|R5|R2|R0|R4|RY=>refine' aee oS G ?z;(case z=>k_is))
  (case U_|R7|DQ|D0|D1|gz|kd|gc|fR=>constructor<;>k_is)
  (case ι|ZZ|PA|Pg|Ie|Ig|Im|Io|Ic|PM|PN|PV|PW|PT|PS|PU|PE|PG|PF|PK|PI|PJ|PH|Pl|HY|Z4|Z5|GR|HQ|Rz|Qk|HO|HW|Hb|Iv|Hj|HC|HK|HA|Hl|QO|Nm|Q6|HE|O7|RF|Rl|Rk|O8|Ad|Ah|NY|OE|NX|OD|NZ|OF|NW|OC|An|Bf|Al|Bd|Ak|Bc|Am|Be|Aj|Bb|Rq|Ro|Rn|Rp|Rm|Rj|Rh|Rg|Ri|Rf|Rx|Rv|Ru|Rw|Rt|Rd|Rb|Ra|Rc|Q_=>k_is)
  (case xp|xv|xw|xT|xR|qo|xU=>refine' df.anu ?a ?b ?c ?d ?z ?y ?x ?u;(case a|b|c|d|z|y|x=>k_is);(case u=>intro _ _ _ _ _ _ us aw;first|(obtain⟨_,rfl⟩:=df.Pp aw;rfl)|(obtain⟨_,_,rfl⟩:=df.HZ aw;rfl)|(obtain⟨_,_,_,rfl⟩:=df.Pq aw;rfl)|(obtain⟨_,_,_,_,rfl⟩:=df.Pr aw;rfl)|(obtain⟨_,_,_,_,_,rfl⟩:=df.Pt aw;rfl)))
  (case kZ|qn|lZ|qp|xe|qi|xi|xW|mH|qh|qr|xS|mI|mG|qf|xf|qj|k'|xV|xu|xo|xX|xO|xk|n'|n5|mJ|qg=>refine' df.an2 ?a ?b ?z ?y ?x ?u;(case a|b|z|y|x=>k_is);(case u=>intro _ _ _ _ _ _ us aw;first|(obtain⟨_,rfl⟩:=df.Pp aw;rfl)|(obtain⟨_,_,rfl⟩:=df.HZ aw;rfl)|(obtain⟨_,_,_,rfl⟩:=df.Pq aw;rfl)|(obtain⟨_,_,_,_,rfl⟩:=df.Pr aw;rfl)|(obtain⟨_,_,_,_,_,rfl⟩:=df.Pt aw;rfl)))
  (case h3|kY|j'|j8|vm|u1|vn|ve|vg|uS|uW|uL|uG|uI|vu|vf|vo|vC|uH|uN|vt|vw|jK|uT|vl|uU|l0|uM|n7|n6|qk|uX|uY|uJ=>refine' df.akS oS G ?a ?z ?y ?x ?u;(case a|z|y|x=>k_is);(case u=>intro _ _ _ _ _ _ us aw;first|(obtain⟨_,rfl⟩:=df.Pp aw;rfl)|(obtain⟨_,_,rfl⟩:=df.HZ aw;rfl)|(obtain⟨_,_,_,rfl⟩:=df.Pq aw;rfl)|(obtain⟨_,_,_,_,rfl⟩:=df.Pr aw;rfl)|(obtain⟨_,_,_,_,_,rfl⟩:=df.Pt aw;rfl)))
  (case Fs|Fq=>refine' ar.xr ?z ?y ?x;(case z|y|x=>k_is))
  (case Su|Sr|Ss=>k_exc)
  (case EX|Sw|Sp|P7|P8|P6|P4|P5|P2|P_|P'|P9|P0|PZ|P1=>decide+kernel)
  (case B=>constructor<;>(refine PySem.W.mg_none_of oS G ?_;k_is))
