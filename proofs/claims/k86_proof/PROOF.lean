import PyProof.Rows.All
import Wide.All
import KE.KIsAll
import KE.KItem
import OpenK.KMore
import OpenK.Peek
import OpenK.KCls
import Open.Head
import OpenK.KLine
import OpenK.KOwn
import Wide.FinOn
import Lean
import PyProof.EqAt
import PyProof.EqKinds
import PyProof.TupleCall
import KE.KEqDict
import PySem.Str
import KE.KIntText
import PyProof.SliceList
import KE.KDictOf
import PyProof.SumWalk
import PyProof.Rows.ZipGen
import PyProof.Rows.SeqMore
import PyProof.Rows.TupIter
import OpenK.KTop
import KE.KSortTup
import KE.KPairComp
import KE.KMinKey
import PyProof.Rows.SortRuns
import KE.KDictLaws
import KE.KDictSum
import PyProof.Rows.SeqMore2
import OpenK.KWalk
import Wide.Tac
import Wide.Line
import Open.Line
import Open.Pieces
import PySem.Challenge.RW_postroad_k86_the_desks_day
set_option Elab.async false
set_option linter.all false
set_option maxRecDepth 100000
set_option maxHeartbeats 4000000
abbrev bx:=@if_neg
abbrev bG:=@absurd
abbrev bS:=@if_pos
abbrev cE:=@decide_eq_true
abbrev dt:=@decide_eq_false
abbrev fa:=@congrArg
abbrev nK:=@of_decide_eq_true
abbrev qS:=@beq_iff_eq
abbrev AO:=@beq_eq_false_iff_ne
open Array renaming getD->xc,toList_inj->C0,getElem?_eq_none->Hz,getElem?_eq_getElem->Mq,getElem?_toList->Mr,length_toList->Ms,all_eq_true_iff_forall_mem->VZ,append_assoc->V0,Perm.refl->abg,toList->abh
open Bool renaming false_ne_true->ha,and_eq_true->i',true_and->qB,eq_false_iff->r4,false_and->vk,eq_iff_iff->Mx,false_eq_true->My,and_self->Wf,not_eq_true'->Wg,and_false->abj,or_true->abk
open Char renaming toNat->abD
open Classical renaming choose_spec->MI,byContradiction->Wo,choose->abG
open False renaming elim->ju
open ForInStep renaming yield->M4
open Int renaming toNat_natCast->mZ,emod_nonneg->n0,emod_lt_of_pos->pJ,zero_add->pK,le_refl->vy,eq_ofNat_of_zero_le->xr,toNat_of_nonneg->xt,toNat->H8,le_of_lt->Xd,le_trans->Xe,emod_eq_of_lt->acr,min_eq_left->acs,natAbs_natCast->acu,ofNat.inj->acv,ofNat_le->acw
open List renaming length_map->bP,mem_map->cm,mem_cons->dr,getElem?_eq_getElem->dw,getElem?_map->dV,getD->ea,forall_mem_cons->eA,range->eB,map_append->eK,length_append->eM,not_mem_nil->e3,mem_of_getElem?->fC,getElem?_eq_some_iff->gn,mem_singleton->gp,length_cons->gC,mem_filter->g4,map_map->hc,mem_append->hy,size_toArray->hz,map_cons->jd,nodup_cons->jw,length_take->ll,mem_range->lp,getElem_mem->m3,length_filter_le->m4,replicate->m5,mem_cons_of_mem->n3,take_length->n4,append_assoc->oN,length_range->oO,any_eq_true->pM,mem_append_right->pN,take_add_one->pO,filter_append->qF,all_eq_true->r_,append_nil->sa,length->sb,nodup_nil->sd,filter_cons->tZ,getElem?_of_mem->t2,map_congr_left->t4,mem_of_mem_take->t5,length_nil->vB,lookup->vC,mem_cons_self->vD,nodup_append->vE,getElem_map->xC,getElem_of_mem->xD,mem_append_left->z8,range_succ->z9,toArray->z',ext_getElem->Dx,find?_cons->Dy,getElem?_append_right->Dz,getElem_inj->DA,pairwise_map->DB,range'->DC,take_sublist->DD,any_cons->Iq,filterMap_cons->Ir,filter_map->It,getElem?_append_left->Iu,getElem_range->Iv,length_pos_iff->Iw,map_nil->Iy,cons.injEq->NC,drop_drop->ND,drop_left->NF,filter_nil->NG,forIn_cons->NH,length_eq_zero_iff->NI,length_replicate->NJ,map_take->NK,mem_filterMap->NL,mem_iff_getElem->NM,nodup_range->NN,sum_cons->NO,all_cons->XZ,all_map->X0,concat_eq_append->X1,eq_nil_or_concat->X2,exists_mem_of_ne_nil->X3,ext_getElem?->X4,getElem?_set_ne->X5,getElem?_set_self->X6,length_drop->X7,map_id'->X8,mem_iff_getElem?->X9,mem_range'_1->X',of_mem_zip->X_,pairwise_iff_getElem->Ya,replicate_succ->Yb,take_append_drop->Yc,take_of_length_le->Yd,take_zero->Ye,any_map->adi,cons.inj->adj,cons_append->adk,contains_cons->adl,countP_cons->adm,countP_le_length->adn,countP_pos_iff->ado,drop_eq_getElem_cons->adp,filter_eq_self->adq,forIn_nil->adr,getElem?_cons_zero->ads,getElem?_drop->adt,getElem?_range->adu,getElem_toArray->adv,getLast?_append->adw,getLastD_eq_getLast?->adx,map_id->ady,mem_flatMap->adz,mem_of_getLast?->adA,mem_of_mem_drop->adB,pairwise_lt_range->adC,range'_append_1->adD,sum_append->adE,zipIdx_cons->adF,zipIdx_nil->adG
open Nat renaming le_refl->cB,le_trans->dX,ne_of_lt->eT,zero_le->e4,lt_of_lt_of_le->jx,le_of_lt->mi,le_of_ble_eq_true->t6,lt_irrefl->t7,lt_of_le_of_lt->t8,le_succ->vL,lt_succ_of_lt->vM,ne_of_gt->vN,lt_or_ge->xH,lt_succ_self->xI,toDigits->xJ,min_le_right->DP,not_lt_zero->IF,le_add_right->NQ,le_of_eq->NR,lt_trans->NS,min_eq_left->NT,mul_le_mul->NU,succ_le_succ->NV,log2_lt->Yp,pos_of_ne_zero->Yq,sub_self->Yr,succ_mul->Ys,toDigits_of_lt_base->Yt,div_add_mod->aep,le_antisymm->aeq,le_of_lt_succ->aer,le_zero->aes,lt_of_succ_lt->aet,min_eq_right->aeu,strongRecOn->aev,succ_ne_self->aew,toDigits_append_toDigits->aex
open Ne renaming symm->dY
open Option renaming map_eq_some_iff->gS,some.inj->hI,isSome_iff_exists->xK,map_some->NY,isSome_map->aeW,none->aeX,some.injEq->aeY
open Or renaming inl->IH,inr->NZ
open Prod renaming mk.inj->N6
open PyProof.Rows renaming seqObj->ka,envOfC->p4,AllBare->tI,IsTup->vz,SortKind->AD,IsTupIter->Dt,IntsAre->H9,callWith_type1->N8,keyKind'->RN,oneType'->Tj,slot_tupleiter_next->T9,Subscript_->Zt,subscriptTail->aal,callWith_builtin1->afe,args_list_sort->ant,args_tupleiter_next->anu,entry_list_sort->an3,entry_tupleiter_next->an4,get?_update_seq->aox,slot_list_sort->asd,subscriptTail_builtinR->asj,kmk_tree->atR,setObjOf_fresh->atU,toString_length_le->atV
open PyProof.Rows.F renaming plain_set_update_loop->YG,entry_set_update_loop->afd
open PySem renaming wpAny_bind->aE,wpAny->aT,Shared->aW,Str.ofString->bc,World->bf,model->bg,wpAny_pure->bW,Paired->b2,Program->cx,Value.ref->cX,Heap.lt_size->dN,Heap.get?_push_of_some->d0,starEach->d2,Around->eu,Str->fm,Value.none->fP,Heap.get?_push_size->gG,backTo->hJ,wpAny_mono->ih,bootBuiltins->iX,Paired.length->jy,PyData.eqv->jz,IsPair->kd,argBest->ke,compareOp->ki,pyNext->kx,Heap.SameBut->kE,sysModules->lh,PyData.strOk->lr,wpAny_loadPart_at->lT,PassesOwn.never->lW,Str.empty->m_,codeAny->ni,rawInt->nO,wpAny_field->nS,FuncData->nY,IsZip->n1,Model->n7,backToKw->n',keywordEach->ox,wpAny_holding->oH,wpAny_call_entry->pB,PyData.depthAll->qI,codeAny_mono->q6,mainGlobals->rB,wpAny_call->rV,wpAny_truthy_bool->rW,DictEntry->r9,Value.int->so,Value.str->sq,wpAny_newObj_type->tA,Heap.size_push->tW,binaryOp->uh,field->uv,holding->uK,sizeLine_eq->u3,wpAny_seqItems->vf,wpAny_setField_rec->vg,ExcBaseFacts->vo,Heap.get?_update_other->vw,Result->vR,atKey->vW,standAt->wZ,valueAt->w4,wpAny_Call_Name_kw->w9,IsItemIter->xu,Keyword->xy,NameKind->xG,PyData.canLayAll0->xM,Value.builtin->xX,behindInMarks->x2,bindC->x3,bindL->x4,tupleKind->zo,wpAny_attempt->zw,wpAny_callSpecial?_slot->zx,wpAny_fieldsOf->zy,ClassData->z2,Obj.mapSeq->Aq,OwnTail->Au,Within->AA,Value.type->AI,assignEach->AL,attributeBase->AM,callWith->AR,callerA->AS,codeAny_builtin->AU,codeAny_call_builtin->AV,excClassObj->A3,getMethod->A9,setField->Co,swapsWith->Cr,wpAny_letGo->CO,wpAny_passesOwn->CP,wpAny_pyIter_list->CQ,BindsTo->C3,Data.cell->C6,Heap.get?_update_self->Dn,PyData.canLay0->DU,PyData.depth->DV,Value->DW,mem_of_lookup->DZ,Value.bool->Ek,call_meets->En,call_meetsIn->Eo,firstArgMember->EB,getItem->ED,isInstance->E5,isTrue->E6,newExc->Fx,pyIter->FY,setAttr->Gy,typeIs_str->GK,wpAny_dictEntries->G4,wpAny_dictEpoch->G5,wpAny_execs_nil->G6,wpAny_of_eq->G7,Around.under_plainId->Hy,Walks.list->I1,assign->Js,bindArgs->Jw,plainId_quiet->Lc,preSum->Ld,relabel->Lj,seqItems?->LB,wpAny_setField->L',wpAny_standAt->L_,wpAny_tryCatch->Ma,Code.quiet_builtin->MJ,Data.fields->MS,Heap.ExtBut->M_,Obj.data_mapFields->NW,Str.append->Om,Str.ext'->Oo,Str.length->Oq,Value.isStrOf->OL,ZipApart->OW,foldedSetIterable->Qc,instanceDict->Rz,letOwnedTupleGo->R1,refuseLoop->TN,subscripted->Uj,tupleKind_room_in1->Uq,wpAny_isOneOf_itemiter->U_,wpAny_isSubtype_exc->Va,wpAny_rule->Vb,wpAny_typeNameOfWhole_itemiter->Vc,wpAny_typeNameOfWhole_keyiter->Vd,wpAny_typeNameOf_itemiter->Ve,wpAny_typeNameOf_keyiter->Vf,Around.under->VY,Code.isFrame->Wq,Heap.FlyingW->W2,Heap.MadeExcOf->W3,Heap.get?_none_of_le->W4,Heap.get?_update_ne->W5,IsItemIterOut->Xf,PyData.list->YF,Within.cons->YY,call->YZ,frameOf->Y0,Shared.TypeIs->Zp,Value.float->ZD,builtinsNs->È,cellsFrom->Ð,closureFor->Ò,entryOfKey->ã,entryPlaceOf->ä,getAttrBy->ó,isSubtype_stop->ķ,noteFrame->Š,onTheHeap->ū,raiseStmt->Ÿ,refuseLoop_ref->Ź,sliceBounds->aad,slicePicked->aae,strKind_is->aak,wpAny_Call_method->aaI,wpAny_Name->aaJ,wpAny_execs_cons->aaK,wpAny_handled->aaL,wpAny_isInstance->aaM,wpAny_isOneOf_keyiter->aaN,wpAny_newList->aaO,wpAny_newTuple->aaP,wpAny_onRaise->aaQ,wpAny_pyIter_slot->aaR,wpAny_throw->aaS,wpAny_updateSeq->aaT,Heap.get?_push_at->acg,Heap.get?_some_iff->ach,Obj.cls_mapFields->aeO,Obj.isFreed_of_fields->aeP,Addr->aff,Within.nil->afI,intText?->afJ,Value.isInt_shape->ahE,behindIsImport->anx,checkBuiltinCall->anB,codeAny_of_tree->anE,numbered_texts->arj,pastItsLine_dict->arz,plainObj_wpAny_Assign_Attribute->arC,raiseErrorWords->arM,sliceRange_one->asa,slot_list_getitem->asb,wpAny_Assign_Name->asV,wpAny_Compare1->asW,wpAny_Dict_empty->asX,wpAny_assign_Name->asY,wpAny_getItem_of->asZ,wpAny_isTrue_Compare1->as0,wpAny_leaves_onW->as1,wpAny_loadPart->as2,wpAny_lookBehind->as3,wpAny_mroOf_exc->as4,wpAny_notIn_of->as5,wpAny_notOrdered_dict->as6,wpAny_pyIter_enum->as7,wpAny_pyIter_zip->as8,wpAny_updateSeq_pair->as9
open PySem.Builtin.Builtins renaming bindParams->atz
open PySem.Builtin.Dict renaming showsAll->Mz,dictSlotNone->atA,noArgs->atB
open PySem.Builtin.Dict_items renaming ownsTuple->HB,ownedTupleFields->abl,ownedTupleIsFree->abm,pairFromOwner->abn,dictOf->atC,newIterator->atD
open PySem.Builtin.Frozenset renaming updateFrom->atE
open PySem.Builtin.List renaming listTooLong->Wk,listUpdate->atF
open PySem.Builtin.ObjectAttr renaming storeInOwnDict->MA,dataDescriptor?->abo,find->abp,storeInDict->abq,attrName->atG,bindTo->atH,getOf->atI,newKeyGuard->atJ
open PySem.Builtin.Range renaming rangeSize->atL
open PySem.Builtin.SmallTypes renaming nextOf->vl,ownedTupleIsFree->MB,ownedTupleHandOut->abr
open PySem.Builtin.Str renaming strSliceIndices->abt,subAt->atW
open PySem.Calls renaming spliced_cons->C5,callWith_builtin->HD,evalArgs_plain->HE,spliced_nil->MF,Name_function_global->abB,call_function_entry->abC
open PySem.Challenge renaming pw_postroad_k86_the_desks_day->atX,rw_postroad_k86_the_desks_day->atY
open PySem.EntryCells renaming newEntry->atN
open PySem.F renaming plainAttrs_list->t_,excBase_ValueError->xN,slot_list_append->xO,type_list_append->xP,plainAttrs_dict->N9,plainAttrs_str->N_,slot_dict_get->YH,slot_dict_pop->YI,args_dict_get_2->afg,args_dict_pop_3->afh,entry_dict_get->afi,entry_dict_pop->afj,slot_dict_delitem->afk,slot_dict_getitem->afl,slot_dict_setdefault->afm,slot_list_index->afn,slot_str_join->afo,store_ValueError->afp,type_str_join->afq
open PySem.Heap renaming SameBut.update->H7,ExtBut.push->Na,Ns1.of_empty->ace,SameBut.extBut->acf
open PySem.SeqAt renaming shaped->ud,EqAt->agE,EqAt.int_str->agF,EqAt.str_int->agG,EqAt.bool_bool->atZ,list_indexAt->at0
open PySem.Txt renaming split->Eh,slice->Ow,startswith->Ox
open PySem.W renaming Frag->aN,findIn->cD,nsIn->e5,keepIn->mj,kitOne->ml,fnOf->m9,mroIn->n8,subIn->oR,Looks->pS,kia_one->pT,emptyDict->qJ,instObj->sj,isFn->ua,looks_findIn->ub,specialIn->uc,clsIn->vQ,excIn->xQ,hideAll->xR,callWith_K->Ax,takesIn->Ay,typeIn->Az,kas_place->Bx,kas_sort->By,codeIn->DX,makesIn->DY,kas_ask->Fa,kas_desc->Fb,kas_rev->Fc,kas_tail3->Fd,hasDictIn->IK,methodCall_KW->IL,Looks.ld->Oa,lookIn->Ob,plainGet->Oc,kas_bin->RE,kas_count->RF,Looks.of_pure->Yg,OpenLaw->YJ,callWith_K0->YK,check_slot->YL,findCls->YM,find_K->YN,hideAll_get->YO,kitCls->YP,kitMeta->YQ,makes_of->YR,mapOf_K->YS,methodObj->YT,of_hideAll->YU,plainGet_of->YV,readsIn->YW,takerIn->YX,kas_descPart->ĺ,InitBack->afr,KeysLit->aft,WalkO->afu,bind_fn->afv,cellsFrom_some->afw,funFrames_hide->afx,handedIn->afy,hideAll_none->afz,isClsIn->afA,kitx_dict->afB,kitx_list->afC,looks_mroIn->afD,looks_subIn->afE,make_core->afF,mg_of->afG,plainOver->afH
open PySem.W.KF renaming slot_gs->afs,args_gs->at1,entry_class->at3,entry_gs->at4,owner_class->at5,type_class->at6
open PySem.W.KIN renaming call_text->at7,num_reads->at8,signs_num->at9
open PySem.W.KT renaming len_num->aua
open Sum renaming inr->fM,inl->fV,inl.inj->D8,inr.inj->Ot,inr.injEq->agJ
open True renaming intro->mn
section
local macro_rules | `(#[$xs,*]) => if xs.getElems.size < 2 then Lean.Macro.throwUnsupported else `(⟨$xs,*⟩)
local macro_rules | `(tactic| show #[$xs,*]) => `(tactic| refine ⟨$xs,*⟩)
section
abbrev d4:List fm:=["self","number"]
abbrev cG:List fm:=["self"]
abbrev iU:List fm:=["self","house","goal"]
abbrev h1:List fm:=["day","values"]
abbrev oP:List fm:=["self","houses","roads"]
abbrev se:List fm:=["self","house","goal","road"]
abbrev qH:List fm:=["_law_desk","_law_row"]
abbrev m6:List fm:=["desk","values"]
abbrev sf:List fm:=["houses","one","other"]
abbrev mh:List fm:=["self","road"]
abbrev lV:List fm:=["self","net"]
abbrev vF:List fm:=["thing","least","greatest"]
abbrev n5:List fm:=["self","house"]
abbrev pP:List fm:=["houses","thing"]
abbrev xE:List fm:=["_law_cell","_law_names"]
abbrev DE:List fm:=["net","walk","going","ways","turn"]
abbrev vG:List fm:=["self","net","first"]
abbrev qG:List fm:=["self","row"]
abbrev kI:List fm:=["word"]
abbrev vH:List fm:=["houses","things"]
abbrev DF:List fm:=["walk","going","ways","turn"]
abbrev z_:List fm:=["_law_script","_law_k"]
abbrev vI:List fm:=["thing","length"]
abbrev vJ:List fm:=["self","letter"]
abbrev DG:List fm:=["road","far_from","goal"]
abbrev n6:List fm:=["thing"]
abbrev Aa:List fm:=["self","at","since"]
abbrev DH:List fm:=["_law_cell","_law_many"]
abbrev DI:List fm:=["self","net","letters"]
abbrev DJ:List fm:=["self","number","turn"]
abbrev Ab:List fm:=["self","by","due"]
abbrev xF:List fm:=["_law_error"]
abbrev Ac:List fm:=["road","found"]
abbrev Ad:List fm:=["self","since"]
abbrev pQ:List fm:=["plan"]
abbrev DK:List fm:=["roads","house"]
abbrev vK:List fm:=["things"]
abbrev DL:List fm:=["net","some"]
abbrev DM:List fm:=["self","bag"]
abbrev bt:= List (List Nat)
abbrev cW:= DW -> PySem.Shared -> Prop
abbrev ee:= List (aff×PySem.Obj)
abbrev cb:= fm -> Option DW
abbrev b7:= List Nat
abbrev bL:= List aff
abbrev dx:= List DW
abbrev cK:= List fm
abbrev mq:= Array Nat
abbrev jB:= Nat -> Nat -> Bool
abbrev Oy:= List (Option Nat)
abbrev mr:= Array (Option DW)
abbrev AG:= List (fm×Int×fm)
abbrev xW:= fm×Int×fm
abbrev hA:= List Int
abbrev h3:= List PySem.Expr
abbrev fW:= List PySem.PyData
abbrev nc:= fm -> Option Int
abbrev mu:= Array DW
abbrev AH:= Option DW
end
namespace ao
open PySem PySem.Spec PyProof.Rows
noncomputable abbrev bq:=Sum Int Str
noncomputable def zA:bq->Value->Bool
 |.inl k,v=>Value.isInt k v
 |.inr x,v=>OL x v
noncomputable def amh(w:bf):bq->Int
 |.inl k=>hashInt k
 |.inr x=>hashStr w x
theorem sD:∀{k:bq}{v:Value},zA k v=true->(∃i t,k=fV i/\v=so i t)\/(∃x t,k=fM x/\v=sq x t)
 |.inl i,v,h=>by obtain⟨t,e⟩:=ahE (k:=i) (v:=v) h;exact .inl #[i,t,rfl,e]
 |.inr x,v,h=>by obtain⟨t,e⟩:=Value.isStrOf_shape (x:=x) (v:=v) h;exact .inr #[x,t,rfl,e]
theorem adf(i:Int)(t:Tok):zA (.inl i) (.int i t)=true:=by simp[zA,Value.isInt]
theorem adg(x:Str)(t:Tok):zA (.inr x) (.str x t)=true:=by simp[zA,OL]
theorem aiH(a b:Int):decide ((fV a:bq)=fV b)=(a==b):=by
 by_cases e:a=b
 .subst e;simp
 have h:¬(fV a:bq)=fV b:=λq=>e (D8 q);rw[dt h];exact(AO.mpr e).symm
theorem aiJ(a b:Str):decide ((fM a:bq)=fM b)=decide (a=b):=by
 by_cases e:a=b
 .subst e;simp
 have h:¬(fM a:bq)=fM b:=λq=>e (Ot q);rw[dt h,dt e]
theorem aiK(a:Int)(b:Str):decide ((fV a:bq)=fM b)=false:=dt (λq=>nomatch q)
theorem aiL(a:Str)(b:Int):decide ((fM a:bq)=fV b)=false:=dt (λq=>nomatch q)
noncomputable def h9(d:cx)(w:bf):PySem.KeyKind d w bq where
 is:=zA
 hash:=amh w
 inj:=λv a b l g=>by
  rcases sD l with⟨i,t,rfl,rfl⟩|⟨x,t,rfl,rfl⟩
  .rcases sD g with⟨j,u,rfl,e⟩|⟨y,u,rfl,e⟩
   .injection e with c _;rw[c]
   exact nomatch e
  rcases sD g with⟨j,u,rfl,e⟩|⟨y,u,rfl,e⟩
  .exact nomatch e
  injection e with c _;rw[c]
 byValue:=λk v h=>by rcases sD h with⟨i,t,rfl,rfl⟩|⟨x,t,rfl,rfl⟩<;>rfl
 pyHash:=λf h=>by
  rcases sD f with⟨i,t,rfl,rfl⟩|⟨x,t,rfl,rfl⟩
  .exact wpAny_pyHash_int h
  exact wpAny_pyHash_str h
 eqBool:=λm f h=>by
  rcases sD m with⟨i,t,rfl,rfl⟩|⟨x,t,rfl,rfl⟩
  .rcases sD f with⟨j,u,rfl,rfl⟩|⟨y,u,rfl,rfl⟩
   .rw[aiH]at h;exact wpAny_eqBool_int h
   rw[aiK]at h;exact agF i t y u _ _ _ _ h
  rcases sD f with⟨j,u,rfl,rfl⟩|⟨y,u,rfl,rfl⟩
  .rw[aiL]at h;exact agG x t j u _ _ _ _ h
  rw[aiJ]at h;exact wpAny_eqBool_str h
 «strs»:=λk x t v h=>by
  rcases sD h with⟨i,u,rfl,e⟩|⟨y,u,rfl,e⟩
  .exact nomatch e
  injection e with c _;subst c;cases v<;>rfl
theorem abR(a:cx)(w:bf)(i:Int)(t:Tok):(h9 a w).is (.inl i) (.int i t)=true:=adf i t
theorem abS(a:cx)(w:bf)(x:Str)(t:Tok):(h9 a w).is (.inr x) (.str x t)=true:=adg x t
inductive V where
 |b3|aV (b:Bool)|int (i:Int)|str (x:Str)|AQ (b:Array UInt8)|yk (b:UInt64)|ref (a:Addr)|ty (n:String)
 deriving DecidableEq
abbrev aO:= List V
abbrev lY:= Option V
noncomputable def RelV:V->Value->Prop
 |.b3,u=>u=fP
 |.aV b,u=>u=Ek b
 |.int i,u=>∃t,u=so i t
 |.str x,u=>∃t,u=sq x t
 |.AQ b,u=>∃t,u=Value.bytes b t
 |.yk b,u=>∃t,u=ZD b t
 |.ref a,u=>u=cX a
 |.ty n,u=>u=AI n
noncomputable abbrev de:List V->List Value->Prop:=b2 RelV
theorem de.length{b:aO}{a:dx}(r:de b a):b.length=a.length:=jy r
theorem de.get:∀{b:aO}{a:dx}{i:Nat}{x:V},de b a->b[i]?=some x->∃u,a[i]?=some u/\RelV x u
 |_,_,_,_,.nil,e=>by simp at e
 |_,_,0,_,.cons r _,e=>by simp at e;subst e;show#[_,rfl,r]
 |_,_,i+1,x,.cons _ t,e=>by obtain⟨u,c,d⟩:=de.get (i:=i) (x:=x) t (by simpa using e);show#[u,by simpa using c,d]
theorem de.append:∀{c d:aO}{a b:dx},de c a->de d b->de (c++d) (a++b)
 |_,_,_,_,.nil,s=>s
 |_,_,_,_,.cons r t,s=>.cons r (de.append t s)
theorem de.take:∀{b:aO}{a:dx}(n:Nat),de b a->de (b.take n) (a.take n)
 |_,_,0,_=>.nil
 |_,_,_+1,.nil=>.nil
 |_,_,n+1,.cons r t=>.cons r (de.take n t)
theorem de.drop:∀{b:aO}{a:dx}(n:Nat),de b a->de (b.drop n) (a.drop n)
 |_,_,0,r=>r
 |_,_,_+1,.nil=>.nil
 |_,_,n+1,.cons _ t=>de.drop n t
noncomputable def jP:Option V->Option Value->Prop
 |some v,some u=>RelV v u
 |none,none=>True
 |_,_=>False
noncomputable def gR{a:Type}:List (a×V)->List (a×Value)->Prop:=b2 λ(p:a×V)(q:a×Value)=>p.1=q.1/\RelV p.2 q.2
noncomputable def dq:bq->V
 |.inl i=>.int i
 |.inr x=>.str x
inductive gQ where
  |lst(_:aO)
  |tup(_:aO)
  |cv(kvs:List (bq×V))|dB (kvs:List (List bq×V))
  |set(_:Int->Bool)(n:Nat)
  |ins(C ag:Addr)(_:List (Str×V))
  |own(x:Addr)
  |Mn(_:List (Str×V))
  |met(f x:Addr)
  |Ll(lo hi:Int)
  |fc(_:Obj)(_:gQ)
  |rQ(_:mu)
  |ext(_:Heap->Prop)
noncomputable abbrev af:=Addr->Option gQ
noncomputable def upd(H:af)(a:Addr)(o:gQ):af:=λb=>if b=a then some o else H b
theorem aK:upd H a o a=some o:=by unfold upd;rw[bS rfl]
theorem aJ{H:af}(h:b≠a):upd H a o b=H b:=by unfold upd;rw[bx h]
theorem y9:upd (upd H a o) a u=upd H a u:=by funext b;unfold upd;split<;>rfl
theorem eg{H:af}(h:H a=some o)(c:H b=some u)(d:o≠u):a≠b:=by intro e;subst e;rw[h]at c;exact d (hI c)
theorem b1{H:af}(h:H a=some o)(c:H b=none):a≠b:=by intro e;subst e;rw[h]at c;cases c
section
variable(P:cx)(w:bf)
noncomputable def fk(H:af)(h:Heap)(a:Addr):gQ->Prop
 |.lst c=>c.length<=sizeLine/\∃(b:dx)(n:Nat),de c b/\h.get? a=some {cls:=.type "list",data:=.seq b.toArray n}
 |.tup c=>c.length<=sizeLine/\∃b:List Value,de c b/\vz h a b.toArray
 |.cv kvs=>kvs.length<=sizeLine/\(a==lh)=false/\∃vs,gR kvs vs/\h.DictOf (h9 P w) a vs
 |.dB kvs=>kvs.length<=sizeLine/\(a==lh)=false/\∃c:List (List bq×Addr×Value),
   b2 (λ(p:List bq×V)(q:List bq×Addr×Value)=>p.1=q.1/\H q.2.1=some (.tup (p.1.map dq))/\RelV p.2 q.2.2) kvs c/\
   ∃o l m,h.get? a=some o/\o.ExactDict/\o.data=.dict l m/\l.toList=c.map (ã (zo (h9 P w)))/\(c.map (·.1)).Nodup
 |.set S n=>h.SetOf (intKind P w) a S n
 |.ins C ag fs=>H ag=some (.own a)/\fs.length<=1000/\ag≠a/\h.get? a=some (sj C ag)/\
   ∃d,h.Ns1 ag d/\(∀f,jP (fs.lookup f) (d f))/\AA d (fs.map (·.1))
 |.own _=>∃o,h.get? a=some o
 |.Mn fs=>∃d,h.Ns1 a d/\∀f,jP (fs.lookup f) (d f)
 |.Ll lo i=>∃t u v,h.get? a=some {cls:=.type "range",data:=.fields (List.toArray [.int lo t,.int i u,.int 1 v])}
 |.fc o u=>h.get? a=some o/\fk H h a u
 |.rQ j=>h.get? a=some {cls:=.none,data:=.fields j}
 |.met f x=>h.get? a=some (YT (.ref f) (.ref x))
 |.ext e=>e h/\(∃o,h.get? a=some o)/\∀g k:Heap,e g->(∀o,g.get? a=some o->k.get? a=some o)->e k
noncomputable def gb(H:af)(h:Heap):Prop:=∀a o,H a=some o->fk P w H h a o
end
section
variable{P:cx}{w:bf}{H H':af}{h h':Heap}{a:Addr}{o:gQ}
theorem fk.lt(x:fk P w H h a o):a<h.objs.size:=by
 cases o with
 |lst xs=>obtain⟨_,_,_,_,e⟩:=x;exact dN e
 |tup xs=>obtain⟨_,_,_,p⟩:=x;exact p.lt
 |cv kvs=>obtain⟨_,_,_,_,o,_,_,e,_⟩:=x;exact dN e
 |dB kvs=>obtain⟨_,_,_,_,o,_,_,e,_⟩:=x;exact dN e
 |set S n=>obtain⟨o,_,_,_,e,_⟩:=x;exact dN e
 |ins C ag fs=>obtain⟨_,_,_,e,_⟩:=x;exact dN e
 |own y=>obtain⟨_,e⟩:=x;exact dN e
 |Mn fs=>obtain⟨_,⟨_,_,_,e,_⟩,_⟩:=x;exact dN e
 |Ll lo i=>obtain⟨_,_,_,e⟩:=x;exact dN e
 |fc ob u=>obtain⟨e,_⟩:=x;exact dN e
 |rQ j=>exact dN (show h.get? a=some _ from x)
 |met f y=>exact dN (show h.get? a=some _ from x)
 |ext b=>obtain⟨_,⟨_,e⟩,_⟩:=x;exact dN e
theorem b2.fT{g k:Type}{F G:g->k->Prop}:∀{c:List g}{d:List k},b2 F c d->(∀a b,F a b->G a b)->b2 G c d
 |_,_,.nil,_=>.nil
 |_,_,.cons r t,f=>.cons (f _ _ r) (b2.fT t f)
theorem fk.nP(x:fk P w H h a o)(k:∀b u,(b=a\/H b=some (.own a))->h.get? b=some u->h'.get? b=some u)(aX:∀b,H b=some (.own a)->H' b=some (.own a))(s:∀b K,H b=some (.tup K)->H' b=some (.tup K)):fk P w H' h' a o:=by
 induction o with
 |lst K=>obtain⟨z,A,n,r,e⟩:=x;show#[z,A,n,r,k _ _ (.inl rfl) e]
 |tup K=>obtain⟨z,A,r,g,e,c⟩:=x;show#[z,A,r,g,k _ _ (.inl rfl) e,c]
 |cv kvs=>obtain⟨z,y,vs,r,g,m,l,e,c⟩:=x;show#[z,y,vs,r,g,m,l,k _ _ (.inl rfl) e,c]
 |dB kvs=>
  obtain⟨z,y,K,r,g,m,l,e,c⟩:=x;show#[z,y,K,b2.fT r λp q z=>#[z.1,s _ _ z.2.1,z.2.2],g,m,l,k _ _ (.inl rfl) e,c]
 |set S n=>obtain⟨g,m,l,t,e,c⟩:=x;show#[g,m,l,t,k _ _ (.inl rfl) e,c]
 |ins C ag fs=>
  obtain⟨d,z,B,e,N,⟨L,m,l,V,c⟩,r⟩:=x;show#[aX _ d,z,B,k _ _ (.inl rfl) e,N,#[L,m,l,k _ _ (.inr d) V,c],r]
 |own y=>obtain⟨g,e⟩:=x;show#[g,k _ _ (.inl rfl) e]
 |Mn fs=>obtain⟨N,⟨L,m,l,e,c⟩,r⟩:=x;show#[N,#[L,m,l,k _ _ (.inl rfl) e,c],r]
 |Ll lo D=>obtain⟨t,u,v,e⟩:=x;show#[t,u,v,k _ _ (.inl rfl) e]
 |fc g u j=>obtain⟨e,q⟩:=x;show#[k _ _ (.inl rfl) e,j q]
 |rQ i=>
  have e:h.get? a=some {cls:=.none,data:=.fields i}:=x;show h'.get? a=some {cls:=.none,data:=.fields i};exact k a _ (.inl rfl) e
 |met f y=>
  have e:h.get? a=some (YT (.ref f) (.ref y)):=x;show h'.get? a=some (YT (.ref f) (.ref y));exact k a _ (.inl rfl) e
 |ext E=>obtain⟨p,⟨o,e⟩,st⟩:=x;show#[st _ _ p λo q=>k _ _ (.inl rfl) q,#[o,k _ _ (.inl rfl) e],st]
theorem gb.lt(x:gb P w H h)(e:H a=some o):a<h.objs.size:=(x a o e).lt
theorem gb.fresh(x:gb P w H h)(e:h.objs.size<=a):H a=none:=by
 cases q:H a with
 |none=>rfl
 |some u=>exact bG (jx (x.lt q) e) (t7 _)
theorem gb.kept(x:gb P w H h)(k:∀b u,h.get? b=some u->h'.get? b=some u):gb P w H h':=λa o e=>
 (x a o e).nP (λb u _ q=>k b u q) (λ_ q=>q) λ_ _ q=>q
theorem gb.laid(x:gb P w H h)(k:∀b u,h.get? b=some u->h'.get? b=some u)(l:h.objs.size<=a)(d:fk P w (upd H a o) h' a o):gb P w (upd H a o) h':=λb u e=>by
 have f:=x.fresh l;by_cases g:b=a
 .subst g;rw[aK]at e;cases e;exact d
 rw[aJ g]at e;exact(x b u e).nP (λc v _ q=>k c v q) (λc q=>by rw[aJ (b1 q f)];exact q) λc m q=>by rw[aJ (b1 q f)];exact q
end
noncomputable def fD(H:af)(a:Addr)(u:gQ):Prop:=H a=some u\/∃o,H a=some (.fc o u)
theorem fD.ok{w:bf}{a:Addr}(r:fD H a u)(x:gb P w H h):fk P w H h a u:=by
 rcases r with r|⟨o,r⟩
 .exact x a u r
 obtain⟨_,q⟩:=x a _ r;exact q
noncomputable def DO:Option gQ->Prop
 |some (.lst _)=>True
 |some (.cv _)=>True
 |some (.dB _)=>True
 |some (.set _ _)=>True
 |some (.ins _ _ _)=>True
 |some (.ext _)=>True
 |_=>False
section
variable{P:cx}{w:bf}{H:af}{h h':Heap}{x e:Addr}{cY:gQ}
theorem gb.write(ok:gb P w H h)(b9:DO (H x))(o:e=x\/H e=some (.own x))(k:∀b u,b≠e->h.get? b=some u->h'.get? b=some u)(t:∃u,h'.get? e=some u)(m:fk P w (upd H x cY) h' x cY):gb P w (upd H x cY) h':=λb u q=>by
 have p:∀c y,H c=some (.own y)->c≠x:=λc y r z=>by subst z;rw[r]at b9;exact b9
 have l:∀c g,H c=some (.tup g)->c≠x:=λc g r z=>by subst z;rw[r]at b9;exact b9
 by_cases a:b=x
 .subst a;rw[aK]at q;cases q;exact m
 rw[aJ a]at q;by_cases f:b=e
 .have n:H b=some (.own x):=by
   rcases o with z|z
   .exact bG (f.trans z) a
   rw[f];exact z
  rw[q]at n;cases n;obtain⟨v,A⟩:=t;show#[v,by rw[f];exact A]
 refine(ok b u q).nP (λc v d r=>k c v ?_ r) (λc r=>by rw[aJ (p c b r)];exact r) λc g r=>by rw[aJ (l c g r)];exact r
 rcases d with rfl|d
 .exact f
 rintro rfl;rcases o with z|z
 .exact p c b d z
 rw[d]at z;cases z;exact a rfl
end
structure iD(fs ex:bL)(H H':af)(h h':Heap):Prop where
 keep:∀b o,h.get? b=some o->H b=none->b∉fs->b∉ex->h'.get? b=some o
 slot:∀b o,h.get? b=some o->H b=none->b∈fs->b∉ex->∃bM,h'.get? b=some {o with slots:=bM}
 free:∀b o,h.get? b=some o->H b=none->b∉ex->H' b=none
 there:∀b o,h.get? b=some o->b∉ex->∃cY,h'.get? b=some cY
 gz:∀b xs,H b=some (.tup xs)->H' b=some (.tup xs)
 jH:∀b o u,H b=some (.fc o u)->H' b=some (.fc o u)
 kb:∀b ps,H b=some (.rQ ps)->∃more,H' b=some (.rQ (ps++more))
section
variable{fs aos ex av6:bL}{H H1 ai:af}{h ah aj h':Heap}{a x e:Addr}{o:gQ}
theorem iD.any(u:iD fs ex H H1 h ah){b:Addr}(q:h.get? b=some ob)(n:H b=none)(d:b∉ex):∃f,ah.get? b=some {ob with slots:=f}:=by
 by_cases c:b∈fs
 .exact u.slot b ob q n c d
 show#[ob.slots,u.keep b ob q n c d]
theorem iD.kept(k:∀b u,h.get? b=some u->h'.get? b=some u):iD fs ex H H h h':=
 #[λb c q _ _ _=>k b c q,λb c q _ _ _=>#[c.slots,k b c q],λ_ _ _ n _=>n,λb c q _=>#[c,k b c q],λ_ _ q=>q,λ_ _ _ q=>q,λ_ d q=>#[#[],by rw[q];simp]]
theorem iD.refl:iD fs ex H H h h:=iD.kept λ_ _ q=>q
theorem iD.laid(k:∀b u,h.get? b=some u->h'.get? b=some u)(d:h.objs.size<=a)(c:H a=none):iD fs ex H (upd H a o) h h' where
 keep:=λb u q _ _ _=>k b u q
 slot:=λb u q _ _ _=>#[u.slots,k b u q]
 free:=λb u q n _=>by rw[aJ (eT (jx (dN q) d))];exact n
 there:=λb u q _=>#[u,k b u q]
 gz:=λb f q=>by rw[aJ (b1 q c)];exact q
 jH:=λb u f q=>by rw[aJ (b1 q c)];exact q
 kb:=λb g q=>#[#[],by rw[aJ (b1 q c),q];simp]
theorem iD.write(b9:DO (H x))(m:e=x\/H e=some (.own x))(k:∀b u,b≠e->h.get? b=some u->h'.get? b=some u)(l:∃u,h'.get? e=some u):iD fs ex H (upd H x o) h h':=by
 have f:∀b,H b=none->b≠x:=λb n z=>by subst z;rw[n]at b9;exact b9
 have d:∀b,H b=none->b≠e:=λb n z=>by
  subst z;rcases m with r|r
  .exact f b n r
  rw[n]at r;cases r
 have c:∀b u,H b=some u->¬DO (some u)->b≠x:=λb u q p z=>by subst z;rw[q]at b9;exact p b9
 show#[λb u q n _ _=>k b u (d b n) q,λb u q n _ _=>#[u.slots,k b u (d b n) q],λb u q n _=>by rw[aJ (f b n)];exact n,λb u q _=>?_,
  λb t q=>by rw[aJ (c b _ q λz=>z)];exact q,λb u t q=>by rw[aJ (c b _ q λz=>z)];exact q,λb w q=>#[#[],by rw[aJ (c b _ q λz=>z),q];simp]]
 by_cases g:b=e
 .subst g;exact l
 show#[u,k b u g q]
end
noncomputable def LO(h:Heap)(H:af):List Addr:=(eB h.objs.size).filter λa=>(H a).isSome
noncomputable def tJ(h:Heap)(H:af):Heap:=xR h (LO h H)
theorem ad0(h:Heap)(H:af):(tJ h H).objs.size=h.objs.size:=PySem.W.hideAll_size _ _
theorem aeN{h:Heap}{H:af}(e:h.get? b=some o)(n:H b=none):(tJ h H).get? b=some o:=
 YO _ e λa=>by have q:(H b).isSome=true:=(g4.mp a).2;rw[n]at q;simp at q
theorem ag9{h:Heap}{H:af}(e:(tJ h H).get? b=some o):h.get? b=some o/\H b=none:=by
 have a:h.get? b=some o:=YU (LO h H) e;show#[a,?_];cases q:H b with
 |none=>rfl
 |some x=>
  have c:b∈LO h H:=g4.mpr #[lp.mpr (dN a),by simp[q]];have z:(tJ h H).get? b=none:=afz (LO h H) c;rw[z]at e;cases e
structure Mod(K:aN)(mg:cb)(base:Heap):Prop where
 sY:K.In base
 glob:base.Ns rB mg
 blt:∃qi,base.Ns È qi/\∀x:Str,x≠"__name__"->qi x=iX x
 nolimit:base.NoLimit
structure bH where
 prog:cx
 w:bf
 K:aN
 mg:Str->Option Value
 base:Heap
 A:eu
 N:List Str
 i5:aW
 nZ:af
 env:Env
 outer:List Env
 stack:List Env
 ex:List Addr
 fn:Str->Bool
 calm:Bool
 fA:List (Addr×Obj)
 er:Value->aW->Prop
noncomputable def fY(l:List Env):List Addr:=l.filterMap (·.frame)
noncomputable abbrev bH.fs(X:bH):List Addr:=fY X.outer
noncomputable def OM(a:Scope)(x:Str):Prop:=a.names.lookup x=some .local\/a.names.lookup x=some .cell\/a.names.lookup x=some .free
noncomputable def Loc(a:Scope)(x:Str):Prop:=a.names.lookup x=some .local\/a.names.lookup x=some .cell
noncomputable def Look(a:Env)(h:Heap)(m:cb)(x:Str)(u:Value):Prop:=
 (a.kindOf x=some .local/\m x=some u)\/((a.kindOf x=some .cell\/a.kindOf x=some .free)/\∃c,a.cells.lookup x=some c/\h.IsCell c (some u))
structure bH.Ok(X:bH):Prop where
 mod:Mod X.K X.mg X.base
 kind:X.env.scope.kind=.function
 glob:X.env.globals=rB
 blt:X.env.builtins=È
 above:X.i5.heap.objs.size<=X.env.locals
 inj:∀x y c,X.env.cells.lookup x=some c->X.env.cells.lookup y=some c->x=y
 has:∀x,(X.env.kindOf x=some .cell\/X.env.kindOf x=some .free)->∃c,X.env.cells.lookup x=some c
 x5:∀x c,X.fn x=true->X.env.cells.lookup x=some c->X.i5.heap.objs.size<=c
 hd:X.calm=true->X.A.handled=none
 frames:X.A.frames=some X.stack
 th:X.stack=X.outer\/(X.stack=X.env::X.outer/\X.env.frame=some X.env.locals)
 JI:∀b∈X.ex,b≠X.env.locals/\∀x c,X.env.cells.lookup x=some c->c≠b
 bs:∀b o,X.base.get? b=some o->X.i5.heap.get? b=some o/\X.nZ b=none
 sr:X.base.objs.size<=X.i5.heap.objs.size
 y0:∀b o,X.base.get? b=some o->b∉X.ex
 A4:∀b∈X.ex,b∉X.fs
 lz:X.i5.heap.FunFrames X.base X.outer
 uw:∀b∈X.fs,X.nZ b=none
structure Inv(X:bH)(pins:ee)(U:List (Option V))(H:af)(s:aW):Prop where
 ok:X.Ok
 os:s.os=X.i5.os
 bare:tI s.gens
 base:iD X.fs X.ex X.nZ H X.i5.heap s.heap
 loc:∃m,s.heap.Ns X.env.locals m/\∀(i:Nat)(x:Str)(v:V),X.N[i]?=some x->U[i]?=some (some v)->OM X.env.scope x->∃u,RelV v u/\Look X.env s.heap m x u
 cell:∀x c,X.env.cells.lookup x=some c->∃v,s.heap.IsCell c v
 free:H X.env.locals=none
 oc:∀x c,X.env.cells.lookup x=some c->H c=none
 pin:∀p∈X.fA++pins,s.heap.get? p.1=some p.2/\H p.1=none/\p.1≠X.env.locals/\p.1∉X.fs/\∀v,p.2.data≠.cell v
 bo:gb X.prog X.w H s.heap
 len:U.length=X.N.length
section
variable{X:bH}{pins:ee}{U:List (Option V)}{H H':af}{s:aW}{h':Heap}
theorem bH.Ok.aq4(ok:X.Ok){b:Addr}(e:X.base.get? b=some o):b∉X.fs:=λa=>by have:=(ok.lz.mem a).1;rw[e]at this;cases this
theorem Inv.bs(I:Inv X pins U H s):∀b o,X.base.get? b=some o->s.heap.get? b=some o/\H b=none:=λb o e=>
 #[I.base.keep b o (I.ok.bs b o e).1 (I.ok.bs b o e).2 (I.ok.aq4 e) (I.ok.y0 b o e),I.base.free b o (I.ok.bs b o e).1 (I.ok.bs b o e).2 (I.ok.y0 b o e)]
theorem Inv.hh(I:Inv X pins U H s):∀b o,X.base.get? b=some o->s.heap.get? b=some o:=λb o e=>(I.bs b o e).1
theorem Inv.mod(I:Inv X pins U H s):Mod X.K X.mg X.base:=I.ok.mod
theorem Inv.eL(I:Inv X pins U H s):X.K.In s.heap:=I.ok.mod.sY.keeps I.hh
theorem Inv.lt(I:Inv X pins U H s):X.env.locals<s.heap.objs.size:=let⟨_,a,_⟩:=I.loc;a.lt
theorem Inv.nQ(I:Inv X pins U H s):X.i5.heap.objs.size<=s.heap.objs.size:=dX I.ok.above (mi I.lt)
theorem Inv.aq6(I:Inv X pins U H s){a:Addr}(h:s.heap.objs.size<=a):a∉X.fs:=λb=>by obtain⟨_,o,aX,_⟩:=I.ok.lz.mem b;exact bG (jx (dN aX) (dX I.nQ h)) (t7 _)
theorem Inv.q5(I:Inv X pins U H s):∀x c,X.env.cells.lookup x=some c->c≠X.env.locals:=λx c e z=>by obtain⟨v,o,aX,a⟩:=I.cell x c e;obtain⟨m,⟨f,h,g,d,b,_⟩,_⟩:=I.loc;rw[z,d]at aX;cases aX;rw[b]at a;cases a
theorem Inv.lz(I:Inv X pins U H s):s.heap.FunFrames X.base X.outer:=by
 have all:∀(l:List Env),(∀b∈fY l,b∈X.fs)->X.i5.heap.FunFrames X.base l->s.heap.FunFrames X.base l:=by
  intro l
  induction l with
  |nil=>intro _ _;trivial
  |cons env r i=>
   intro f m;obtain⟨h,⟨L,o,c,g,aX,n⟩,k⟩:=m;have d:L∈X.fs:=f L (by unfold fY;rw[Ir,c];exact vD);obtain⟨p,e⟩:=I.base.slot L o aX (I.ok.uw L d) d λz=>I.ok.A4 L z d;show#[h,#[L,_,c,g,e,n],i (λb a=>f b (by unfold fY;rw[Ir,c];exact n3 _ a)) k]
 exact all X.outer (λ_ a=>a) I.ok.lz
theorem Inv.stack(I:Inv X pins U H s):s.heap.FunFrames X.base X.stack:=by
 rcases I.ok.th with e|⟨e,i⟩
 .rw[e];exact I.lz
 rw[e];obtain⟨m,a,_⟩:=I.loc;refine .cons (by rw[I.ok.kind];decide) i a ?_ I.lz;exact W4 (dX I.ok.sr I.ok.above)
theorem Inv.GD(I:Inv X pins U H s):∀b∈fY X.stack,b∈X.env.locals::X.fs:=λb a=>by
 rcases I.ok.th with e|⟨e,i⟩
 .rw[e]at a;exact n3 _ a
 rw[e]at a;unfold fY at a;rw[Ir,i]at a;exact a
theorem Inv.LG(I:Inv X pins U H s):∀b∈fY X.stack,H b=none:=λb a=>by
 rcases dr.mp (I.GD b a)with e|a
 .rw[e];exact I.free
 obtain⟨_,o,aX,_⟩:=I.ok.lz.mem a;exact I.base.free b o aX (I.ok.uw b a) λz=>I.ok.A4 b z a
theorem Inv.step{g':Array GenState}{t':Nat}{d':Drawn}{ch:bL}(I:Inv X pins U H s)(jl:∀b∈ch,(b∈X.ex\/X.i5.heap.objs.size<=b)/\b≠X.env.locals/\(∀x c,X.env.cells.lookup x=some c->c≠b)/\∀p∈X.fA++pins,p.1≠b)(h:∀b o,b≠X.env.locals->b∉X.fs->b∉ch->s.heap.get? b=some o->H b=none->h'.get? b=some o)(w:∀b o,b≠X.env.locals->b∈X.fs->b∉ch->s.heap.get? b=some o->H b=none->∃E,h'.get? b=some {o with slots:=E})(f:∀b o,b∉ch->s.heap.get? b=some o->H b=none->H' b=none)(K:∀b o,b∉ch->s.heap.get? b=some o->∃N,h'.get? b=some N)(gz:∀b y,H b=some (.tup y)->H' b=some (.tup y))(jH:∀b o u,H b=some (.fc o u)->H' b=some (.fc o u))(kb:∀b D,H b=some (.rQ D)->∃j,H' b=some (.rQ (D++j)))(ns:∀m,s.heap.Ns X.env.locals m->h'.Ns X.env.locals m)(Y:gb X.prog X.w H' h')(T:tI g'):
  Inv X pins U H' {s with heap:=h',gens:=g',drawn:=d',toks:=t'}:=by
 have P:∀b o,X.i5.heap.get? b=some o->b≠X.env.locals:=λb o e=>eT (jx (dN e) I.ok.above);have C:∀b o,X.i5.heap.get? b=some o->b∉X.ex->b∉ch:=λb o e a A=>by
  rcases(jl b A).1 with z|z
  .exact a z
  exact bG (jx (dN e) z) (t7 _)
 have g:∀x c,X.env.cells.lookup x=some c->∀v,s.heap.IsCell c v->h'.IsCell c v:=λx c e v⟨o,aX,F⟩=>by
  have B:c∉ch:=λz=>(jl c z).2.2.1 x c e rfl;by_cases J:c∈X.fs
  .obtain⟨E,q⟩:=w c o (I.q5 x c e) J B aX (I.oc x c e);show#[_,q,F]
  show#[o,h c o (I.q5 x c e) J B aX (I.oc x c e),F]
 show#[I.ok,I.os,T,#[λb o e n A a=>?_,λb o e n A a=>?_,λb o e n a=>?_,λb o e a=>?_,λb y e=>gz b y (I.base.gz b y e),λb o y e=>jH b o y (I.base.jH b o y e),λb D e=>?_],?_,λx c e=>?_,?_,λx c e=>?_,λp G=>?_,Y,I.len]
 .exact h b o (P b o e) A (C b o e a) (I.base.keep b o e n A a) (I.base.free b o e n a)
 .obtain⟨E,t⟩:=I.base.slot b o e n A a;obtain⟨pj,L⟩:=w b _ (P b o e) A (C b o e a) t (I.base.free b o e n a);show#[pj,L]
 .obtain⟨N,t⟩:=I.base.there b o e a;exact f b N (C b o e a) t (I.base.free b o e n a)
 .obtain⟨N,t⟩:=I.base.there b o e a;exact K b N (C b o e a) t
 .obtain⟨kv,t⟩:=I.base.kb b D e;obtain⟨nF,L⟩:=kb b _ t;show#[kv++nF,by rw[L,V0]]
 .obtain⟨m,Q,R⟩:=I.loc;show#[m,ns m Q,λi x v t L Z=>?_];obtain⟨u,r,l⟩:=R i x v t L Z;show#[u,r,?_];rcases l with l|⟨k,c,e,z⟩
  .exact .inl l
  exact .inr #[k,c,e,g x c e _ z]
 .obtain⟨v,z⟩:=I.cell x c e;show#[v,g x c e v z]
 .obtain⟨m,⟨o,_,_,aX,_⟩,_⟩:=I.loc;exact f _ o (λz=>(jl _ z).2.1 rfl) aX I.free
 .obtain⟨v,o,aX,F⟩:=I.cell x c e;exact f c o (λz=>(jl c z).2.2.1 x c e rfl) aX (I.oc x c e)
 obtain⟨e,n,O,M,d⟩:=I.pin p G;have B:p.1∉ch:=λz=>(jl p.1 z).2.2.2 p G rfl;show#[h p.1 p.2 O M B e n,f p.1 p.2 B e n,O,M,d]
theorem Inv.un{t':Nat}(I:Inv X pins U H s)(u:iD X.fs [] H H' s.heap h')(d:gb X.prog X.w H' h'):Inv X pins U H' {s with heap:=h',toks:=t'}:=by
 obtain⟨m,⟨o,y,w,aX,r⟩,_⟩:=id I.loc;obtain⟨p,h⟩:=u.any aX I.free (by simp);exact I.step (g':=s.gens) (d':=s.drawn) (ch:=[]) (λ_ z=>nomatch z) (λb o _ a _ e n=>u.keep b o e n a (by simp)) (λb o _ a _ e n=>u.slot b o e n a (by simp)) (λb o _ e n=>u.free b o e n (by simp)) (λb o _ e=>u.there b o e (by simp)) u.gz u.jH u.kb (λA g=>by
  obtain⟨t,l,k,c,f⟩:=g;rw[aX]at c;cases c;show#[_,l,k,h,f]) d I.bare
theorem Inv.call{g':Array GenState}{t':Nat}{d':Drawn}{ch:bL}(I:Inv X pins U H s)(u:iD (fY X.stack) ch H H' s.heap h')(k:gb X.prog X.w H' h')(h:tI g')(jl:∀b∈ch,(b∈X.ex\/X.i5.heap.objs.size<=b)/\b≠X.env.locals/\(∀x c,X.env.cells.lookup x=some c->c≠b)/\∀p∈X.fA++pins,p.1≠b):
  Inv X pins U H' {s with heap:=h',gens:=g',drawn:=d',toks:=t'}:=by
 obtain⟨m,⟨o,N,L,aX,r⟩,_⟩:=id I.loc;obtain⟨A,d⟩:=u.any aX I.free λz=>(jl _ z).2.1 rfl;exact I.step (ch:=ch) jl (λb o d g a e n=>u.keep b o e n (λz=>(dr.mp (I.GD b z)).elim d g) a) (λb o _ _ a e n=>u.any e n a) (λb o a e n=>u.free b o e n a) (λb o a e=>u.there b o e a) u.gz u.jH u.kb (λi t=>by
  obtain⟨K,y,w,f,l⟩:=t;rw[aX]at f;cases f;show#[_,y,w,d,l]) k h
theorem Inv.turned{t':Nat}{a:Addr}(I:Inv X pins U H s)(k:∀b o,b≠a->s.heap.get? b=some o->h'.get? b=some o)(h:H a=none)(f:a≠X.env.locals)(t:a∈X.ex\/X.i5.heap.objs.size<=a)(w:∀x c,X.env.cells.lookup x=some c->c≠a)(y:∀p∈X.fA++pins,p.1≠a):Inv X pins U H {s with heap:=h',toks:=t'}:=by
 have g:∀b u,H b=some u->b≠a:=λb u e z=>by rw[z,h]at e;cases e
 refine I.step (g':=s.gens) (d':=s.drawn) (ch:=[a]) (λb l=>?_) (λb o _ _ d e _=>k b o (λz=>d (by simp[z])) e) (λb o _ _ d e _=>#[o.slots,k b o (λz=>d (by simp[z])) e]) (λ_ _ _ _ n=>n)
  (λb o d e=>#[o,k b o (λz=>d (by simp[z])) e]) (λ_ _ e=>e) (λ_ _ _ e=>e) (λb N e=>#[#[],by rw[e];simp]) (λm L=>?_) (λb u e=>?_) I.bare
 .have e:b=a:=by simpa using l
  subst e;show#[t,f,w,y]
 .obtain⟨o,K,A,aX,r⟩:=L;show#[o,K,A,k _ o (dY f) aX,r]
 refine(I.bo b u e).nP (λc v d q=>k c v ?_ q) (λ_ q=>q) λ_ _ q=>q;rcases d with z|z
 .rw[z];exact g b u e
 exact g c _ z
theorem Inv.tok(I:Inv X pins U H s)(t:Nat):Inv X pins U H {s with toks:=t}:=I.un (h':=s.heap) (t':=t) iD.refl I.bo
theorem Inv.kept{t':Nat}(I:Inv X pins U H s)(k:∀b u,s.heap.get? b=some u->h'.get? b=some u):Inv X pins U H {s with heap:=h',toks:=t'}:=I.un (iD.kept k) (I.bo.kept k)
theorem Inv.laid{a:Addr}{t':Nat}(I:Inv X pins U H s)(k:∀b u,s.heap.get? b=some u->h'.get? b=some u)(c:s.heap.objs.size<=a)(d:fk X.prog X.w (upd H a o) h' a o):
  Inv X pins U (upd H a o) {s with heap:=h',toks:=t'}:=I.un (iD.laid k c (I.bo.fresh c)) (I.bo.laid k c d)
theorem Inv.write{x:Addr}{t':Nat}(I:Inv X pins U H s)(b9:DO (H x))(d:e=x\/H e=some (.own x))(k:∀b u,b≠e->s.heap.get? b=some u->h'.get? b=some u)(c:∃u,h'.get? e=some u)(a:fk X.prog X.w (upd H x o) h' x o):Inv X pins U (upd H x o) {s with heap:=h',toks:=t'}:=I.un (iD.write b9 d k c) (I.bo.write b9 d k c a)
theorem Inv.Ů{a:ee}(I:Inv X pins U H s)(h:∀p∈a,s.heap.get? p.1=some p.2/\H p.1=none/\p.1≠X.env.locals/\p.1∉X.fs/\∀v,p.2.data≠.cell v):Inv X a U H s:=
 #[I.ok,I.os,I.bare,I.base,I.loc,I.cell,I.free,I.oc,λp b=>(hy.mp b).elim (λz=>I.pin p (z8 _ z)) (h p),I.bo,I.len]
theorem Vz{N:cK}(f:N.Nodup){i j:Nat}(a:N[i]?=some x)(b:N[j]?=some x):i=j:=by obtain⟨g,d⟩:=gn.mp a;obtain⟨h,c⟩:=gn.mp b;exact(DA f).mp (d.trans c.symm)
theorem aba{M:n7}{E:cW}{i:Nat}{Q:Unit->aW->Prop}(I:Inv X pins U H s)(gv:X.N.Nodup)(C:X.N[i]?=some x)(w:Loc X.env.scope x)(r:RelV v u)(h:∀s',Inv X pins (U.set i (some v)) H s'->(∃a,kE a s.heap s'.heap/\(a=X.env.locals\/X.env.cells.lookup x=some a))->Q () s')(bV:X.fn x=true\/X.env.scope.names.lookup x=some .local:=by first|exact .inl rfl|exact .inr rfl|assumption):aT M A (storeName X.env x u) Q E s:=by
 obtain⟨m,P,ax⟩:=id I.loc;have QO:(X.env.scope.kind==.class||(X.env.scope.kind==.module&&X.env.locals !=X.env.globals))=false:=by rw[I.ok.kind];rfl
 have Kb:i<U.length:=by rw[I.len];exact(gn.mp C).1
 have q5:=I.q5;have l:∀{a:Addr}{h':Heap},(∃o,s.heap.get? a=some o/\H a=none)->kE a s.heap h'->gb X.prog X.w H h':=λ{a h'}az f b ob e=>by
  obtain⟨_,_,J_⟩:=az;refine(I.bo b ob e).nP (λc D t q=>(f.2 c ?_).trans q) (λ_ q=>q) λ_ _ q=>q;rintro rfl;rcases t with rfl|t
  .rw[J_]at e;cases e
  rw[J_]at t;cases t
 rcases w with L|L
 .refine wpAny_storeName_local L P (λh' kr f=>?_) QO;obtain⟨Y,_,_,T,_⟩:=id P;refine h _ #[I.ok,I.os,I.bare,#[λb o e n N w=>?_,λb o e n N w=>?_,I.base.free,λb o e w=>?_,I.base.gz,I.base.jH,I.base.kb],#[_,kr,λj y iy g K c6=>?_],λy c e=>?_,I.free,I.oc,λp O=>?_,l #[Y,T,I.free] f,by simpa using I.len] #[_,f,.inl rfl]
  .exact(f.2 b (eT (jx (dN e) I.ok.above))).trans (I.base.keep b o e n N w)
  .obtain⟨Z,g⟩:=I.base.slot b o e n N w;show#[Z,(f.2 b (eT (jx (dN e) I.ok.above))).trans g]
  .obtain⟨cY,g⟩:=I.base.there b o e w;show#[cY,(f.2 b (eT (jx (dN e) I.ok.above))).trans g]
  .by_cases B:j=i
   .subst B;rw[C]at g;cases g;rw[X6 Kb]at K;cases K;show#[u,r,.inl #[L,by simp]]
   rw[X5 (dY B)]at K;obtain⟨u',dJ,q⟩:=ax j y iy g K c6;show#[u',dJ,?_];rcases q with⟨k,e⟩|⟨k,c,e,z⟩
   .refine .inl #[k,?_];have:y≠x:=λe=>B (Vz gv g (e▸C));simp[this,e]
   exact .inr #[k,c,e,z.sameBut f (q5 y c e)]
  .obtain⟨D,z⟩:=I.cell y c e;show#[D,z.sameBut f (q5 y c e)]
  obtain⟨e,n,F,g_,d⟩:=I.pin p O;show#[(f.2 p.1 F).trans e,n,F,g_,d]
 have J:X.fn x=true:=by
  rcases bV with z|z
  .exact z
  rw[z]at L;cases L
 obtain⟨c,t⟩:=I.ok.has x (.inl L);obtain⟨D,z⟩:=I.cell x c t;refine wpAny_storeName_cell I.ok.kind L t z (λh' lC f=>?_);obtain⟨k6,Ĥ,R⟩:=id z;refine h {s with heap:=h'} #[I.ok,I.os,I.bare,#[λb o e n N w=>?_,λb o e n N w=>?_,I.base.free,λb o e w=>?_,I.base.gz,I.base.jH,I.base.kb],#[m,P.sameBut f (dY (q5 x c t)),λj y iy g K c6=>?_],λy G e=>?_,I.free,I.oc,λp O=>?_,l #[k6,Ĥ,I.oc x c t] f,by simpa using I.len] #[c,f,.inr t]
 .exact(f.2 b (eT (jx (dN e) (I.ok.x5 x c J t)))).trans (I.base.keep b o e n N w)
 .obtain⟨Z,g⟩:=I.base.slot b o e n N w;show#[Z,(f.2 b (eT (jx (dN e) (I.ok.x5 x c J t)))).trans g]
 .obtain⟨cY,g⟩:=I.base.there b o e w;show#[cY,(f.2 b (eT (jx (dN e) (I.ok.x5 x c J t)))).trans g]
 .by_cases B:j=i
  .subst B;rw[C]at g;cases g;rw[X6 Kb]at K;cases K;show#[u,r,.inr #[.inl L,c,t,lC]]
  rw[X5 (dY B)]at K;obtain⟨u',dJ,q⟩:=ax j y iy g K c6;show#[u',dJ,?_];rcases q with q|⟨k,G,e,dK⟩
  .exact .inl q
  refine .inr #[k,G,e,dK.sameBut f ?_];rintro rfl;exact B (Vz gv g (I.ok.inj _ _ _ e t▸C))
 .by_cases č:G=c
  .subst č;show#[_,lC]
  obtain⟨jr,a5⟩:=I.cell y G e;show#[jr,a5.sameBut f č]
 obtain⟨e,n,F,g_,d⟩:=I.pin p O;show#[(f.2 p.1 ?_).trans e,n,F,g_,d];intro q;rw[q,Ĥ]at e;have hW:k6=p.2:=hI e;exact d D (by rw[<-hW];exact R)
theorem LS{M:n7}{E:cW}{i:Nat}{Q:Unit->aW->Prop}(I:Inv X pins U H s)(d:X.N.Nodup)(f:X.N[i]?=some x)(b:Loc X.env.scope x)(r:RelV v u)(h:∀a,Inv X pins (U.set i (some v)) H a->Q () a)(c:X.fn x=true\/X.env.scope.names.lookup x=some .local:=by first|exact .inl rfl|exact .inr rfl|assumption):aT M A (storeName X.env x u) Q E s:=
 aba I d f b r (λa g _=>h a g) c
theorem Inv.Pu{s':aW}{ch:bL}(I:Inv X pins U H s)(aX:s'.os=s.os)(u:iD (fY X.stack) ch H H' s.heap s'.heap)(d:gb X.prog X.w H' s'.heap)(a:tI s'.gens)(jl:∀b∈ch,(b∈X.ex\/X.i5.heap.objs.size<=b)/\b≠X.env.locals/\(∀x c,X.env.cells.lookup x=some c->c≠b)/\∀p∈X.fA++pins,p.1≠b):Inv X pins U H' s':=by obtain⟨h',g',d',t',f⟩:=s';have e:f=s.os:=aX;subst e;exact I.call (g':=g') (t':=t') (d':=d') u d a jl
end
noncomputable abbrev bY:=Value->Option Addr->af->Prop
noncomputable abbrev St:=List (Option V)
noncomputable abbrev a4:=V->af->Prop
noncomputable abbrev TE:=St->af->a4->Prop
noncomputable abbrev iW:=St->af->(Bool->af->Prop)->Prop
noncomputable abbrev gf:=St->af->(List V->af->Prop)->Prop
structure Ends where
 di:St->af->Prop
 u2:a4
 hh:St->af->Prop:=λ_ _=>False
 fv:St->af->Prop:=λ_ _=>False
noncomputable abbrev fO:=Ends->St->af->Prop
noncomputable def iT(X:bH)(a:ee)(U:St)(Q:a4)(u:Value)(b:aW):Prop:=∃v H',Inv X a U H' b/\RelV v u/\Q v H'
noncomputable def IP(X:bH)(a:ee)(U:St)(Q:Bool->af->Prop)(b:Bool)(c:aW):Prop:=∃H',Inv X a U H' c/\Q b H'
noncomputable def VM(X:bH)(a:ee)(U:St)(Q:List V->af->Prop)(c:dx)(b:aW):Prop:=∃vs H',Inv X a U H' b/\de vs c/\Q vs H'
noncomputable def vS(X:bH)(a:ee)(D:Ends)(f:Flow)(c:aW):Prop:=
 match f with
 |.next=>∃b H',Inv X a b H' c/\D.di b H'
 |.brk=>∃b H',Inv X a b H' c/\D.hh b H'
 |.cont=>∃b H',Inv X a b H' c/\D.fv b H'
 |.ret u=>∃v b H',Inv X a b H' c/\RelV v u/\D.u2 v H'
noncomputable def bA(X:bH)(e:Expr)(t:TE):Prop:=
 ∀(a:ee)(s:aW)(U:St)(H:af)(Q:a4),Inv X a U H s->t U H Q->aT (bg X.prog X.w) X.A (eval e X.env) (iT X a U Q) X.er s
noncomputable def m8(X:bH)(e:Expr)(t:iW):Prop:=
 ∀(a:ee)(s:aW)(U:St)(H:af)(Q:Bool->af->Prop),Inv X a U H s->t U H Q->aT (bg X.prog X.w) X.A (E6 e X.env (eval e X.env)) (IP X a U Q) X.er s
noncomputable def kJ(X:bH)(e:Expr)(t:iW):Prop:=
 ∀(b:Sem Value)(a:ee)(s:aW)(U:St)(H:af)(Q:Bool->af->Prop),Inv X a U H s->t U H Q->aT (bg X.prog X.w) X.A (E6 e X.env b) (IP X a U Q) X.er s
theorem kJ.pt{t:iW}(h:kJ X e t):m8 X e t:=h _
noncomputable def hg(X:bH)(c:h3)(t:gf):Prop:=
 ∀(b:Pos)(a:ee)(s:aW)(U:St)(H:af)(Q:List V->af->Prop),Inv X a U H s->t U H Q->aT (bg X.prog X.w) X.A (spliced (hJ b (d2 c X.env))) (VM X a U Q) X.er s
noncomputable def h2(X:bH)(st:Stmt)(t:fO):Prop:=
 ∀(a:ee)(s:aW)(U:St)(H:af)(D:Ends),Inv X a U H s->t D U H->aT (bg X.prog X.w) X.A (exec st X.env) (vS X a D) X.er s
noncomputable def h8(X:bH)(st:List Stmt)(t:fO):Prop:=
 ∀(a:ee)(s:aW)(U:St)(H:af)(D:Ends),Inv X a U H s->t D U H->aT (bg X.prog X.w) X.A (execs st X.env) (vS X a D) X.er s
theorem bU{c:Type}{t:Sem c}{Q b:c->aW->Prop}{M:n7}{E:cW}(h:aT M A t Q E s)(d:∀a s,Q a s->b a s):aT M A t b E s:=ih h d λ_ _ x=>x
section
variable{X:bH}
theorem bin{m l:TE}(r:bA X a m)(p:bA X b l){R:V->V->af->Prop}(I:Inv X pins U H s)(h:m U H λx g=>l U g λy c=>R x y c){n:Type}{Q:n->aW->Prop}{f:Value->Value->Sem n}(z:∀v u d x y c,Inv X pins U c d->RelV x v->RelV y u->R x y c->aT (bg X.prog X.w) X.A (f v u) Q X.er d):
  aT (bg X.prog X.w) X.A (eval a X.env) (λv L=>aT (bg X.prog X.w) X.A (eval b X.env) (λu i=>aT (bg X.prog X.w) X.A (f v u) Q X.er i) X.er L) X.er s:=by refine bU (r pins s U H _ I h) λv e k=>?_;obtain⟨x,g,o,A,t⟩:=k;refine bU (p pins e U g _ o t) λu d k=>?_;obtain⟨y,c,w,N,K⟩:=k;exact z v u d x y c w A N K
inductive xl(i:Nat)(U:ao.St)(H:af)(Q:a4):Prop where
 |mk(v:_)(_:U[i]?=some (some v))(_:Q v H)
noncomputable def tk(v:V):TE:=λ_ H Q=>Q v H
theorem aiM{i:Nat}(o:X.N[i]?=some x)(n:OM X.env.scope x)(f:(x==("__debug__":Str))=false:=by decide)(t:(x==("__classdict__":Str))=false:=by decide):bA X (.Name x pos) (xl i):=by
 intro d s U H Q I h;obtain⟨v,e,h⟩:=h;obtain⟨m,g,k⟩:=I.loc;obtain⟨u,r,l⟩:=k i x v o e n;have b:iT X d U Q u s:=#[v,H,I,r,h]
 rcases l with⟨a,p⟩|⟨a,c,j,q⟩
 .exact aaJ (wpAny_loadName_local I.ok.kind a g p b) f
 rcases a with a|a
 .exact aaJ (wpAny_loadName_cell I.ok.kind a j q b) f
 exact aaJ (wpAny_loadName_free I.ok.kind a j q b t) f
theorem aZ{i j pos}:bA X (.Constant (.int i) j pos) (tk (.int i)):=λ_ _ _ H _ I h=>wpAny_Constant_int #[.int i,H,I.tok _,#[_,rfl],h]
theorem iK{b j pos}:bA X (.Constant (.bool b) j pos) (tk (.aV b)):=λ_ _ _ H _ I h=>Constant_bool #[.aV b,H,I,rfl,h]
theorem kT{j pos}:bA X (.Constant .none j pos) (tk .b3):=λ_ _ _ H _ I h=>Constant_none #[.b3,H,I,rfl,h]
theorem cn{x j pos}:bA X (.Constant (.str x) j pos) (tk (.str x)):=λ_ _ _ H _ I h=>Calls.Constant_str #[.str x,H,I.tok _,#[_,rfl],h]
noncomputable def jb(X:bH)(x:Str):Prop:=X.env.kindOf x=some .globalImplicit
theorem s3{E:cW}{Q:cW}(I:Inv X pins U H s)(a:jb X x)(c:X.mg x=some u)(h:Q u s)(b:(x==("__debug__":Str))=false:=by decide):aT (bg X.prog X.w) X.A (eval (.Name x pos) X.env) Q E s:=
 abB I.ok.kind a (Calls.loadGlobal_global (by rw[I.ok.glob];exact I.mod.glob.keeps I.hh) c h) b
theorem zq{E:cW}{Q:cW}(I:Inv X pins U H s)(d:jb X x)(k:X.mg x=none)(f:iX x=some u)(h:Q u s)(a:x≠"__name__":=by decide)(g:(x==("__debug__":Str))=false:=by decide):aT (bg X.prog X.w) X.A (eval (.Name x pos) X.env) Q E s:=by obtain⟨l,b,c⟩:=I.mod.blt;exact abB I.ok.kind d (Calls.loadGlobal_builtin (by rw[I.ok.glob];exact I.mod.glob.keeps I.hh) k (by rw[I.ok.blt];exact b.keeps I.hh) ((c x a).trans f) h) g
theorem Xq(a:jb X x)(c:X.mg x=some u)(r:RelV v u)(b:(x==("__debug__":Str))=false:=by decide):bA X (.Name x pos) (tk v):=
 λ_ _ _ H _ I h=>s3 I a c #[v,H,I,r,h] b
theorem aha(b:jb X x)(f:X.mg x=none)(c:iX x=some u)(r:RelV v u)(a:x≠"__name__":=by decide)(d:(x==("__debug__":Str))=false:=by decide):bA X (.Name x pos) (tk v):=
 λ_ _ _ H _ I h=>zq I b f c #[v,H,I,r,h] a d
variable{a b:Expr}{cq bj:TE}{pos:Pos}
noncomputable def DS(X:bH)(f:CmpOp)(a b:Expr)(t:TE):Prop:=
 ∀(c:ee)(s:aW)(U:St)(H:af)(Q:a4),Inv X c U H s->t U H Q->
  aT (bg X.prog X.w) X.A (eval a X.env) (λv d=>aT (bg X.prog X.w) X.A (eval b X.env) (λu g=>aT (bg X.prog X.w) X.A (ki f v u) (iT X c U Q) X.er g) X.er d) X.er s
theorem Wv(b:Expr){c:CmpOp}(h:c≠.In)(g:c≠.NotIn):x2 c b=false:=by
 have f:(c==CmpOp.In)=false:=by cases c<;>first|rfl|exact bG rfl h
 have d:(c==CmpOp.NotIn)=false:=by cases c<;>first|rfl|exact bG rfl g
 cases b<;>simp[x2,f,d]
inductive Xp(x:V)(H1:af)(Q:Bool->af->Prop):Prop where
 |mk(c:_)(_:x=.aV c)(_:Q c H1)
noncomputable def aap(t:TE):iW:=λU H Q=>t U H λx c=>Xp x c Q
theorem aiN{d:CmpOp}{t:TE}(h:DS X d a b t)(f:x2 d b=false:=by first|exact Wv _ (by decide) (by decide)|rfl):bA X (.Compare a [d] [b] pos) t:=λc s U H Q I g=>asW (h c s U H Q I g) f
theorem Hh{k:CmpOp}{t:TE}(h:DS X k a b t)(g:x2 k b=false:=by first|exact Wv _ (by decide) (by decide)|rfl):m8 X (.Compare a [k] [b] pos) (aap t):=by intro f s U H Q I w;refine as0 (bU (h f s U H _ I w) λv z g=>bU g λu A o=>bU o λc y m=>?_) g;obtain⟨x,l,n,r,p⟩:=m;obtain⟨d,rfl,q⟩:=p;cases r;exact rW #[l,n,q]
theorem kU{e:Expr}{t:TE}(h:bA X e t)(o:∀c,E6 e X.env c=(do let v <-c;wZ e.pos;uK [v] (truthy v)):=by intro _;rfl):m8 X e (aap t):=by intro f s U H Q I p;refine isTrue_plain (bU (h f s U H _ I p) λv r k=>?_) (o _);obtain⟨x,g,l,n,m⟩:=k;obtain⟨d,rfl,q⟩:=m;cases n;exact rW #[g,l,q]
variable{tj LH:iW}{rest:h3}
noncomputable def ami(t u:iW):iW:=λU H Q=>t U H λc d=>if c=true then u U d Q else Q false d
noncomputable def ass(t u:iW):iW:=λU H Q=>t U H λc d=>if c=true then Q true d else u U d Q
noncomputable def amj(t:iW):iW:=λU H Q=>t U H λc d=>Q (!c) d
theorem GN(f:m8 X a tj):kJ X (.BoolOp .And [a] pos) tj:=by
 intro g d s U H Q I h;refine isTrue_and (bU (f d s U H Q I h) λc k e=>?_);cases c with
 |true=>exact isTrue_and_nil e
 |false=>exact e
theorem CF(f:m8 X a tj):kJ X (.BoolOp .Or [a] pos) tj:=by
 intro g d s U H Q I h;refine isTrue_or (bU (f d s U H Q I h) λc k e=>?_);cases c with
 |false=>exact isTrue_or_nil e
 |true=>exact e
theorem CG(n:m8 X a tj)(m:kJ X (.BoolOp .And (b::rest) pos) LH):kJ X (.BoolOp .And (a::b::rest) pos) (ami tj LH):=by
 intro o d s U H Q I h;refine isTrue_and (bU (n d s U H _ I h) λc p l=>?_);obtain⟨f,g,k⟩:=l;cases c with
 |true=>exact m o d p U f Q g k
 |false=>show#[f,g,k]
theorem zO(n:m8 X a tj)(m:kJ X (.BoolOp .Or (b::rest) pos) LH):kJ X (.BoolOp .Or (a::b::rest) pos) (ass tj LH):=by
 intro o d s U H Q I h;refine isTrue_or (bU (n d s U H _ I h) λc p l=>?_);obtain⟨f,g,k⟩:=l;cases c with
 |true=>show#[f,g,k]
 |false=>exact m o d p U f Q g k
theorem j0(g:m8 X a tj):m8 X (.UnaryOp .Not a pos) (amj tj):=by intro d s U H Q I h;exact isTrue_not (g d s U H (λc f=>Q (!c) f) I h)
noncomputable def Ia(cq bj:TE):TE:=λU H Q=>cq U H λx d=>∃c,x=.aV c/\if c=true then bj U d Q else Q (.aV false) d
noncomputable def amk(cq bj:TE):TE:=λU H Q=>cq U H λx d=>∃c,x=.aV c/\if c=true then Q (.aV true) d else bj U d Q
noncomputable def akh(cq:TE):TE:=λU H Q=>cq U H λx d=>∃c,x=.aV c/\Q (.aV (!c)) d
theorem ta{op}{t:TE}(h:bA X a t):bA X (.BoolOp op [a] pos) t:=λc s U H Q I d=>BoolOp_one (h c s U H Q I d)
theorem o9(n:bA X a cq)(m:bA X (.BoolOp .And (b::rest) pos) bj):bA X (.BoolOp .And (a::b::rest) pos) (Ia cq bj):=by
 intro d s U H Q I h;refine BoolOp_and (bU (n d s U H _ I h) λv p l=>?_);obtain⟨x,g,k,o,f⟩:=l;obtain⟨c,rfl,f⟩:=f;cases o;refine rW ?_;cases c with
 |true=>exact m d p U g Q k f
 |false=>show#[.aV false,g,k,rfl,f]
theorem w6(n:bA X a cq)(m:bA X (.BoolOp .Or (b::rest) pos) bj):bA X (.BoolOp .Or (a::b::rest) pos) (amk cq bj):=by
 intro d s U H Q I h;refine BoolOp_or (bU (n d s U H _ I h) λv p l=>?_);obtain⟨x,g,k,o,f⟩:=l;obtain⟨c,rfl,f⟩:=f;cases o;refine rW ?_;cases c with
 |false=>exact m d p U g Q k f
 |true=>show#[.aV true,g,k,rfl,f]
theorem ai8(m:bA X a cq):bA X (.UnaryOp .Not a pos) (akh cq):=by intro d s U H Q I h;refine UnaryOp_ (bU (m d s U H _ I h) λv o k=>?_);obtain⟨x,g,l,n,f⟩:=k;obtain⟨c,rfl,f⟩:=f;cases n;exact not_of (rW #[.aV (!c),g,l,rfl,f])
end
noncomputable def aQ(K:aN)(H:af)(a:Addr)(c:aO):Prop:=
 fD H a (.lst c)\/
  ∃(o:Obj)(b:mu)(n:Nat),K.lookup a=some o/\o.cls=.type "list"/\o.dict=none/\o.data=.seq b n/\b.size<=sizeLine/\de c b.toList
noncomputable def cV(K:aN)(H:af)(a:Addr)(c:aO):Prop:=
 fD H a (.tup c)\/
  ∃(o:Obj)(b:mu)(n:Nat),K.lookup a=some o/\o.cls=.type "tuple"/\o.data=.seq b n/\b.size<=sizeLine/\de c b.toList
noncomputable def aml:Value->Option V
 |.none=>some .b3
 |.bool b=>some (.aV b)
 |.int i _=>some (.int i)
 |.str x _=>some (.str x)
 |.bytes b _=>some (.AQ b)
 |.float b _=>some (.yk b)
 |.ref a=>some (.ref a)
 |.type n=>some (.ty n)
 |_=>none
theorem RelV.abs(r:RelV x u):aml u=some x:=by
 cases x with
 |b3=>cases r;rfl
 |aV _=>cases r;rfl
 |int _=>obtain⟨t,rfl⟩:=r;rfl
 |str _=>obtain⟨t,rfl⟩:=r;rfl
 |AQ _=>obtain⟨t,rfl⟩:=r;rfl
 |yk _=>obtain⟨t,rfl⟩:=r;rfl
 |ref _=>cases r;rfl
 |ty _=>cases r;rfl
theorem RelV.inj{y:V}(r:RelV x u)(q:RelV y u):x=y:=hI (r.abs.symm.trans q.abs)
theorem de.inj:∀{b c:aO}{a:dx},de b a->de c a->b=c
 |_,_,_,.nil,.nil=>rfl
 |_,_,_,.cons r t,.cons e i=>by rw[r.inj e,de.inj t i]
section
variable{X:bH}{pins:ee}{U:St}{H:af}{s:aW}{a:Addr}{xs ys:aO}
theorem aQ.of{K:aN}(h:H a=some (.lst xs)):aQ K H a xs:=.inl (.inl h)
theorem cV.of{K:aN}(h:H a=some (.tup xs)):cV K H a xs:=.inl (.inl h)
theorem Inv.list(I:Inv X pins U H s)(h:aQ X.K H a xs):∃b:List Value,de xs b/\PlainL s.heap a b.toArray/\xs.length<=sizeLine:=by
 rcases h with h|⟨o,b,n,i,j,hd,hs,aC,r⟩
 .obtain⟨z,b,n,r,e⟩:=h.ok I.bo;show#[b,r,#[_,n,e,rfl,rfl,rfl],z]
 show#[b.toList,r,#[o,n,I.eL a o i,j,hd,by simpa using hs],?_];have e:=r.length;simp only[Ms]at e;omega
theorem Inv.tuple(I:Inv X pins U H s)(h:cV X.K H a xs):∃b:List Value,de xs b/\vz s.heap a b.toArray/\xs.length<=sizeLine:=by
 rcases h with h|⟨o,b,n,i,j,hs,aC,r⟩
 .obtain⟨z,b,r,p⟩:=h.ok I.bo;show#[b,r,p,z]
 show#[b.toList,r,#[o,I.eL a o i,j,n,by simpa using hs],?_];have e:=r.length;simp only[Ms]at e;omega
theorem Inv.R2(I:Inv X pins U H s)(h:aQ X.K H a xs)(m:aQ X.K H a ys):xs=ys:=by
 obtain⟨c,r,⟨o,n,e,_,_,d⟩,_⟩:=I.list h;obtain⟨b,l,⟨p,t,f,_,_,g⟩,_⟩:=I.list m;rw[e]at f;cases f;rw[d]at g;injection g with k _;have:c=b:=by simpa using fa abh k
 subst this;exact r.inj l
theorem Inv.aav(I:Inv X pins U H s)(h:cV X.K H a xs)(m:cV X.K H a ys):xs=ys:=by
 obtain⟨c,r,⟨o,e,_,n,d⟩,_⟩:=I.tuple h;obtain⟨b,l,⟨p,f,_,t,g⟩,_⟩:=I.tuple m;rw[e]at f;cases f;rw[d]at g;injection g with k _;have:c=b:=by simpa using fa abh k
 subst this;exact r.inj l
end
noncomputable abbrev bH.nR(X:bH)(E:cW):bH:={X with er:=E}
noncomputable abbrev bH.wI(X:bH):bH:=X.nR λ_ _=>False
theorem bH.Ok.nR{X:bH}(ok:X.Ok)(E:cW):(X.nR E).Ok:=
 #[ok.mod,ok.kind,ok.glob,ok.blt,ok.above,ok.inj,ok.has,ok.x5,ok.hd,ok.frames,ok.th,ok.JI,ok.bs,ok.sr,ok.y0,ok.A4,ok.lz,ok.uw]
theorem bH.Ok.pw{X:bH}{E:cW}(ok:(X.nR E).Ok):X.Ok:=
 #[ok.mod,ok.kind,ok.glob,ok.blt,ok.above,ok.inj,ok.has,ok.x5,ok.hd,ok.frames,ok.th,ok.JI,ok.bs,ok.sr,ok.y0,ok.A4,ok.lz,ok.uw]
section
variable{X:bH}{pins:ee}{U:St}{H:af}{s:aW}{E:cW}
theorem Inv.nR(I:Inv X pins U H s)(E:cW):Inv (X.nR E) pins U H s:=#[I.ok.nR E,I.os,I.bare,I.base,I.loc,I.cell,I.free,I.oc,I.pin,I.bo,I.len]
theorem Inv.pw(I:Inv (X.nR E) pins U H s):Inv X pins U H s:=#[I.ok.pw,I.os,I.bare,I.base,I.loc,I.cell,I.free,I.oc,I.pin,I.bo,I.len]
theorem vS.pw{D:Ends}{f:Flow}(h:vS (X.nR E) pins D f e):vS X pins D f e:=by
 cases f with
 |next=>obtain⟨a,H',I,q⟩:=h;show#[a,H',I.pw,q]
 |brk=>obtain⟨a,H',I,q⟩:=h;show#[a,H',I.pw,q]
 |cont=>obtain⟨a,H',I,q⟩:=h;show#[a,H',I.pw,q]
 |ret u=>obtain⟨v,a,H',I,r,q⟩:=h;show#[v,a,H',I.pw,r,q]
theorem h8.wI{st:List Stmt}{t:fO}(h:h8 X.wI st t):h8 X st t:=λpins s U H D I a=>
 ih (h pins s U H D (I.nR _) a) (λ_ _ q=>q.pw) λ_ _ z=>ju z
end
section
variable{X:bH}{st:Stmt}{rest:List Stmt}{t u:fO}{e:Expr}{cM:TE}{pos:Pos}
noncomputable def zG:fO:=λD U H=>D.di U H
noncomputable def gN(t u:fO):fO:=λD U H=>t {D with di:=u D} U H
theorem ed:h8 X [] zG:=λ_ _ U H _ I h=>G6 #[U,H,I,h]
theorem a6(b:h2 X st t)(c:h8 X rest u):h8 X (st::rest) (gN t u):=by
 intro a s U H D I h;refine aaK (bU (b a s U H {D with di:=u D} I h) λf g q=>?_);cases f with
 |next=>
  obtain⟨d,H',k,q⟩:=q;exact c a g d H' D k q
 |ret v=>exact q
 |brk=>exact q
 |cont=>exact q
theorem a7(b:h2 X st t):h8 X [st] t:=by
 intro a s U H D I h;refine aaK (bU (b a s U H D I h) λf c q=>?_);cases f with
 |next=>exact G6 q
 |ret v=>exact q
 |brk=>exact q
 |cont=>exact q
theorem Inv.quiet(I:Inv X pins U H s):interactive X.env=false:=by simp[interactive,I.ok.kind]
noncomputable def aki(cM:TE):fO:=λD U H=>cM U H λ_ a=>D.di U a
theorem hj(f:bA X e cM)(g:Cr e none pos.line X.env=pure false:=by rfl):h2 X (.Expr e pos) (aki cM):=by intro a s U H D I h;exact wpAny_Expr_any (bU (f a s U H _ I h) λv l⟨x,b,c,k,d⟩=>#[U,b,c,d]) I.quiet g
noncomputable def xm(cM:TE):fO:=λD U H=>cM U H D.u2
theorem cd(g:bA X e cM):h2 X (.Return (some e) pos) (xm cM):=by intro a s U H D I h;exact wpAny_Return_some (bU (g a s U H _ I h) λv k⟨x,b,c,f,d⟩=>#[x,U,b,c,f,d])
noncomputable def xn(c:iW)(t u:fO):fO:=λD U H=>c U H λb a=>if b=true then t D U a else u D U a
theorem d8{a b:List Stmt}(p:m8 X c i)(r:h8 X a t)(o:h8 X b u):h2 X (.If c a b pos) (xn i t u):=by
 intro f s U H D I h;refine wpAny_If (bU (p f s U H _ I h) λd m n=>?_);obtain⟨g,k,l⟩:=n;cases d with
 |true=>exact r f m U g D k l
 |false=>exact o f m U g D k l
noncomputable def Yx:fO:=λ_ _ _=>False
theorem uO:h2 X st Yx:=λ_ _ _ _ _ _ h=>h.elim
theorem ad1{a:List Stmt}:h8 X a Yx:=λ_ _ _ _ _ _ h=>h.elim
noncomputable abbrev lX:=V->St->af->(St->af->Prop)->Prop
noncomputable abbrev xU:=List V->St->af->(St->af->Prop)->Prop
end
noncomputable def vP(X:bH)(a:Expr)(t:lX):Prop:=
 ∀(b:ee)(s:aW)(U:St)(H:af)(v:V)(u:Value)(Q:St->af->Prop),Inv X b U H s->RelV v u->t v U H Q->
  aT (bg X.prog X.w) X.A (Js a X.env u) (λ_ d=>∃c H',Inv X b c H' d/\Q c H') X.er s
noncomputable def DT(X:bH)(f:h3)(t:xU):Prop:=
 ∀(a:ee)(s:aW)(U:St)(H:af)(vs:aO)(c:dx)(Q:St->af->Prop),Inv X a U H s->de vs c->t vs U H Q->
  aT (bg X.prog X.w) X.A (assignInOrder ((AL f X.env).map (·.2)) c) (λ_ d=>∃b H',Inv X a b H' d/\Q b H') X.er s
section
variable{X:bH}{pos:Pos}
noncomputable def iL(i:Nat):lX:=λv U H Q=>Q (U.set i (some v)) H
theorem fG(i:Nat)(d:X.N.Nodup)(f:X.N[i]?=some x:=by rfl)(b:Loc X.env.scope x:=by first|exact .inl rfl|exact .inr rfl)(c:X.fn x=true\/X.env.scope.names.lookup x=some .local:=by first|exact .inl rfl|exact .inr rfl|assumption):vP X (.Name x pos) (iL i):=by intro a s U H v u Q I r h;exact asY (LS I d f b r (λk g=>#[_,H,g,h]) c)
noncomputable def Af:xU:=λvs U H Q=>vs=[]/\Q U H
inductive rJ(t:lX)(u:xU)(vs:aO)(U:ao.St)(H:af)(Q:(ao.St->af->Prop)):Prop where
 |mk(v:_)(r:_)(_:vs=v::r)(_:t v U H λbu H'=>u r bu H' Q)
theorem GO:DT X [] Af:=by intro a s U H vs b Q I r h;obtain⟨e,h⟩:=h;subst e;cases r;exact assignInOrder_nil #[U,H,I,h]
theorem sW{e:Expr}{b:h3}{t:lX}{u:xU}(k:vP X e t)(l:DT X b u)(n:(AL (e::b) X.env).map (·.2)=Js e X.env::(AL b X.env).map (·.2):=by rfl):DT X (e::b) (rJ t u):=by
 intro a s U H vs y Q I r h;obtain⟨v,w,f,h⟩:=h;subst f;cases r with
 |cons r i=>
  rw[n];refine assignInOrder_cons (bU (k a s U H _ _ _ I r h) λ_ o d=>?_);obtain⟨p,c,g,m⟩:=d;exact l a o p c _ _ Q g i m
inductive xg(K:aN)(n:Nat)(t:xU)(v:ao.V)(U:ao.St)(H:af)(Q:(ao.St->af->Prop)):Prop where
 |mk(a:_)(xs:_)(_:v=.ref a)(_:cV K H a xs)(_:xs.length=n)(_:t xs U H Q)
theorem Yy{k:Nat}{t:xU}{n:Nat}(w:X.calm=true)(h:DT X i t)(l:(AL i X.env).length=n:=by rfl)(N:(AL i X.env).findIdx? (·.1)=none:=by rfl):vP X (.Tuple i k pos) (xg X.K n t):=by intro c s U H v u Q I r d;obtain⟨a,V,g,z,y,d⟩:=d;subst g;cases r;obtain⟨L,f,A,j⟩:=I.tuple z;refine assign_Tuple_tuple (I.ok.hd w) A (by simp[l,<-y,f.length]) N λK p=>?_;have m:Inv X c U H {s with heap:=K}:=I.kept (t':=s.toks) λb o e=>p b o (eT (dN e)) e;exact h c _ U H V _ Q m (by simpa using f) d
noncomputable def vm(b:TE)(g:lX):fO:=λD U H=>b U H λx a=>g x U a D.di
theorem dO(i:Nat)(n:X.N.Nodup)(o:bA X e j)(p:X.N[i]?=some x:=by rfl)(f:Loc X.env.scope x:=by first|exact .inl rfl|exact .inr rfl)(r:Cr e (some (.Name x pos')) pos.line X.env=pure false:=by rfl)(l:X.fn x=true\/X.env.scope.names.lookup x=some .local:=by first|exact .inl rfl|exact .inr rfl|assumption):
  h2 X (.Assign [.Name x pos'] e pos) (vm j (iL i)):=by intro a s U H D I h;refine asV (bU (o a s U H _ I h) λv t c=>?_) r;obtain⟨y,b,d,m,g⟩:=c;exact LS d n p f m (λw k=>#[_,b,k,g]) l
noncomputable def ai9(c:iW)(g:fO):fO:=λD U H=>∃W:Nat->St->af->Prop,(∃m,W m U H)/\∀m U H,W m U H->
 c U H λb a=>if b=true then∃N:St->af->Prop,(∀d H',N d H'->∃f,f<m/\W f d H')/\g {D with di:=N,fv:=N,hh:=D.di} U a else D.di U a
theorem ae7{d:List Stmt}(A:PassesOwn (bg X.prog X.w) X.A X.env X.er)(u:m8 X c C)(q:h8 X d bj):h2 X (.While c d [] pos) (ai9 C bj):=by
 intro a s U H D I h;obtain⟨W,⟨B,J⟩,turn⟩:=h;refine wpAny_While (codeAny_whileLoop (λn E=>∃V H',Inv X a V H' E/\W n V H') ?_ B #[U,H,I,J]);rintro n F ⟨o,z,j,x⟩;refine CP A (bU (u a F o z _ j (turn n o z x)) λb G i=>?_);obtain⟨K,L,l⟩:=i;cases b with
 |true=>
  obtain⟨N,e,l⟩:=l;rw[bS rfl];refine CP A (bU (q a G o K _ L l) λf M m=>?_);cases f with
  |next=>
   obtain⟨k,g,p,y⟩:=m;obtain⟨r,t,w⟩:=e k g y;show#[r,t,k,g,p,w]
  |cont=>
   obtain⟨k,g,p,y⟩:=m;obtain⟨r,t,w⟩:=e k g y;show#[r,t,k,g,p,w]
  |brk=>exact m
  |ret v=>exact m
 |false=>
  rw[bx ha];exact G6 #[o,K,L,l]
structure gB where
 go:Nat->af->Prop
 zJ:Nat->af->V->af->Prop
 stop:Nat->af->Prop
end
noncomputable def vn(X:bH)(a:ee)(H:af)(b:Addr):Prop:=
 H b=none/\b≠X.env.locals/\b∉X.fs/\(b∈X.ex\/X.i5.heap.objs.size<=b)/\(∀x c,X.env.cells.lookup x=some c->c≠b)/\∀p∈X.fA++a,p.1≠b
theorem Inv.sF{H':af}{s:aW}{b:Addr}(I:Inv X pins U H s)(a:s.heap.objs.size<=b)(f:H' b=none):vn X pins H' b:=by
 show#[f,vN (jx I.lt a),I.aq6 a,.inr (dX I.nQ a),λx c e z=>?_,λp d z=>?_]
 .obtain⟨v,q⟩:=I.cell x c e;exact bG (jx q.lt (by rw[z];exact a)) (t7 _)
 exact bG (jx (dN (I.pin p d).1) (by rw[z];exact a)) (t7 _)
structure Turn(P:cx)(w:bf)(K:aN)(ez:Expr)(J:gB)(dc:bL)(it:Addr)(i6:Nat->Heap->Prop):Prop where
 mem:it∈dc
 obj:∀i h,i6 i h->∀b∈dc,∃o,h.get? b=some o/\∀v,o.data≠.cell v
 keep:∀i h h',i6 i h->(∀b∈dc,∀o,h.get? b=some o->h'.get? b=some o)->i6 i h'
 item:∀(X:bH),X.prog=P->X.w=w->X.K=K->X.calm=true->∀(i:Nat)(pins:ee)(s:aW)(U:St)(H:af)(E:cW),Inv X pins U H s->(∀b∈dc,vn X pins H b)->i6 i s.heap->J.go i H->
  aT (bg P w) X.A (kx (.ref it)) (λr s1=>∃u,r=some u/\
   aT (bg P w) X.A (R1 ez (.ref it) u) (λ_ s2=>∃x H',Inv X pins U H' s2/\RelV x u/\J.zJ i H x H'/\i6 (i+1) s2.heap/\∀b∈dc,H' b=none) E s1) E s
 done:∀(X:bH),X.prog=P->X.w=w->X.K=K->X.calm=true->∀(i:Nat)(pins:ee)(s:aW)(U:St)(H:af)(E:cW),Inv X pins U H s->(∀b∈dc,vn X pins H b)->i6 i s.heap->J.stop i H->
  aT (bg P w) X.A (kx (.ref it)) (λr s1=>r=none/\Inv X pins U H s1) E s
 self:∀(A:eu)(i:Nat)(s:aW)(Q:cW)(E:cW),i6 i s.heap->Q (.ref it) s->aT (bg P w) A (FY (.ref it)) Q E s
noncomputable abbrev fi:=St->af->(gB->af->Prop)->Prop
noncomputable def N1(X:bH)(a:ee)(U:St)(k:Expr)(R:gB->af->Prop)(h:Value)(g:aW):Prop:=
 ∃(f:Addr)(c:bL)(d:Nat->Heap->Prop)(J:gB)(H':af),h=.ref f/\Inv X a U H' g/\Turn X.prog X.w X.K k J c f d/\d 0 g.heap/\(∀b∈c,vn X a H' b)/\R J H'
noncomputable def oQ(X:bH)(b iter:Expr)(d:fi):Prop:=
 ∀(a:ee)(s:aW)(U:St)(H:af)(R:gB->af->Prop),Inv X a U H s->d U H R->
  aT (bg X.prog X.w) X.A (eval iter X.env) (λv c=>aT (bg X.prog X.w) X.A (FY v) (N1 X a U b R) X.er c) X.er s
theorem zP{M:n7}{E:cW}{s:aW}{o:Obj}{Q:Unit->aW->Prop}(aX:s.heap.get? it=some o)(c:o.cls=.type n)(d:o.data=.fields vs)(b:["enumerate","zip","dict_itemiterator","dict_reverseitemiterator","odict_iterator","itertools.zip_longest","itertools.pairwise"].contains n=false)(a:Q () s):aT M A (R1 ez (.ref it) u) Q E s:=by
  unfold R1;cases ez<;>first
    |exact bW a
    | (cases u<;>first
        |exact bW a
        | (refine aE (wpAny_load aX ?_)
           rw[c,d];show aT M A (if(["enumerate","zip","dict_itemiterator","dict_reverseitemiterator","odict_iterator","itertools.zip_longest","itertools.pairwise"].contains n&&vs[0]?==some (nO _))=true then _ else _) Q E s;rw[bx (by intro h;rw[b,vk]at h;cases h)];exact bW a))
noncomputable def n2(K:aN)(a:Addr):gB:=
 #[λi H=>∃b x,aQ K H a b/\b[i]?=some x,λi H x H'=>H'=H/\∀b,aQ K H a b->b[i]?=some x,λi H=>∃b,aQ K H a b/\b.length<=i]
noncomputable def Dw(K:aN)(a:Addr):gB:=
 #[λi H=>∃b x,cV K H a b/\b[i]?=some x,λi H x H'=>H'=H/\∀b,cV K H a b->b[i]?=some x,λi H=>∃b,cV K H a b/\b.length<=i]
noncomputable def vA(lo:Int)(n:Nat):gB:=#[λi _=>i<n,λi H x H'=>H'=H/\x=.int (lo+i),λi _=>n<=i]
theorem ad2{w:bf}{K:aN}(a l:Addr):Turn P w K ez (n2 K a) [l] l (λi h=>h.IsListIter l a i)where
 mem:=by simp
 obj:=λi h st b g=>by
  have e:b=l:=by simpa using g
  subst e;obtain⟨o,e,c,d⟩:=st;show#[o,e,λv z=>by rw[d]at z;cases z]
 keep:=λi h r st k=>st.at λo e=>k l (by simp) o e
 item:=by intro X C D q G i f s U H E I m st y;subst C D q;obtain⟨xs,x,n,t⟩:=y;obtain⟨F,A,p,M⟩:=I.list n;obtain⟨u,Y,Z⟩:=A.get t;obtain⟨N,V,f2,L,j,B⟩:=m l (by simp);refine wpAny_pyNext_list_item st p.isList (x:=u) (by simpa using Y) λr J R=>?_;have O:Inv X f U H {s with heap:=r}:=I.turned (t':=s.toks) (λb o g e=>(R.2 b g).trans e) N V L j B;obtain⟨o,e,c,d⟩:=id J;show#[u,rfl,zP (s:={s with heap:=r}) e c d (by decide) #[x,H,O,Z,#[rfl,λys Q=>by rw[I.R2 Q n];exact t],J,λb g=>(m b g).1]]
 done:=by intro X C D q G i f s U H E I m st y;subst C D q;obtain⟨xs,n,t⟩:=y;obtain⟨F,A,p,M⟩:=I.list n;obtain⟨N,V,f2,L,j,B⟩:=m l (by simp);have ax:=A.length;exact wpAny_pyNext_list_end (I.ok.hd G) st p.isList (by simp;omega) λr T=>#[rfl,I.turned (t':=s.toks) (λb o g e=>T b o g e) N V L j B]
 self:=λ_ _ _ _ _ st h=>wpAny_pyIter_listiter st h
theorem ab5{w:bf}{K:aN}(a l:Addr):Turn P w K ez (Dw K a) [l] l (λi h=>h.IsTupleIter l a i)where
 mem:=by simp
 obj:=λi h st b g=>by
  have e:b=l:=by simpa using g
  subst e;obtain⟨o,e,c,d⟩:=st;show#[o,e,λv z=>by rw[d]at z;cases z]
 keep:=λi h t st k=>st.at λo e=>k l (by simp) o e
 item:=by intro X D F B G i f s U H E I n st A;subst D F B;obtain⟨xs,x,r,y⟩:=A;obtain⟨m,L,p,M⟩:=I.tuple r;obtain⟨u,Y,Z⟩:=L.get y;obtain⟨V,j,f2,N,q,C⟩:=n l (by simp);refine wpAny_pyNext_tuple_item st (show s.heap.IsTuple a m.toArray from p) (x:=u) (by simpa using Y) λt J R=>?_;have O:Inv X f U H {s with heap:=t}:=I.turned (t':=s.toks) (λb o g e=>(R.2 b g).trans e) V j N q C;obtain⟨o,e,c,d⟩:=id J;show#[u,rfl,zP (s:={s with heap:=t}) e c d (by decide) #[x,H,O,Z,#[rfl,λys Q=>by rw[I.aav Q r];exact y],J,λb g=>(n b g).1]]
 done:=by intro X D F B G i f s U H E I n st A;subst D F B;obtain⟨xs,r,y⟩:=A;obtain⟨m,L,p,M⟩:=I.tuple r;obtain⟨V,j,f2,N,q,C⟩:=n l (by simp);have ax:=L.length;exact wpAny_pyNext_tuple_end (I.ok.hd G) st (show s.heap.IsTuple a m.toArray from p) (by simp;omega) λt T=>#[rfl,I.turned (t':=s.toks) (λb o g e=>T b o g e) V j N q C]
 self:=λ_ _ _ _ _ st h=>wpAny_pyIter_tupleiter st h
theorem ab6{w:bf}{K:aN}(a:Addr)(lo:Int)(n:Nat):Turn P w K ez (vA lo n) [a] a (λi h=>IsRangeIter h a (lo+(i:Nat)*1) ((n:Int)-(i:Nat)) 1)where
 mem:=by simp
 obj:=λi h st b d=>by
  have e:b=a:=by simpa using d
  subst e;show#[_,st,λv z=>by
   have F:MS _=C6 v:=z;cases F]
 keep:=λi h g st k=>k a (by simp) _ st
 item:=by intro X V j L l i c s U H E I f st m;subst V j L;obtain⟨r,y,G,p,A,N⟩:=f a (by simp);have W:=Walks.range (prog:=X.prog) (w:=X.w) (I.ok.hd l) a lo 1 n;refine W.item i s _ _ m st λv g q B u C=>?_;obtain⟨t,rfl⟩:=B;have x:Inv X c U H {s with heap:=g,toks:=q}:=I.turned (λb o d e=>C b o (by simpa using d) e) r y p A N;show#[_,rfl,zP (s:={s with heap:=g,toks:=q}) (n:="range_iterator") u rfl rfl (by decide) #[.int (lo+i),H,x,#[t,?_],#[rfl,rfl],u,λb d=>(f b d).1]];rw[Int.mul_one]
 done:=by intro X V j L l i c s U H E I f st m;subst V j L;obtain⟨r,y,G,p,A,N⟩:=f a (by simp);exact wpAny_pyNext_range_end (I.ok.hd l) st (by have:n<=i:=m;omega) λg D=>#[rfl,I.turned (t':=s.toks) (λb o d e=>D b o d e) r y p A N]
 self:=λ_ _ _ _ _ st h=>wpAny_pyIter_rangeiter st h
section
variable{X:bH}{ez:Expr}
inductive amm(K:aN)(x:V)(H1:af)(R:gB->af->Prop):Prop where
 |mk(a:_)(_:x=.ref a)(_:(∃xs,aQ K H1 a xs))(_:R (n2 K a) H1)
noncomputable def akj(K:aN)(b:TE):fi:=λU H R=>b U H λx a=>amm K x a R
noncomputable def amn(K:aN)(c:TE):fi:=λU H R=>c U H λx b=>∃a,x=.ref a/\(∃d,cV K b a d)/\R (Dw K a) b
theorem jE(n:bA X l i):oQ X ez l (akj X.K i):=by
 intro c s U H R I h;refine bU (n c s U H _ I h) λv f g=>?_;obtain⟨x,k,d,w,r⟩:=g;obtain⟨a,e,⟨A,t⟩,q⟩:=r;subst e;cases w;obtain⟨y,z,p,g⟩:=d.list t;refine CQ p.isList ?_;show#[f.heap.objs.size,[f.heap.objs.size],_,_,k,rfl,d.kept (t':=f.toks) λb o e=>d0 _ e,ad2 a _,#[_,gG _ rfl,rfl,rfl],λb m=>?_,q];have e:b=f.heap.objs.size:=by simpa using m
 subst e;exact d.sF (cB _) (d.bo.fresh (cB _))
theorem YC(r:bA X l i):oQ X ez l (amn X.K i):=by
 intro c s U H R I h;refine bU (r c s U H _ I h) λv d k=>?_;obtain⟨x,m,f,y,t⟩:=k;obtain⟨a,e,⟨A,w⟩,q⟩:=t;subst e;cases y;obtain⟨g,z,p,k⟩:=f.tuple w;refine wpAny_pyIter_tuple (show d.heap.IsTuple a g.toArray from p) ?_;show#[d.heap.objs.size,[d.heap.objs.size],_,_,m,rfl,f.kept (t':=d.toks) λb o e=>d0 _ e,ab5 a _,#[_,gG _ rfl,rfl,rfl],λb n=>?_,q];have e:b=d.heap.objs.size:=by simpa using n
 subst e;exact f.sF (cB _) (f.bo.fresh (cB _))
theorem ae8{s:aW}{R:gB->af->Prop}{E:cW}{lo a:Int}{t:Tok}{d:Nat}(I:Inv X pins U H s)(k:-(2 ^ 62)<=lo)(l:lo<2 ^ 62)(m:-(2 ^ 62)<=a)(n:a<2 ^ 62)(q:R (vA lo (a-lo).toNat) H):aT (bg X.prog X.w) X.A (FY (.ref s.heap.objs.size)) (N1 X pins U ez R) E {s with heap:=s.heap.push {cls:=.type "range",data:=.fields (List.toArray [.int lo t,.int a u,.int 1 v])},toks:=d}:=by
 refine wpAny_pyIter_range (IsRange.new ..) (small_one k l m n) ?_;have c:Inv X pins U H {s with heap:=s.heap.push {cls:=.type "range",data:=.fields (List.toArray [.int lo t,.int a u,.int 1 v])},toks:=d}:=I.kept λb o e=>d0 _ e;show#[(s.heap.push {cls:=.type "range",data:=.fields (List.toArray [.int lo t,.int a u,.int 1 v])}).objs.size,[(s.heap.push {cls:=.type "range",data:=.fields (List.toArray [.int lo t,.int a u,.int 1 v])}).objs.size],_,_,H,rfl,
  c.kept (t':=d) λb o e=>d0 _ e,ab6 _ lo (a-lo).toNat,?_,λb h=>?_,q]
 .have g:lo+((0:Nat):Int)*1=lo:=by simp
  have f:(((a-lo).toNat:Nat):Int)-((0:Nat):Int)=atL lo a 1:=by rw[rangeSize_one];split<;>omega
  show IsRangeIter _ _ (lo+((0:Nat):Int)*1) ((((a-lo).toNat:Nat):Int)-((0:Nat):Int)) 1;rw[g,f];exact gG _ rfl
 have e:b=(s.heap.push {cls:=.type "range",data:=.fields (List.toArray [.int lo t,.int a u,.int 1 v])}).objs.size:=by simpa using h
 subst e;exact c.sF (cB _) (c.bo.fresh (cB _))
noncomputable def akk(b:gf):fi:=λU H R=>b U H λvs a=>∃j:Int,vs=[.int j]/\-(2 ^ 62)<=j/\j<2 ^ 62/\R (vA 0 j.toNat) a
theorem FQ{d:gf}{p:Pos}(l:jb X "range")(o:X.mg "range"=none)(k:hg X [a] d)(w:d2 [a] X.env=[(false,eval a X.env)]:=by rfl):oQ X ez (.Call (.Name "range" p) [a] [] pos) (akk d):=by
 intro b s U H R I h;refine Call_ (zq I l o boot_range (N8 (bU (k pos b s U H _ I h) λA z f=>?_) w rfl));obtain⟨vs,y,g,m,c⟩:=f;obtain⟨j,e,c,n,q⟩:=c;subst e;cases m with
 |cons r i=>
  cases i;obtain⟨t,rfl⟩:=r;exact call_range_1 (ae8 g (by omega) (by omega) c n (by simpa using q))
noncomputable def zH(J:gB)(g:lX)(f:fO)(D:Ends)(U:St)(c:af):Prop:=∃W:Nat->Nat->St->af->Prop,(∃m,W 0 m U c)/\∀i m U H,W i m U H->
 (J.stop i H/\D.di U H)\/(J.go i H/\∃N:St->af->Prop,(∀a H',N a H'->∃b,b<m/\W (i+1) b a H')/\∀x H',J.zJ i H x H'->g x U H' λh d=>f {D with di:=N,fv:=N,hh:=D.di} h d)
noncomputable def amo(c:fi)(g:lX)(b:fO):fO:=λD U H=>c U H λJ a=>zH J g b D U a
noncomputable def Hi(a:bL)(h:Heap):List (Addr×Obj):=a.filterMap λb=>(h.get? b).map λo=>(b,o)
theorem Le{a:bL}{h:Heap}{b:Addr}(c:b∈a)(e:h.get? b=some o):(b,o)∈Hi a h:=NL.mpr #[b,c,by rw[e];rfl]
theorem ad3{a:bL}{h:Heap}{p:Addr×Obj}(c:p∈Hi a h):p.1∈a/\h.get? p.1=some p.2:=by
 obtain⟨b,d,e⟩:=NL.mp c;cases q:h.get? b with
 |none=>rw[q]at e;cases e
 |some o=>
  rw[q]at e;have f:(b,o)=p:=hI e;subst f;show#[d,q]
theorem Inv.pinned{a:ee}{s:aW}{c:bL}(I:Inv X a U H s)(k:∀b∈c,vn X a H b)(aX:∀b∈c,∃o,s.heap.get? b=some o/\∀v,o.data≠.cell v):Inv X (a++Hi c s.heap) U H s:=
 I.Ů λp h=>(hy.mp h).elim (λz=>I.pin p (pN _ z)) λz=>by obtain⟨f,e⟩:=ad3 z;obtain⟨l,m,n,_⟩:=k p.1 f;obtain⟨o,g,d⟩:=aX p.1 f;rw[e]at g;cases g;show#[e,l,m,n,d]
theorem Inv.L2{a c:ee}(I:Inv X (a++c) U H s):Inv X a U H s:=I.Ů λp b=>I.pin p (pN _ (z8 _ b))
theorem lD{t:List Stmt}{g:lX}(z:PassesOwn (bg X.prog X.w) X.A X.env X.er)(M:X.calm=true)(hi:oQ X ez iter wi)(bJ:vP X ez g)(c:h8 X t bj)(hs:∀x,Qc iter X.env x=pure x:=by intro _;rfl):h2 X (.For ez iter t [] pos) (amo wi g bj):=by
 intro a s U H D I h;refine wpAny_For (bU (hi a s U H _ I h) λv s1 ah=>bU ah λRA s2 aj=>?_) hs;obtain⟨it,L,Z,J,ai,e,bE,T,Cq,Y,W,⟨m0,vd⟩,turn⟩:=aj;subst e;have G:∀{H':af},(∀b∈L,H' b=none)->∀b∈L,vn X a H' b:=λaM b c=>#[aM b c,(Y b c).2]
 refine codeAny_forLoop_any (λn s'=>∃i K H',Inv X a K H' s'/\Z i s'.heap/\(∀b∈L,H' b=none)/\W i n K H') ?_ m0 #[0,U,ai,bE,Cq,λb c=>(Y b c).1,vd];rintro n P ⟨i,V,q,R,A,ð,i8⟩;rcases turn i n V q i8 with⟨stop,rI⟩|⟨go,N,gv,step⟩
 .refine CP z (bU (T.done X rfl rfl rfl M i a P V q X.er R (G ð) A stop) λr cc y=>?_);obtain⟨B,kF⟩:=y;subst B;exact G6 #[V,q,kF,rI]
 refine CP z (bU (T.item X rfl rfl rfl M i a P V q X.er R (G ð) A go) λr cc y=>?_);obtain⟨u,B,c'⟩:=y;subst B;refine CP z (bU c' λ_ Q y=>?_);obtain⟨x,O,mX,Gb,vh,F,Qd⟩:=y;have Nb:=mX.pinned (G Qd) (T.obj _ _ F);refine CP z (bU (bJ _ Q V O x u _ Nb Gb (step x O vh)) λ_ hN y=>?_);obtain⟨Hx,g0,xo,Tv⟩:=y;refine CP z (bU (c _ hN Hx g0 _ xo Tv) λf E w=>?_);have again:∀{p:St}{k:af},Inv X (a++Hi L Q.heap) p k E->N p k->∃m,m<n/\∃i K H',Inv X a K H' E/\Z i E.heap/\(∀b∈L,H' b=none)/\W i m K H':=λ{p k}l j=>by obtain⟨ew,hm,UW⟩:=gv p k j;show#[ew,hm,i+1,p,k,l.L2,T.keep _ _ _ F λb c o e=>(l.pin (b,o) (pN _ (pN _ (Le c e)))).1,λb c=>?_,UW];obtain⟨o,e,d⟩:=T.obj _ _ F b c;exact(l.pin (b,o) (pN _ (pN _ (Le c e)))).2.1
 cases f with
 |next=>obtain⟨p,k,l,j⟩:=w;exact again l j
 |cont=>obtain⟨p,k,l,j⟩:=w;exact again l j
 |brk=>obtain⟨p,k,l,w⟩:=w;show#[p,k,l.L2,w]
 |ret v=>obtain⟨zz,p,k,l,C,w⟩:=w;show#[zz,p,k,l.L2,C,w]
theorem qa{K:aN}{xs:aO}{g:lX}{c:fO}{D:Ends}(b:Nat->St->af->Prop)(k:b 0 U H)(h:∀i U H,i<=xs.length->b i U H->aQ K H a xs)(r:∀i x U H,xs[i]?=some x->b i U H->g x U H λt f=>c {D with di:=b (i+1),fv:=b (i+1),hh:=D.di} t f)(n:∀U H,b xs.length U H->D.di U H):
  zH (n2 K a) g c D U H:=by
 show#[λi m U H=>m=xs.length-i/\i<=xs.length/\b i U H,#[xs.length,by simp,e4 _,k],?_];rintro i m U H ⟨rfl,o,p⟩;have q:=h i U H o p;by_cases d:i<xs.length
 .refine .inr #[#[xs,xs[i],q,by simp[d]],b (i+1),λw H' l=>#[xs.length-(i+1),by omega,rfl,d,l],λx H' y=>?_];obtain⟨e,y⟩:=y;subst e;exact r i x U _ (y xs q) p
 have e:i=xs.length:=by omega
 subst e;exact .inl #[#[xs,q,cB _],n U H p]
theorem ahb{K:aN}{xs:aO}{g:lX}{c:fO}{D:Ends}(b:Nat->St->af->Prop)(k:b 0 U H)(h:∀i U H,i<=xs.length->b i U H->cV K H a xs)(r:∀i x U H,xs[i]?=some x->b i U H->g x U H λt f=>c {D with di:=b (i+1),fv:=b (i+1),hh:=D.di} t f)(n:∀U H,b xs.length U H->D.di U H):
  zH (Dw K a) g c D U H:=by
 show#[λi m U H=>m=xs.length-i/\i<=xs.length/\b i U H,#[xs.length,by simp,e4 _,k],?_];rintro i m U H ⟨rfl,o,p⟩;have q:=h i U H o p;by_cases d:i<xs.length
 .refine .inr #[#[xs,xs[i],q,by simp[d]],b (i+1),λw H' l=>#[xs.length-(i+1),by omega,rfl,d,l],λx H' y=>?_];obtain⟨e,y⟩:=y;subst e;exact r i x U _ (y xs q) p
 have e:i=xs.length:=by omega
 subst e;exact .inl #[#[xs,q,cB _],n U H p]
theorem UP{lo:Int}{n:Nat}{g:lX}{c:fO}{D:Ends}(a:Nat->St->af->Prop)(f:a 0 U H)(l:∀i U H,i<n->a i U H->g (.int (lo+i)) U H λo d=>c {D with di:=a (i+1),fv:=a (i+1),hh:=D.di} o d)(k:∀U H,a n U H->D.di U H):
  zH (vA lo n) g c D U H:=by
 show#[λi m U H=>m=n-i/\i<=n/\a i U H,#[n,by simp,e4 _,f],?_];rintro i m U H ⟨rfl,t,p⟩;by_cases b:i<n
 .refine .inr #[b,a (i+1),λr H' h=>#[n-(i+1),by omega,rfl,b,h],λx H' y=>?_];obtain⟨e,y⟩:=y;subst e y;exact l i U _ b p
 have e:i=n:=by omega
 subst e;exact .inl #[cB _,k U H p]
noncomputable abbrev gd:=V->V->af->a4->Prop
end
noncomputable def hf(X:bH)(f:Value->Value->Sem Value)(r:gd):Prop:=
 ∀(a:ee)(s:aW)(U:St)(H:af)(x y:V)(v u:Value)(Q:a4),Inv X a U H s->RelV x v->RelV y u->r x y H Q->
  aT (bg X.prog X.w) X.A (f v u) (iT X a U Q) X.er s
noncomputable def OF(X:bH)(f:Value->Sem Value)(r:V->af->a4->Prop):Prop:=
 ∀(a:ee)(s:aW)(U:St)(H:af)(x:V)(v:Value)(Q:a4),Inv X a U H s->RelV x v->r x H Q->
  aT (bg X.prog X.w) X.A (f v) (iT X a U Q) X.er s
noncomputable def kt(X:bH)(f:Value)(r:List V->af->a4->Prop):Prop:=
 ∀(a:ee)(s:aW)(U:St)(H:af)(c:aO)(b:dx)(Q:a4),Inv X a U H s->de c b->r c H Q->
  aT (bg X.prog X.w) X.A (call f b) (iT X a U Q) X.er s
noncomputable def amq(X:bH)(r:V->af->(Bool->af->Prop)->Prop):Prop:=
 ∀(a:ee)(s:aW)(U:St)(H:af)(x:V)(v:Value)(Q:Bool->af->Prop),Inv X a U H s->RelV x v->r x H Q->
  aT (bg X.prog X.w) X.A (truthy v) (IP X a U Q) X.er s
noncomputable def Cz(r:gd)(d c:TE):TE:=λU H Q=>d U H λx a=>c U a λy b=>r x y b Q
noncomputable def asv(r:V->af->a4->Prop)(b:TE):TE:=λU H Q=>b U H λx a=>r x a Q
inductive Ge(C:Int->Int->Prop)(g:Int->Int->V)(x:ao.V)(y:ao.V)(H:af)(Q:a4):Prop where
 |mk(i:_)(j:_)(_:x=.int i)(_:y=.int j)(_:C i j)(_:Q (g i j) H)
inductive zb(g:Int->Int->V)(x:ao.V)(y:ao.V)(H:af)(Q:a4):Prop where
 |mk(i:_)(j:_)(_:x=.int i)(_:y=.int j)(_:Q (g i j) H)
inductive ŷ(g:Int->V)(x:V)(H:af)(Q:a4):Prop where
 |mk(i:_)(_:x=.int i)(_:Q (g i) H)
section
variable{X:bH}{a b c:Expr}{cq bj pv:TE}{pos:Pos}
theorem OS(o:bA X a cq)(n:bA X b bj){R:V->V->af->Prop}(I:Inv X pins U H s)(h:cq U H λx k=>bj U k λy d=>R x y d){Q:cW}{f:Value->Value->Sem Value}(t:∀v u g x y d,Inv X pins U d g->RelV x v->RelV y u->R x y d->aT (bg X.prog X.w) X.A (f v u) Q X.er g):
  aT (bg X.prog X.w) X.A (eval a X.env) (λv A=>aT (bg X.prog X.w) X.A (eval b X.env) (λu N=>aT (bg X.prog X.w) X.A (f v u) Q X.er N) X.er A) X.er s:=by refine bU (o pins s U H _ I h) λv L l=>?_;obtain⟨x,k,m,w,p⟩:=l;refine bU (n pins L U k _ m p) λu g l=>?_;obtain⟨y,d,r,K,z⟩:=l;exact t v u g x y d r w K z
theorem bO{f:Operator}{r:gd}(aX:hf X (uh f) r)(l:bA X a cq)(g:bA X b bj):bA X (.BinOp a f b pos) (Cz r cq bj):=by intro d s U H Q I h;exact wpAny_BinOp (OS l g I h λv u p x y k m n o q=>aX d p U k x y v u Q m n o q)
theorem N4{f:UnaryOp}{r:V->af->a4->Prop}(aX:OF X (unaryOp f) r)(l:bA X a cq):bA X (.UnaryOp f a pos) (asv r cq):=by intro d s U H Q I h;exact UnaryOp_ (bU (l d s U H _ I h) λv o⟨x,g,k,n,m⟩=>aX d o U g x v Q k n m)
theorem K_{f:Value->Value->Sem Value}{C:Int->Int->Prop}{g:Int->Int->Int}(rule:∀(i j:Int)(t u:Tok)(s:aW)(Q:cW)(E:cW),C i j->Q (.int (g i j) s.toks) {s with toks:=s.toks+1}->aT (bg X.prog X.w) X.A (f (.int i t) (.int j u)) Q E s):
  hf X f (Ge C λi j=>.int (g i j)):=by intro d s U H x y v u Q I l m h;obtain⟨i,j,rfl,rfl,k,q⟩:=h;obtain⟨t,rfl⟩:=l;obtain⟨n,rfl⟩:=m;exact rule i j t n s _ _ k #[.int (g i j),H,I.tok _,#[_,rfl],q]
theorem ι{f:Value->Value->Sem Value}{g:Int->Int->Int}(rule:∀(i j:Int)(t u:Tok)(s:aW)(Q:cW)(E:cW),Q (.int (g i j) s.toks) {s with toks:=s.toks+1}->aT (bg X.prog X.w) X.A (f (.int i t) (.int j u)) Q E s):
  hf X f (zb λi j=>.int (g i j)):=by intro d s U H x y v u Q I k l h;obtain⟨i,j,rfl,rfl,q⟩:=h;obtain⟨t,rfl⟩:=k;obtain⟨m,rfl⟩:=l;exact rule i j t m s _ _ #[.int (g i j),H,I.tok _,#[_,rfl],q]
theorem OT{f:Value->Value->Sem Value}{g:Int->Int->Bool}(rule:∀(i j:Int)(t u:Tok)(s:aW)(Q:cW)(E:cW),Q (.bool (g i j)) s->aT (bg X.prog X.w) X.A (f (.int i t) (.int j u)) Q E s):
  hf X f (zb λi j=>.aV (g i j)):=by intro d s U H x y v u Q I k l h;obtain⟨i,j,rfl,rfl,q⟩:=h;obtain⟨t,rfl⟩:=k;obtain⟨m,rfl⟩:=l;exact rule i j t m s _ _ #[.aV (g i j),H,I,rfl,q]
noncomputable def amr(i j:Int):Prop:=0<j/\j<1073741824
noncomputable def ams(i j:Int):Prop:=0<=j/\j<=1000000/\i.natAbs<2 ^ 64
noncomputable def OU(i j:Int):Prop:=(-(2 ^ 64)<i/\i<2 ^ 64)\/(-(2 ^ 64)<j/\j<2 ^ 64)
theorem OU.ok{i j:Int}(h:OU i j):IntMulOk i j:=by
 rcases h with⟨d,f⟩|⟨d,f⟩
 .exact .of_left (intBits_le_64 d f)
 exact .of_right (intBits_le_64 d f)
theorem jj:hf X (uh .Add) (zb λi j=>.int (i+j)):=ι λ_ _ _ _ _ _ _ q=>add_int q
theorem Hj:hf X (uh .Sub) (zb λi j=>.int (i-j)):=ι λ_ _ _ _ _ _ _ q=>sub_int q
theorem wO:hf X (uh .Mult) (Ge OU λi j=>.int (i*j)):=K_ λ_ _ _ _ _ _ _ d q=>mul_int q d.ok
theorem kS:hf X (uh .FloorDiv) (Ge amr λi j=>.int (i/j)):=K_ λi j _ _ _ _ _ d q=>by have f:(0:Int)<j:=d.1;have g:j<1073741824:=d.2;exact floordiv_int (by omega) (by rw[Int.fdiv_eq_ediv_of_nonneg i (by omega)];exact q) (.inl (PyProof.noPylong_small (by omega)))
theorem h_:hf X (uh .Mod) (Ge (λ_ j=>0<j) λi j=>.int (i%j)):=K_ λi j _ _ _ _ _ d q=>by have f:(0:Int)<j:=d;exact mod_int' (by omega) (by rw[Int.fmod_eq_emod_of_nonneg i (by omega)];exact q)
theorem YD:hf X (uh .Pow) (Ge ams λi j=>.int (i ^ j.toNat)):=K_ λ_ _ _ _ _ _ _ d q=>pow_int_small d.1 d.2.1 d.2.2 q
theorem asI{f:Value->Sem Value}{g:Int->Int}(rule:∀(i:Int)(t:Tok)(s:aW)(Q:cW)(E:cW),Q (.int (g i) s.toks) {s with toks:=s.toks+1}->aT (bg X.prog X.w) X.A (f (.int i t)) Q E s):
  OF X f (ŷ λi=>.int (g i)):=by intro d s U H x v Q I k h;obtain⟨i,rfl,q⟩:=h;obtain⟨t,rfl⟩:=k;exact rule i t s _ _ #[.int (g i),H,I.tok _,#[_,rfl],q]
theorem M9:OF X (unaryOp .USub) (ŷ λi=>.int (-i)):=asI λ_ _ _ _ _ q=>neg_int q
noncomputable def UV:V->V->Bool
 |.int _,.int _=>true
 |.str _,.str _=>true
 |_,_=>false
noncomputable def arK:gd:=λx y H Q=>UV x y=true/\Q (.aV (decide (x=y))) H
noncomputable def arL:gd:=λx y H Q=>UV x y=true/\Q (.aV (!decide (x=y))) H
theorem GP{i j:Int}:decide (V.int i=V.int j)=(i==j):=by rw[Mx];simp
theorem Xr{j:Str}:decide (V.str i=V.str j)=(i==j):=by rw[Mx];simp
theorem zr{Q:a4}{k d:Bool}(I:Inv X pins U H s)(q:Q (.aV k) H)(e:k=d):iT X pins U Q (.bool d) s:=by subst e;show#[.aV k,H,I,rfl,q]
theorem kV:hf X (ki .Eq) arK:=by
 intro k s U H x y v u Q I f g h;obtain⟨d,q⟩:=h;unfold UV at d;split at d
 .obtain⟨t,rfl⟩:=f;obtain⟨l,rfl⟩:=g;exact eq_int (zr I q GP)
 .obtain⟨t,rfl⟩:=f;obtain⟨l,rfl⟩:=g;exact eq_str (zr I q Xr)
 cases d
theorem zQ:hf X (ki .NotEq) arL:=by
 intro k s U H x y v u Q I f g h;obtain⟨d,q⟩:=h;unfold UV at d;split at d
 .obtain⟨t,rfl⟩:=f;obtain⟨l,rfl⟩:=g;exact ne_int (zr I q (fa not GP))
 .obtain⟨t,rfl⟩:=f;obtain⟨l,rfl⟩:=g;exact ne_str (zr I q (fa not Xr))
 cases d
theorem zR:hf X (ki .Lt) (zb λi j=>.aV (decide (i<j))):=OT λ_ _ _ _ _ _ _ q=>lt_int q
theorem rK:hf X (ki .LtE) (zb λi j=>.aV (decide (i<=j))):=OT λ_ _ _ _ _ _ _ q=>le_int q
theorem zI:hf X (ki .Gt) (zb λi j=>.aV (decide (j<i))):=OT λ_ _ _ _ _ _ _ q=>gt_int q
theorem zt:hf X (ki .Is) (λx y H Q=>y=.b3/\Q (.aV (decide (x=.b3))) H):=by
 intro f s U H x y v u Q I d g h;obtain⟨rfl,q⟩:=h;cases g;refine is_none_gen (zr I q ?_);cases x<;>first
  | (cases d;rfl)
  | (obtain⟨t,rfl⟩:=d;rfl)
theorem Mu:hf X (ki .IsNot) (λx y H Q=>y=.b3/\Q (.aV (!decide (x=.b3))) H):=by
 intro f s U H x y v u Q I d g h;obtain⟨rfl,q⟩:=h;cases g;refine isnot_none_gen (zr I q ?_);cases x<;>first
  | (cases d;rfl)
  | (obtain⟨t,rfl⟩:=d;rfl)
theorem ek(b:Expr){d:CmpOp}(h:d≠.In:=by decide)(k:d≠.NotIn:=by decide):x2 d b=false:=by
 have g:(d==CmpOp.In)=false:=by cases d<;>first|rfl|exact bG rfl h
 have f:(d==CmpOp.NotIn)=false:=by cases d<;>first|rfl|exact bG rfl k
 cases b<;>simp[x2,g,f]
theorem o3{f:CmpOp}{r:gd}(aX:hf X (ki f) r)(l:bA X a cq)(g:bA X b bj)(p:x2 f b=false):bA X (.Compare a [f] [b] pos) (Cz r cq bj):=by intro d s U H Q I h;exact asW (OS l g I h λv u t x y k m n o q=>aX d t U k x y v u Q m n o q) p
noncomputable def N5(t:TE):iW:=λU H Q=>t U H λx H'=>Xp x H' Q
theorem eN{f:CmpOp}{r:gd}(aX:hf X (ki f) r)(o:bA X a cq)(m:bA X b bj)(V:x2 f b=false):m8 X (.Compare a [f] [b] pos) (N5 (Cz r cq bj)):=by
 intro d s U H Q I h;refine as0 (bU (o d s U H _ I h) λv j⟨x,g,l,A,p⟩=>bU (m d j U g _ l p) λu q⟨y,n,t,N,K⟩=>
  bU (aX d q U n x y v u _ t A N K) λc C⟨z,w,L,B,k,e,i⟩=>?_) V
 subst e;cases B;exact rW #[w,L,i]
noncomputable def YE(r h:gd)(cq bj pv:TE):TE:=λU H Q=>cq U H λx f=>bj U f λy g=>r x y g λz d=>∃k,z=.aV k/\
 (if k=true then pv U d λm l=>h y m l Q else Q (.aV false) d)
theorem VA{g l:CmpOp}{r n:gd}(aX:hf X (ki g) r)(O:hf X (ki l) n)(i:bA X a cq)(L:bA X b bj)(V:bA X c pv)(M:lastMarks [g,l] [b,c]=false:=by with_unfolding_all rfl):bA X (.Compare a [g,l] [b,c] pos) (YE r n cq bj pv):=by
 intro f s U H Q I h;refine Compare_chain (bU (i f s U H _ I h) λv R⟨x,A,K,C,j⟩=>chain_link (bU (L f R U A _ K j) λu T⟨y,N,q,p,E⟩=>
  bU (aX f T U N x y v u _ q C p E) λd B⟨z,m,o,Y,k,e,t⟩=>?_)) M
 subst e;cases Y;refine rW ?_;cases k with
 |false=>exact ite_ff #[.aV false,m,o,rfl,t]
 |true=>exact ite_tt (chain_last (bU (V f B U m _ o t) λJ D⟨F,G,P,w,Z⟩=>O f D U G y F u J Q P p w Z))
theorem Gd{g l:CmpOp}{r n:gd}(aX:hf X (ki g) r)(j5:hf X (ki l) n)(C:bA X a cq)(j:bA X b bj)(B:bA X c pv)(hm:lastMarks [g,l] [b,c]=false:=by with_unfolding_all rfl):m8 X (.Compare a [g,l] [b,c] pos) (N5 (YE r n cq bj pv)):=by
 intro f s U H Q I h;refine isTrue_chain (bU (C f s U H _ I h) λv s1⟨x,L,i,M,D⟩=>test_link (bU (j f s1 U L _ i D) λu s2⟨y,q,E,p,P⟩=>
  bU (aX f s2 U q x y v u _ E M p P) λd J⟨z,m,o,u0,k,e,t⟩=>?_)) hm
 subst e;cases u0;refine rW ?_;cases k with
 |false=>
  obtain⟨lG,G,Z⟩:=t;cases G;exact ite_ff #[m,o,Z]
 |true=>
  refine ite_tt (test_last (bU (B f J U m _ o t) λY O⟨R,T,kF,A,uW⟩=>bU (j5 f O U T y R u Y _ kF p A uW) λd' c4 N=>?_));obtain⟨a5,F,mX,K,k2,V,w⟩:=N;subst V;cases K;exact rW #[F,mX,w]
noncomputable def μ(K:aN)(x:V)(H:af)(k:Bool):Prop:=
 match x with
 |.b3=>k=false
 |.aV b=>k=b
 |.int i=>k=(i !=0)
 |.str y=>y.length<=sizeLine/\k=((y.length:Int) !=0)
 |.AQ y=>y.size<=sizeLine/\k=((y.size:Int) !=0)
 |.ref p=>(∃f,aQ K H p f/\k=!f.isEmpty)\/(∃f,cV K H p f/\k=!f.isEmpty)\/∃d,H p=some (.cv d)/\k=!d.isEmpty
 |_=>False
theorem ab7{f:Type}{d:List (f×V)}{vs:List (f×Value)}(r:gR d vs):(!vs.isEmpty)=!d.isEmpty:=by cases r<;>rfl
theorem aa6{f:aO}{d:dx}(r:de f d):(!d.toArray.isEmpty)=!f.isEmpty:=by cases r<;>simp
theorem CH:(sizeLine:Nat)<2 ^ 63:=by rw[u3];decide
theorem aja:amq X (λx H Q=>∃k,μ X.K x H k/\Q k H):=by
 intro K s U H x v Q I n h;obtain⟨k,e,q⟩:=h;have V:=CH;have j:sizeLine=16777216:=u3;cases x with
 |b3=>
  cases n;have d:k=false:=e;subst d;exact truthy_none #[H,I,q]
 |aV b=>
  cases n;have d:k=b:=e;subst d;exact rW #[H,I,q]
 |int i=>
  obtain⟨t,rfl⟩:=n;have d:k=(i !=0):=e;subst d;exact PySem.P.truthy_int #[H,I,q]
 |str y=>
  obtain⟨t,rfl⟩:=n;obtain⟨L,d⟩:y.length<=sizeLine/\k=((y.length:Int) !=0):=e;subst d;exact PySem.P.truthy_str (by omega) #[H,I.tok _,q]
 |AQ y=>
  obtain⟨t,rfl⟩:=n;obtain⟨L,d⟩:y.size<=sizeLine/\k=((y.size:Int) !=0):=e;subst d;exact PySem.W.truthy_bytes (by omega) #[H,I.tok _,q]
 |ref p=>
  cases n;have d:(∃l,aQ X.K H p l/\k=!l.isEmpty)\/(∃l,cV X.K H p l/\k=!l.isEmpty)\/∃f,H p=some (.cv f)/\k=!f.isEmpty:=e;rcases d with⟨l,o,d⟩|⟨l,o,d⟩|⟨f,o,d⟩
  .subst d;obtain⟨w,r,z,A⟩:=I.list o;have g:=r.length;exact wpAny_truthy_list z.isList (by simp only[hz];omega) #[H,I.tok _,by rw[aa6 r];exact q]
  .subst d;obtain⟨w,r,z,A⟩:=I.tuple o;have g:=r.length;exact truthy_tuple z (by simp only[hz];omega) #[H,I.tok _,by rw[aa6 r];exact q]
  subst d;obtain⟨A,N,vs,r,m⟩:f.length<=sizeLine/\(p==lh)=false/\∃vs,gR f vs/\s.heap.DictOf (h9 X.prog X.w) p vs:=I.bo p _ o;have g:f.length=vs.length:=jy r;exact wpAny_truthy_dict N m (by omega) #[H,I.tok _,by rw[ab7 r];exact q]
 |_=>exact(show False from e).elim
theorem ae9(m:bA X a cq)(p:∀d,E6 a X.env d=(do let v <-d;wZ a.pos;uK [v] (truthy v))):
  m8 X a (λU H Q=>cq U H λx H'=>∃k,μ X.K x H' k/\Q k H'):=by intro f s U H Q I h;exact isTrue_plain (bU (m f s U H _ I h) λv r⟨x,g,l,o,n⟩=>aja f r U g x v Q l o n) (p _)
theorem fX:hf X (uh .Add) (λx y H Q=>∃i j,x=.str i/\y=.str j/\i.length+j.length<=sizeLine/\Q (.str (i++j)) H):=by intro d s U H x y v u Q I g k h;obtain⟨i,j,rfl,rfl,f,q⟩:=h;obtain⟨t,rfl⟩:=g;obtain⟨l,rfl⟩:=k;exact add_str (λl m=>#[.str (i++j),H,I.tok _,#[_,rfl],q]) f
theorem vals1{d:dx}(r:de [x] d):∃u,d=[u]/\RelV x u:=by
 cases r with
 |cons e i=>cases i;show#[_,rfl,e]
theorem vals2{f:dx}(r:de [x,y] f):∃u d,f=[u,d]/\RelV x u/\RelV y d:=by
 cases r with
 |cons i j=>
  cases j with
  |cons q e=>cases e;show#[_,_,rfl,i,q]
theorem VN:kt X (.type "int") (λd H Q=>(∃i,d=[.int i]/\Q (.int i) H)\/∃k,d=[.aV k]/\Q (.int (if k then 1 else 0)) H):=by
 intro f s U H d l Q I r h;rcases h with⟨i,rfl,q⟩|⟨k,rfl,q⟩
 .obtain⟨u,rfl,t,rfl⟩:=vals1 r;exact call_int_int #[.int i,H,I,#[_,rfl],q]
 obtain⟨u,rfl,g⟩:=vals1 r;cases g;exact call_int_bool #[.int (if k then 1 else 0),H,I.tok _,#[_,rfl],q]
theorem kM:kt X (.type "str") (λf H Q=>∃i,f=[.int i]/\i.natAbs.log2<1920/\Q (.str (toString i)) H):=by intro d s U H f k Q I r h;obtain⟨i,rfl,g,q⟩:=h;obtain⟨u,rfl,t,rfl⟩:=vals1 r;exact PySem.P.str_of_int g #[.str _,H,I.tok _,#[_,rfl],q]
structure xh(h:Heap)(x ag C:Addr)(mA:cb):Prop where
 obj:h.get? x=some (sj C ag)
 ns:h.Ns1 ag mA
 ne:ag≠x
end
theorem ad4{h:Heap}{f:cb}(n:h.Ns1 ag f):∃c,h.get? ag=some c/\∀name,Ob name c=some (f name):=by
 obtain⟨o,d,r,aX,m,k,_,p⟩:=n;show#[o,aX,λname=>?_];have e:=p name;unfold nsFind findBy at e;rw[<-Array.find?_toList]at e;unfold Ob;rw[m];dsimp only;split
 .rename_i y q;rw[q]at e;exact fa some e
 rename_i q;rw[q]at e;have a:d.toList.any (·.refKey)=false:=by rw[List.any_eq_false];intro y l;obtain⟨z,t,b⟩:=k y (Array.mem_toList_iff.mp l);simp[DictEntry.refKey,b]
 have g:¬d.toList.any (·.refKey)=true:=by rw[a];exact ha
 rw[bx g];exact fa some e
theorem xh.look{b:cb}(I:xh h x ag C b):∃a,PySem.W.InstAt h x (sj C ag) C (some a)/\∀name,Ob name a=some (b name):=
 let⟨a,aX,c⟩:=ad4 I.ns
 #[a,#[I.obj,rfl,rfl,aX],c]
section
variable{prog:cx}{w:bf}{A:eu}{E:cW}{s:aW}{K:aN}{x ag C f:Addr}{mA:cb}{name:Str}{v:Value}
theorem ahc{Q:cW}(X:K.In s.heap)(I:xh s.heap x ag C mA)(d:Oc K C name=true)(k:IK K C=true)(c:cD K (.ref C) name=some none)(g:mA name=some v)(a:afy v=true)(h:Q v {s with toks:=s.toks+1}):
  aT (bg prog w) A (getAttr (.ref x) name expr) Q E s:=by obtain⟨l,J,b⟩:=I.look;exact PySem.W.get_value X J (YV d).1 (PySem.W.findObj_own k c rfl (by rw[b,g])) a h
theorem afa{l:Sem Bool}{Q:Value×List Value->aW->Prop}(X:K.In s.heap)(I:xh s.heap x ag C mA)(a:Oc K C name=true)(c:cD K (.ref C) name=some (some (.ref f)))(g:ua K (.ref f)=true)(d:mA name=none)(h:Q (.ref f,[.ref x]) s):
  aT (bg prog w) A (A9 (.ref x) name l) Q E s:=by obtain⟨k,J,b⟩:=I.look;exact PySem.W.method_fn X J (YV a).1 (YV a).2 c (qS.mp g) (by show(Ob name k).map (·.isSome)=some false;rw[b,d];rfl) h
theorem ag0{k:cK}{Q:Unit->aW->Prop}(X:K.In s.heap)(I:xh s.heap x ag C mA)(j:cD K (.ref C) "__setattr__"=some (some (.builtin "object.__setattr__")))(p:afH K C=true)(e:YX K C name=some none)(i:IK K C=true)(q:AA mA k)(hsz:k.length<=sizeLine)(h:∀c,xh c x ag C (λy=>if y=name then some v else mA y)->kE ag s.heap c->Q () {s with heap:=c,toks:=s.toks+2}):
  aT (bg prog w) A (Gy (.ref x) name v) Q E s:=by obtain⟨B,J,u⟩:=I.look;refine PySem.W.set_plain X J j (PySem.W.osa_open (s:={s with toks:=s.toks+1}) (r:=none) X J p e λb=>?_);obtain⟨D,V,l⟩:=PySem.W.any_some i;have L:s.heap.get? x=some #[.ref C,some ag,.plain,#[]]:=I.obj;refine aE (bW (aE (aE (as2 L (aE (PySem.W.Looks.here (s:={s with toks:=s.toks+1}) (PySem.W.looks_clsIn X V) ?_))))));rw[l];refine bW (a:=some ag) (aE (bW (aE ?_)));refine wpAny_nsSet1 (s:={s with toks:=s.toks+1}) I.ns λc g d=>?_;obtain⟨N,z,t,o,n,m⟩:=g.count (YY name v q);refine aE (as3 o (by rw[n];exact arz (dX m (by rw[gC];omega))) ?_);exact bW (h _ #[(d.2 _ (dY I.ne)).trans I.obj,g,I.ne] d)
theorem afb{R:vR->aW->Prop}{vs:dx}{a:List (Str×Value)}(X:K.In s.heap)(k:DY K C=true)(c:cD K (.ref C) "__init__"=some (some (.ref f)))(b:Az K (.ref f)=some (.type "function"))(h:ni (bg prog w) (A.under (.builtin "type.__call__" #[.ref C::vs,a])) (.call (.ref f) #[.ref (s.heap.objs.size+1)::vs,a]) (afr (s.heap.objs.size+1) R)
   {s with heap:=(s.heap.push qJ).push (sj C s.heap.objs.size)}):
  ni (bg prog w) A (.call (.ref C) #[vs,a]) R s:=by obtain⟨l,g,d,t,os⟩:=s;exact afF (YR X k) (ub X c) (λself=>afv X self b) (.inl rfl) h
theorem ad6{R:vR->aW->Prop}(X:K.In s.heap)(c:DY K C=true)(b:cD K (.ref C) "__init__"=some (some (.builtin "object.__init__")))(a:∀self,pS (bg prog w) s.heap (bindSpecial (.builtin "object.__init__") self) (.builtin "object.__init__",[self]))(h:ni (bg prog w) (A.under (.builtin "type.__call__" #[[.ref C],[]])) (.call (.builtin "object.__init__") #[[.ref (s.heap.objs.size+1)],[]]) (afr (s.heap.objs.size+1) R)
   {s with heap:=(s.heap.push qJ).push (sj C s.heap.objs.size)}):
  ni (bg prog w) A (.call (.ref C) #[[],[]]) R s:=by obtain⟨k,g,d,t,os⟩:=s;exact afF (YR X c) (ub X b) a (.inr #[rfl,rfl]) h
end
noncomputable def k'(f:Str)(v:V):List (Str×V)->List (Str×V)
 |[]=>[(f,v)]
 | (g,x)::r=>if g=f then(g,v)::r else(g,x)::k' f v r
theorem TG(f g:Str)(v:V):∀c:List (Str×V),(k' f v c).lookup g=if g=f then some v else c.lookup g
 |[]=>by
  show vC g [(f,v)]=_;by_cases h:g=f
  .have a:(g==f)=true:=qS.mpr h;simp only[vC,a,bS h]
  have a:(g==f)=false:=AO.mpr h;simp only[vC,a,bx h]
 | (k,x)::r=>by
  have d:=TG f g v r;rw[show k' f v ((k,x)::r)=(if k=f then(k,v)::r else(k,x)::k' f v r)from rfl];by_cases b:k=f
  .rw[bS b];by_cases h:g=k
   .have a:(g==k)=true:=qS.mpr h;simp only[vC,a,bS (h.trans b)]
   have a:(g==k)=false:=AO.mpr h;simp only[vC,a,bx (λe:g=f=>h (e.trans b.symm))]
  rw[bx b];by_cases h:g=k
  .have a:(g==k)=true:=qS.mpr h;simp only[vC,a,bx (λe:g=f=>b (h.symm.trans e))]
  have a:(g==k)=false:=AO.mpr h;simp only[vC,a];exact d
theorem FR(f:Str)(v:V):∀b:List (Str×V),f∈(k' f v b).map (·.1)/\∀g,g∈b.map (·.1)->g∈(k' f v b).map (·.1)
 |[]=>#[by simp[k'],λg h=>by simp at h]
 | (k,x)::r=>by
  obtain⟨c,d⟩:=FR f v r;rw[show k' f v ((k,x)::r)=(if k=f then(k,v)::r else(k,x)::k' f v r)from rfl];by_cases a:k=f
  .rw[bS a];subst a;show#[by simp,λg h=>by simpa using h]
  rw[bx a];show#[?_,λg h=>?_]
  .rw[jd];exact n3 _ c
  rw[jd]at h⊢;rcases dr.mp h with e|e
  .exact dr.mpr (.inl e)
  exact n3 _ (d g e)
theorem TH(f:Str)(v:V):∀b:List (Str×V),(k' f v b).length<=b.length+1
 |[]=>by simp[k']
 | (k,x)::r=>by
  have c:=TH f v r;rw[show k' f v ((k,x)::r)=(if k=f then(k,v)::r else(k,x)::k' f v r)from rfl];by_cases a:k=f
  .rw[bS a,gC,gC];omega
  rw[bx a,gC,gC];omega
theorem jP.LD{o:AH}(r:jP (some v) o):∃u,o=some u/\RelV v u:=by
 cases o with
 |none=>exact(show False from r).elim
 |some u=>show#[u,rfl,r]
theorem jP.none_of{o:AH}(r:jP none o):o=none:=by
 cases o with
 |none=>rfl
 |some u=>exact(show False from r).elim
theorem ad7(r:RelV v u):afy u=true:=by
 cases v with
 |b3=>cases(show u=fP from r);rfl
 |aV b=>cases(show u=Ek b from r);rfl
 |int i=>obtain⟨t,e⟩:=(show∃t,u=so i t from r);cases e;rfl
 |str x=>obtain⟨t,e⟩:=(show∃t,u=sq x t from r);cases e;rfl
 |AQ b=>obtain⟨t,e⟩:=(show∃t,u=Value.bytes b t from r);cases e;rfl
 |yk b=>obtain⟨t,e⟩:=(show∃t,u=ZD b t from r);cases e;rfl
 |ref a=>cases(show u=cX a from r);rfl
 |ty n=>cases(show u=AI n from r);rfl
section
variable{P:cx}{w:bf}{H H':af}{h h':Heap}{a C ag:Addr}{fs aos:List (Str×V)}
theorem Mc(c:gb P w H h)(e:H a=some (.ins C ag fs)):∃b,xh h a ag C b/\(∀f,jP (fs.lookup f) (b f))/\AA b (fs.map (·.1))/\fs.length<=1000/\H ag=some (.own a):=by
 obtain⟨d,z,g,k,b,n,r,q⟩:=(show fk P w H h a (.ins C ag fs)from c a _ e)
 show#[b,#[k,n,g],r,q,z,d]
end
structure dM(K:aN)(C:Addr):Prop where
 arA:Oc K C m_=true
 hd:IK K C=true
 po:afH K C=true
 lb:cD K (.ref C) "__setattr__"=some (some (.builtin "object.__setattr__"))
theorem dM.get{K:aN}(c:dM K C)(f:Str):Oc K C f=true:=c.arA
noncomputable def wQ(K:aN)(C:Addr)(f:Str):Prop:=cD K (.ref C) f=some none
theorem wQ.asx{K:aN}{f:Str}(n:wQ K C f):YX K C f=some none:=by unfold YX;rw[show cD K (.ref C) f=some none from n];rfl
structure Meth(K:aN)(C:Addr)(m:Str)(f:Addr):Prop where
 at_:cD K (.ref C) m=some (some (.ref f))
 fn:ua K (.ref f)=true
 eJ:mj K (.ref f)=true
section
variable{X:bH}{pins:ee}{U:St}{H:af}{s:aW}{a C ag:Addr}{fs:List (Str×V)}{f:Str}{v:V}{A:eu}{E:cW}
theorem ab8{Q:cW}(I:Inv X pins U H s)(e:H a=some (.ins C ag fs))(c:dM X.K C)(n:wQ X.K C f)(l:fs.lookup f=some v)(h:∀u g,Inv X pins U H g->RelV v u->Q u g):aT (bg X.prog X.w) A (getAttr (.ref a) f b) Q E s:=by obtain⟨m,O,r,_,_,_⟩:=Mc I.bo e;obtain⟨u,k,d⟩:=jP.LD (v:=v) (o:=m f) (by rw[<-l];exact r f);exact ahc I.eL O (c.get f) c.hd n k (ad7 d) (h u _ (I.tok _) d)
theorem Lf{n:Sem Bool}{Q:Value×List Value->aW->Prop}(I:Inv X pins U H s)(e:H a=some (.ins C ag fs))(c:dM X.K C)(k:Meth X.K C m g)(l:fs.lookup m=none)(h:Q (.ref g,[.ref a]) s):aT (bg X.prog X.w) A (A9 (.ref a) m n) Q E s:=by obtain⟨d,O,r,_,_,_⟩:=Mc I.bo e;have b:d m=none:=jP.none_of (by rw[<-l];exact r m);exact afa I.eL O (c.get m) k.at_ k.fn b h
theorem ab9{Q:Unit->aW->Prop}(I:Inv X pins U H s)(e:H a=some (.ins C ag fs))(c:dM X.K C)(n:wQ X.K C f)(B:fs.length<1000)(N:RelV y u)(h:∀l,Inv X pins U (upd H a (.ins C ag (k' f y fs))) l->Q () l):aT (bg X.prog X.w) A (Gy (.ref a) f u) Q E s:=by
 obtain⟨k,O,r,m,_,aX⟩:=Mc I.bo e;have p:(fs.map (·.1)).length<=sizeLine:=by rw[bP,u3];omega
 refine ag0 I.eL O c.lb c.po n.asx c.hd m p λi d L=>h _ ?_;have j:∃o,i.get? ag=some o:=let⟨o,_,_,K,_⟩:=d.ns;#[o,K]
 refine I.write (x:=a) (e:=ag) (by rw[e];exact mn) (.inr aX) (λb q t z=>(L.2 b t).trans z) j ?_;show#[by rw[aJ O.ne];exact aX,?_,O.ne,d.obj,_,d.ns,λg=>?_,λg w=>?_]
 .have:=TH f y fs;omega
 .show jP ((k' f y fs).lookup g) (if g=f then some u else k g);rw[TG];by_cases q:g=f
  .rw[bS q,bS q];exact N
  rw[bx q,bx q];exact r g
 by_cases q:g=f
 .rw[q];exact(FR f y fs).1
 refine(FR f y fs).2 g (m g λz=>w ?_);show(if g=f then some u else k g)=none;rw[bx q];exact z
theorem Inv.made(I:Inv X pins U H s):Inv X pins U (upd (upd H s.heap.objs.size (.own (s.heap.objs.size+1))) (s.heap.objs.size+1) (.ins C s.heap.objs.size []))
  {s with heap:=(s.heap.push qJ).push (sj C s.heap.objs.size)}:=by
 have c:(s.heap.push qJ).get? s.heap.objs.size=some qJ:=gG s.heap rfl;have g:((s.heap.push qJ).push (sj C s.heap.objs.size)).get? (s.heap.objs.size+1)=some (sj C s.heap.objs.size):=by
  have:=gG (s.heap.push qJ) (o:=sj C s.heap.objs.size) rfl
  rwa [tW]at this
 have l:(s.heap.push qJ).Ns s.heap.objs.size (λ_=>none):=#[qJ,#[],_,c,rfl,(λe m=>bG m (by simp)),λ_=>rfl]
 have h:=I.laid (a:=s.heap.objs.size) (o:=.own (s.heap.objs.size+1)) (h':=s.heap.push qJ) (t':=s.toks) (λb u q=>d0 _ q) (cB _) #[_,c];refine h.laid (a:=s.heap.objs.size+1) (o:=.ins C s.heap.objs.size []) (t':=s.toks) (λb u q=>d0 _ q) (NR (tW _ _)) ?_;have d:s.heap.objs.size≠s.heap.objs.size+1:=eT (xI _);show#[by rw[aJ d,aK],e4 _,d,g,λ_=>none,(ace l).at λo q=>d0 _ q,λ_=>mn,λy k=>bG rfl k]
theorem ag1{w:bf}{b:Env}{f:Str}{Q:cW}(c:AM e f b (eval e b)=eval e b)(h:aT (bg prog w) A (eval e b) (λo d=>aT (bg prog w) A (getAttr o f true) Q E d) E s):aT (bg prog w) A (eval (.Attribute e f pos) b) Q E s:=
 Attribute_any_ h (by rw[arm_eval_Attribute,c])
end
inductive alJ(K:aN)(f:Str)(x:V)(H1:af)(Q:a4):Prop where
 |mk(a:_)(C:_)(ag:_)(fs:_)(v:_)(_:x=.ref a)(_:H1 a=some (.ins C ag fs))(_:dM K C)(_:wQ K C f)(_:fs.lookup f=some v)(_:Q v H1)
noncomputable def ν(K:aN)(b:TE)(f:Str):TE:=λU H Q=>b U H λx a=>alJ K f x a Q
noncomputable def ξ(K:aN)(h k:TE)(f:Str):fO:=λD U H=>k U H λy g=>h U g λx d=>∃a C c b,x=.ref a/\d a=some (.ins C c b)/\dM K C/\wQ K C f/\b.length<1000/\
 D.di U (upd d a (.ins C c (k' f y b)))
section
variable{X:bH}{o e value:Expr}{f:Str}{pos pos' zk:Pos}{cq lS:TE}
theorem d5(z:bA X e cq)(p:AM e f X.env (eval e X.env)=eval e X.env:=by rfl):bA X (.Attribute e f pos) (ν X.K cq f):=by intro b s U H Q I h;refine ag1 p (bU (z b s U H _ I h) λu L g=>?_);obtain⟨x,d,m,t,a,C,A,K,v,y,k,c,n,l,q⟩:=g;subst y;obtain rfl:u=cX a:=t;exact ab8 m k c n l λV N r w=>#[v,d,r,w,q]
theorem h5(p:bA X o cq)(t:bA X value lS)(V:Cr value (some (.Attribute o f pos')) pos.line X.env=pure false):h2 X (.Assign [.Attribute o f pos'] value pos) (ξ X.K cq lS f):=by intro b s U H D I h;refine arC (bU (t b s U H _ I h) λu i⟨y,d,m,z,q⟩=>bU (p b i U d _ m q) λN G g=>?_) V;obtain⟨x,B,r,w,a,C,j,F,L,k,c,n,l,A⟩:=g;subst L;obtain rfl:N=cX a:=w;exact ab9 r k c n l z λE K=>#[U,_,K,A]
theorem aub{pl:Sem Bool}{p:Pos}{args:h3}{Q:cW}{w:TE}(V:bA X e w)(I:Inv X pins U H s)(h:w U H λx d=>∃a C t n g,x=.ref a/\d a=some (.ins C t n)/\dM X.K C/\Meth X.K C m g/\n.lookup m=none/\
   ∀b,Inv X pins U d b->aT (bg X.prog X.w) X.A (AR pos (.ref g) [.ref a] (hJ pos (d2 args X.env)) (n' pos (ox [] X.env))) Q X.er b)(L:eval (.Call (.Attribute e m p) args [] pos) X.env=(do
   let y <-eval e X.env
   wZ p.atName
   let(f,first) <-uK [y] (A9 y m pl)
   AR pos f first (hJ pos (d2 args X.env)) (n' pos (ox [] X.env)))):
  aT (bg X.prog X.w) X.A (eval (.Call (.Attribute e m p) args [] pos) X.env) Q X.er s:=by refine IL (pl:=pl) (bU (V pins s U H _ I h) λu b z=>?_) L;obtain⟨x,d,r,K,a,C,t,n,g,N,A,c,k,l,q⟩:=z;subst N;obtain rfl:u=cX a:=K;exact Lf r A c k l (q b r)
end
section
variable{X:bH}{pins:ee}{U:St}{H:af}{s:aW}{A:eu}{E:cW}{Q:cW}{c:Value}{b:Bool}
inductive oC(K:aN)(H:af):V->Value->Prop where
 |b3:oC K H .b3 (.type "NoneType")
 |aV(x:Bool):oC K H (.aV x) (.type "bool")
 |int(i:Int):oC K H (.int i) (.type "int")
 |str(x:Str):oC K H (.str x) (.type "str")
 |yk(x:UInt64):oC K H (.yk x) (.type "float")
 |lst{a:Addr}{xs:aO}(_:H a=some (.lst xs)):oC K H (.ref a) (.type "list")
 |fc{a:Addr}{o:Obj}{xs:aO}(_:H a=some (.fc o (.lst xs))):oC K H (.ref a) (.type "list")
 |tup{a:Addr}{xs:aO}(_:H a=some (.tup xs)):oC K H (.ref a) (.type "tuple")
 |cv{a:Addr}{kvs:List (bq×V)}(_:H a=some (.cv kvs)):oC K H (.ref a) (.type "dict")
 |dB{a:Addr}{kvs:List (List bq×V)}(_:H a=some (.dB kvs)):oC K H (.ref a) (.type "dict")
 |ins{a C ag:Addr}{fs:List (Str×V)}(_:H a=some (.ins C ag fs))(_:dM K C)(_:cD K (.ref C) "__class__"=some (some (.builtin "object.__class__")))
   (aM:uc K (.builtin "object.__class__") "__get__"=some (some (.builtin "getset_descriptor.__get__"))) (Kk:Ay K (.builtin "object.__class__")=some true)
   (hm:n8 K C (.type "object")=some true):oC K H (.ref a) (.ref C)
theorem ad8{t:Value}(I:Inv X pins U H s)(d:RelV x u)(ty:oC X.K H x t)(e:ml X.K t c=some b)(h:∀l,Q (.bool b) {s with toks:=l}):
  aT (bg X.prog X.w) A (call (.builtin "isinstance") [u,c]) Q E s:=by
 cases ty with
 |b3=>cases(show u=fP from d);exact pT PySem.W.kitx_none I.eL mn e (λz=>nomatch z) h
 |aV y=>cases(show u=Ek y from d);exact pT PySem.W.kitx_bool I.eL mn e (λz=>nomatch z) h
 |int i=>obtain⟨t,q⟩:=(show∃t,u=so i t from d);cases q;exact pT PySem.W.kitx_int I.eL mn e (λz=>nomatch z) h
 |str y=>obtain⟨t,q⟩:=(show∃t,u=sq y t from d);cases q;exact pT PySem.W.kitx_str I.eL mn e (λz=>nomatch z) h
 |yk y=>obtain⟨t,q⟩:=(show∃t,u=ZD y t from d);cases q;exact pT PySem.W.kitx_float I.eL mn e (λz=>nomatch z) h
 |@lst a g j=>
  cases(show u=cX a from d);obtain⟨_,_,n,_,f⟩:=(show fk X.prog X.w H s.heap a (.lst g)from I.bo a _ j)
  exact pT afC I.eL #[_,f,rfl] e (λz=>nomatch z) h
 |@fc a ob g j=>
  cases(show u=cX a from d);obtain⟨_,_,_,n,_,f⟩:=(show fk X.prog X.w H s.heap a (.fc ob (.lst g))from I.bo a _ j)
  exact pT afC I.eL #[_,f,rfl] e (λz=>nomatch z) h
 |@tup a g j=>
  cases(show u=cX a from d);obtain⟨_,_,_,p⟩:=(show fk X.prog X.w H s.heap a (.tup g)from I.bo a _ j)
  obtain⟨o,f,k,_⟩:=p;exact pT PySem.W.kitx_tuple I.eL #[o,f,k] e (λz=>nomatch z) h
 |@cv a kvs j=>
  cases(show u=cX a from d);obtain⟨_,_,vs,_,p⟩:=(show fk X.prog X.w H s.heap a (.cv kvs)from I.bo a _ j)
  obtain⟨o,r,m,f,k,_⟩:=p;exact pT afB I.eL #[o,f,k.1] e (λz=>nomatch z) h
 |@dB a kvs j=>
  cases(show u=cX a from d);obtain⟨_,_,g,_,o,r,m,f,k,_⟩:=(show fk X.prog X.w H s.heap a (.dB kvs)from I.bo a _ j)
  exact pT afB I.eL #[o,f,k.1] e (λz=>nomatch z) h
 |@ins a C ag fs j cl az aM Kk hm=>
  cases(show u=cX a from d);obtain⟨K,O,_⟩:=Mc I.bo j;obtain⟨w,J,_⟩:=O.look;exact pT (PySem.W.kitx_own (cl.get _) cl.hd az aM Kk hm) I.eL J e (λz=>nomatch z) h
end
structure gF(k:Nat)(A:eu):Prop where
 hd:A.handled=none
 JC:A.depth+3*k+5<recursionLimit
 un:A.units+16*k+200<cLine
theorem gF.mono{j k:Nat}(r:gF k A)(h:j<=k:=by decide):gF j A:=#[r.hd,by have:=r.JC;omega,by have:=r.un;omega]
theorem gF.deeper{k:Nat}{A:eu}(r:gF (k+1) A)(a:Env):gF k (A.deeper a):=
 #[r.hd,by have:=r.JC;show A.depth+1+3*k+5<_;omega,by have:=r.un;show A.units+3+16*k+200<_;omega]
theorem aca{A:eu}{C:Addr}{b:dx}{a:List (Str×Value)}:(A.under (.builtin "type.__call__" #[.ref C::b,a])).depth=A.depth+1:=by
 first|rfl|simp[VY,Code.weight,Code.isCreation,Code.isGuard,Code.isCaller,Code.frames,Wq,guardIds]
theorem acb{A:eu}{C:Addr}{b:dx}{a:List (Str×Value)}:(A.under (.builtin "type.__call__" #[.ref C::b,a])).units=A.units+1:=by
 first|rfl|simp[VY,Code.cUnits,Code.frames,Wq]
theorem gF.make{k:Nat}{A:eu}(r:gF (k+1) A)(C:Addr)(b:dx)(a:List (Str×Value)):gF k (A.under (.builtin "type.__call__" #[.ref C::b,a])):=
 #[r.hd,by have:=r.JC;rw[aca];omega,by have:=r.un;rw[acb];omega]
theorem gF.depth{k:Nat}{A:eu}(r:gF k A):A.depth<recursionLimit:=by have:=r.JC;omega
theorem gF.units{k:Nat}{A:eu}(r:gF k A):A.units+64<cLine:=by have:=r.un;omega
noncomputable def xi:gf:=λ_ H Q=>Q [] H
noncomputable def pb(c:TE)(d:gf):gf:=λU H Q=>c U H λx a=>d U a λf b=>Q (x::f) b
section
variable{X:bH}{e:Expr}{es:h3}{cM:TE}{t:gf}{pos:Pos}
theorem aA:hg X [] xi:=λ_ _ _ _ H Q I h=>MF #[[],H,I,.nil,h]
theorem ak(k:bA X e cM)(g:hg X es t)(r:d2 (e::es) X.env=(false,eval e X.env)::d2 es X.env:=by rfl):hg X (e::es) (pb cM t):=by intro pos a s U H Q I h;rw[r];show aT _ _ (spliced ((false,eval e X.env)::hJ pos (d2 es X.env))) _ _ s;refine C5 (bU (k a s U H _ I h) λu w c=>?_);obtain⟨x,b,d,n,l⟩:=c;exact bU (g pos a w U b _ d l) λA z⟨y,f,m,p,o⟩=>#[x::y,f,m,.cons n p,o]
noncomputable def alK(t:gf):TE:=λU H Q=>t U H λb a=>b.length<=sizeLine/\∀p,a p=none->Q (.ref p) (upd a p (.tup b))
noncomputable def alL(t:gf):TE:=λU H Q=>t U H λb a=>b.length<=sizeLine/\∀p,a p=none->Q (.ref p) (upd a p (.lst b))
theorem rE{e0}(h:hg X es t):bA X (.Tuple es e0 pos) (alK t):=by intro a s U H Q I k;refine wpAny_Tuple_spliced (bU (h pos a s U H _ I k) λl c⟨m,d,f,r,z,q⟩=>#[by rw[<-r.length];exact z,?_]);have g:d c.heap.objs.size=none:=f.bo.fresh (cB _);show#[.ref c.heap.objs.size,upd d c.heap.objs.size (.tup m),f.laid (t':=c.toks) (λb u e=>d0 _ e) (cB _) ?_,rfl,q _ g];show#[z,l,r,#[_,gG _ rfl,rfl,_,rfl]]
theorem g7(h:hg X es t):bA X (.List es pos) (alL t):=by intro a s U H Q I k;refine wpAny_List_spliced (bU (h pos a s U H _ I k) λl c⟨m,d,f,r,z,q⟩=>#[by rw[<-r.length];exact z,?_]);have g:d c.heap.objs.size=none:=f.bo.fresh (cB _);show#[.ref c.heap.objs.size,upd d c.heap.objs.size (.lst m),f.laid (t':=c.toks) (λb u e=>d0 _ e) (cB _) ?_,rfl,q _ g];show#[z,l,0,r,gG _ rfl]
noncomputable abbrev fu:=List V->af->a4->bY->Prop
noncomputable abbrev nV:=List Env->af->aW->bY->Value->aW->Prop
structure xj(P:cx)(w:bf)(K:aN)(mg:cb)(base:Heap)(A:eu)(outer:List Env)(s:aW)(H:af):Prop where
 frames:A.frames=some outer
 mod:Mod K mg base
 bs:∀b o,base.get? b=some o->s.heap.get? b=some o/\H b=none
 sr:base.objs.size<=s.heap.objs.size
 lz:s.heap.FunFrames base outer
 uw:∀b∈fY outer,H b=none
 bo:gb P w H s.heap
 bare:tI s.gens
noncomputable def MC(a:List Env)(P:cx)(w:bf)(H:af)(s:aW)(Q:a4)(u:Value)(b:aW):Prop:=
 ∃v H',b.os=s.os/\tI b.gens/\iD (fY a) [] H H' s.heap b.heap/\gb P w H' b.heap/\RelV v u/\Q v H'
end
noncomputable def aby(c:nV)(a:List Env)(P:cx)(w:bf)(H:af)(s:aW)(Q:a4)(E:bY)(r:vR)(b:aW):Prop:=
 match r with
 |.ok (.ret u)=>MC a P w H s Q u b
 |.ok _=>False
 |.error e=>c a H s E e b
structure aD(P:cx)(w:bf)(K:aN)(mg:cb)(base:Heap)(CX:nV)(k:Nat)(f:Addr)(fd:nY)(ps:cK)(sp:fu):Prop where
 len:∀vs H Q E,sp vs H Q E->vs.length=ps.length
 run:∀(A:eu)(outer:List Env)(s:aW)(H:af)(args:Args)(us:dx)(vs:aO)(Q:a4)(E:bY),gF k A->xj P w K mg base A outer s H->C3 s fd args (ps.zip us)->de vs us->sp vs H Q E->
  ni (bg P w) A (.call (.ref f) args) (aby CX outer P w H s Q E) s
theorem aD.mono{w:bf}{K:aN}{c:cb}{a:Heap}{j k:Nat}{f:Addr}(F:aD P w K c a e j f fd i sp)(h:j<=k):
  aD P w K c a e k f fd i sp:=#[F.len,λA b s H args g vs Q E d=>F.run A b s H args g vs Q E (d.mono h)]
theorem xj.make{w:bf}{K:aN}{b:cb}{a:Heap}{A:eu}(e:xj P w K b a A outer s H)(C:Addr)(d:dx)(c:List (Str×Value)):
  xj P w K b a (A.under (.builtin "type.__call__" #[.ref C::d,c])) outer s H:=#[by first|exact e.frames|(simpa[VY,Code.envs,Wq,pushEnvs]using e.frames),e.mod,e.bs,e.sr,e.lz,e.uw,e.bo,e.bare]
section
variable{X:bH}{pins:ee}{U:St}{H:af}{s s':aW}
theorem Inv.JH(I:Inv X pins U H s):xj X.prog X.w X.K X.mg X.base X.A X.stack s H:=
 #[I.ok.frames,I.ok.mod,I.bs,dX I.ok.sr I.nQ,I.stack,I.LG,I.bo,I.bare]
theorem Inv.after(I:Inv X pins U H s)(h:MC X.stack X.prog X.w H s Q u s'):iT X pins U Q u s':=by obtain⟨v,H',os,a,l,f,r,q⟩:=h;obtain⟨k,g,d,t,c⟩:=s';obtain rfl:c=s.os:=os;show#[v,H',I.call (h':=k) (g':=g) (d':=d) (t':=t) (ch:=[]) l f a (λb z=>bG z (by simp)),r,q]
end
noncomputable def ZE(sp:fu)(b:aO)(E:bY)(t:gf):TE:=λU H Q=>t U H λvs a=>sp (vs++b) a Q E
inductive akl(C:Addr)(m:Str)(x:V)(H1:af)(R:Prop):Prop where
 |mk(a:_)(ag:_)(fs:_)(_:x=.ref a)(_:H1 a=some (.ins C ag fs))(_:fs.lookup m=none)(_:R)
noncomputable def C7(C:Addr)(m:Str)(sp:fu)(d:aO)(E:bY)(c:TE)(t:gf):TE:=λU H Q=>c U H λx a=>akl C m x a (t U a λvs b=>sp (x::(vs++d)) b Q E)
noncomputable def ZV(C:Addr)(sp:fu)(d:aO)(E:bY)(t:gf):TE:=λU H Q=>t U H λvs b=>∀x a,b x=none->b a=none->a≠x->
 sp (.ref x::(vs++d)) (upd (upd b a (.own x)) x (.ins C a [])) (λv c=>v=.b3/\Q (.ref x) c) E
noncomputable def Binds(K:aN)(c:nY)(b:cK)(ds:dx):Prop:=
 ∀(s:aW)(a:dx),K.In s.heap->(a++ds).length=b.length->C3 s c #[a,[]] (b.zip (a++ds))
theorem Binds.all{K:aN}{b:cK}(h:∀a:List Value,a.length=b.length->Jw fd #[a,[]]=pure (b.zip a)):Binds K fd b []:=λs a _ c=>by rw[sa]at c⊢;exact .of_eq (h a c)
noncomputable def ou(c:nV)(X:bH)(E:bY):Prop:=∀(a:ee)(U:St)(H:af)(s:aW)(e:Value)(b:aW),Inv X a U H s->c X.stack H s E e b->X.er e b
section
variable{X:bH}{CX:nV}{k:Nat}{f C:Addr}{fd:nY}{ps:cK}{sp:fu}{jh:aO}{ds:dx}{E:bY}{x m:Str}{p pos gr:Pos}{e o:Expr}{es:h3}{cq:TE}{t:gf}
theorem HA{us:dx}{vs:aO}(F:aD X.prog X.w X.K X.mg X.base CX k f fd ps sp)(d:gF k X.A)(c:Binds X.K fd ps ds)(n:de jh ds)(g:ou CX X E)(I:Inv X pins U H s)(r:de vs us)(h:sp (vs++jh) H Q E):aT (bg X.prog X.w) X.A (call (.ref f) us) (iT X pins U Q) X.er s:=by
 have b:de (vs++jh) (us++ds):=r.append n;have l:(us++ds).length=ps.length:=by rw[<-b.length];exact F.len _ _ _ _ h
 refine rV (q6 (F.run X.A X.stack s H #[us,[]] (us++ds) (vs++jh) Q E d I.JH (c s us I.eL l) b h) λr w a=>?_);cases r with
 |error e=>exact g pins U H s e w I a
 |ok gi=>
  cases gi with
  |ret u=>exact I.after a
  |next=>exact ju a
  |brk=>exact ju a
  |cont=>exact ju a
theorem ag2(F:aD X.prog X.w X.K X.mg X.base CX k f fd ps sp)(g:gF k X.A)(w:jb X x)(A:X.mg x=some (.ref f))(c:mj X.K (.ref f)=true)(d:Binds X.K fd ps ds)(y:de jh ds)(l:ou CX X E)(n:hg X (e::es) t)(K:(x==("__debug__":Str))=false:=by decide)(z:d2 (e::es) X.env=(false,eval e X.env)::d2 es X.env:=by rfl)(fI:(hJ pos (d2 es X.env)).any (·.1)=false:=by rfl):
  bA X (.Call (.Name x p) (e::es) [] pos) (ZE sp jh E t):=by intro a s U H Q I h;refine w9 (s3 I w A ?_ K);refine Ax (h₀:=X.base) I.ok.mod.sY c (bU (n pos a s U H _ I h) λV N⟨vs,L,b,r,q⟩=>#[b.eL,?_]) z fI;exact HA F g d y l b r q
theorem fy{pl:Sem Bool}(J:bA X o cq)(c:dM X.K C)(n:Meth X.K C m f)(F:aD X.prog X.w X.K X.mg X.base CX k f fd ps sp)(L:gF k X.A)(K:Binds X.K fd ps ds)(G:de jh ds)(N:ou CX X E)(V:hg X (e::es) t)(M:d2 (e::es) X.env=(false,eval e X.env)::d2 es X.env:=by rfl)(fI:(hJ pos (d2 es X.env)).any (·.1)=false:=by rfl)(j:eval (.Call (.Attribute o m gr) (e::es) [] pos) X.env=(do
   let w <-eval o X.env
   wZ gr.atName
   let(f,first) <-uK [w] (A9 w m pl)
   AR pos f first (hJ pos (d2 (e::es) X.env)) (n' pos (ox [] X.env))):=by rfl):
  bA X (.Call (.Attribute o m gr) (e::es) [] pos) (C7 C m sp jh E cq t):=by intro b s U H Q I h;refine IL (pl:=pl) (bU (J b s U H _ I h) λu O z=>?_) j;obtain⟨x,y,d,i,a,P,T,D,A,l,q⟩:=z;subst D;obtain rfl:u=cX a:=i;refine Lf d A c n l ?_;refine Ax (first:=[.ref a]) (h₀:=X.base) I.ok.mod.sY n.eJ (bU (V pos b O U y _ d q) λus Y⟨vs,R,g,r,B⟩=>#[g.eL,?_]) M fI;exact HA (us:=.ref a::us) (vs:=.ref a::vs) F L K G N g (.cons rfl r) B
theorem iG{pl:Sem Bool}(i:bA X o cq)(c:dM X.K C)(g:Meth X.K C m f)(F:aD X.prog X.w X.K X.mg X.base CX k f fd ps sp)(z:gF k X.A)(y:Binds X.K fd ps ds)(V:de jh ds)(A:ou CX X E)(L:eval (.Call (.Attribute o m gr) [] [] pos) X.env=(do
   let n <-eval o X.env
   wZ gr.atName
   let(f,first) <-uK [n] (A9 n m pl)
   AR pos f first (hJ pos (d2 [] X.env)) (n' pos (ox [] X.env))):=by rfl):
  bA X (.Call (.Attribute o m gr) [] [] pos) (C7 C m sp jh E cq xi):=by intro b s U H Q I h;refine IL (pl:=pl) (bU (i b s U H _ I h) λu G r=>?_) L;obtain⟨x,j,d,K,a,B,D,N,w,l,q⟩:=r;subst N;obtain rfl:u=cX a:=K;refine Lf d w c g l ?_;exact YK (first:=[.ref a]) d.eL g.eJ (HA (us:=[.ref a]) (vs:=[.ref a]) F z y V A d (.cons rfl .nil) q)
structure lq(K:aN)(C f:Addr):Prop where
 makes:DY K C=true
 init:cD K (.ref C) "__init__"=some (some (.ref f))
 fn:ua K (.ref f)=true
 eJ:mj K (.ref C)=true
theorem Ww{H:af}{Q:a4}{us:dx}{vs:aO}(M:lq X.K C f)(F:aD X.prog X.w X.K X.mg X.base CX k f fd ps sp)(w:gF (k+1) X.A)(l:Binds X.K fd ps ds)(N:de jh ds)(y:ou CX X E)(I:Inv X pins U H s)(r:de vs us)(h:∀x b,H x=none->H b=none->b≠x->sp (.ref x::(vs++jh)) (upd (upd H b (.own x)) x (.ins C b [])) (λv n=>v=.b3/\Q (.ref x) n) E):
  aT (bg X.prog X.w) X.A (call (.ref C) us) (iT X pins U Q) X.er s:=by
 have d:=h (s.heap.objs.size+1) s.heap.objs.size (I.bo.fresh (vL _)) (I.bo.fresh (cB _)) (eT (xI _));have c:=Inv.made (C:=C) I;have g:de (V.ref (s.heap.objs.size+1)::(vs++jh)) (cX (s.heap.objs.size+1)::(us++ds)):=.cons rfl (r.append N);have z:(cX (s.heap.objs.size+1)::us++ds).length=ps.length:=by have e:=g.length;rw[F.len _ _ _ _ d]at e;exact e.symm
 refine rV (afb (f:=f) I.eL M.makes M.init (qS.mp M.fn) (q6 (F.run _ X.stack _ _ #[cX (s.heap.objs.size+1)::us,[]] (cX (s.heap.objs.size+1)::(us++ds)) _ _ E (w.make C us [])
  (c.JH.make C us []) (l _ (cX (s.heap.objs.size+1)::us) c.eL z) g d) λr j a=>?_))
 cases r with
 |error e=>exact y pins U _ _ e j c a
 |ok gi=>
  cases gi with
  |ret u=>
   obtain⟨v,H',K,A,L,i⟩:=c.after a;subst L;show#[A,#[V.ref (s.heap.objs.size+1),H',K,rfl,i]]
  |next=>exact ju a
  |brk=>exact ju a
  |cont=>exact ju a
theorem o4(M:lq X.K C f)(F:aD X.prog X.w X.K X.mg X.base CX k f fd ps sp)(d:gF (k+1) X.A)(n:jb X x)(z:X.mg x=some (.ref C))(c:Binds X.K fd ps ds)(w:de jh ds)(g:ou CX X E)(l:hg X (e::es) t)(A:(x==("__debug__":Str))=false:=by decide)(y:d2 (e::es) X.env=(false,eval e X.env)::d2 es X.env:=by rfl)(fI:(hJ pos (d2 es X.env)).any (·.1)=false:=by rfl):
  bA X (.Call (.Name x p) (e::es) [] pos) (ZV C sp jh E t):=by intro a s U H Q I h;refine w9 (s3 I n z ?_ A);refine Ax (h₀:=X.base) I.ok.mod.sY M.eJ (bU (l pos a s U H _ I h) λN L⟨vs,K,b,r,q⟩=>#[b.eL,?_]) y fI;exact Ww M F d c w g b r q
theorem afc(M:lq X.K C f)(F:aD X.prog X.w X.K X.mg X.base CX k f fd ps sp)(c:gF (k+1) X.A)(g:jb X x)(n:X.mg x=some (.ref C))(b:Binds X.K fd ps ds)(l:de jh ds)(d:ou CX X E)(r:(x==("__debug__":Str))=false:=by decide):bA X (.Call (.Name x p) [] [] pos) (ZV C sp jh E xi):=by intro a s U H Q I h;refine w9 (s3 I g n ?_ r);exact YK I.eL M.eJ (Ww (us:=[]) M F c b l d I .nil h)
end
noncomputable def N2(X:bH)(c:List xy)(t:gf):Prop:=
 ∀(b:Pos)(a:ee)(s:aW)(U:St)(H:af)(Q:List V->af->Prop),Inv X a U H s->t U H Q->aT (bg X.prog X.w) X.A (evalAll ((n' b (ox c X.env)).map (·.2))) (VM X a U Q) X.er s
section
variable{X:bH}{CX:nV}{k:Nat}{f C:Addr}{fd:nY}{ps dv:cK}{sp:fu}{E:bY}{x m:Str}{p pos gr aqi:Pos}{e o:Expr}{es:h3}{Ff:List xy}{cM cq:TE}{t bC:gf}{nm:Option Str}
theorem ajb:N2 X [] xi:=λ_ _ _ _ H Q I h=>wpAny_evalAll_nil #[[],H,I,.nil,h]
theorem ag3(l:bA X e cM)(g:N2 X Ff t):N2 X (#[nm,e,aqi]::Ff) (pb cM t):=by intro pos a s U H Q I h;show aT _ _ (evalAll ((do let v <-eval e X.env;wZ pos;pure v)::(n' pos (ox Ff X.env)).map (·.2))) _ _ s;refine wpAny_evalAll_cons (aE (bU (l a s U H _ I h) λu A⟨x,b,c,w,n⟩=>aE (L_ (bW ?_))));exact bU (g pos a A U b _ c n) λN L⟨K,d,r,z,y⟩=>#[x::K,d,r,.cons w z,y]
end
structure cI(N P:cK)(sc:Scope):Prop where
 kind:sc.kind=.function:=by rfl
 co:sc.isCoroutine=false:=by rfl
 gen:sc.isGenerator=false:=by rfl
 aI:N.Nodup:=by decide +kernel
 pre:N.take P.length=P:=by rfl
 par:∀x∈P,sc.names.lookup x=some .local\/sc.names.lookup x=some .cell:=by decide +kernel
 aq5:∀y∈sc.names,y.2≠.free:=by decide +kernel
theorem VO{kindOf:Str->Option xG}:∀{a:List (Str×Value)}{m:cb},(∀v,(x,v)∉a)->x4 kindOf a m x=m x
 |[],_,_=>rfl
 | (n,v)::r,m,h=>by
  unfold x4;rw[VO λw b=>h w (n3 _ b)];split
  .have:x≠n:=by rintro rfl;exact h v vD
   simp[this]
  rfl
theorem VP{kindOf:Str->Option xG}:∀{a:List (Str×Value)}{m:cb},(∀v,(x,v)∉a)->x3 kindOf a m x=m x
 |[],_,_=>rfl
 | (n,v)::r,m,h=>by
  unfold x3;rw[VP λw b=>h w (n3 _ b)];split
  .rfl
  have:x≠n:=by rintro rfl;exact h v vD
  simp[this]
theorem VQ{kindOf:Str->Option xG}:∀{P:cK}{vs:dx}{i:Nat}{m:cb},P.Nodup->P[i]?=some x->vs[i]?=some v->kindOf x=some .local->
  x4 kindOf (P.zip vs) m x=some v
 |[],_,_,_,_,h,_,_=>by simp at h
 |_::_,[],_,_,_,_,h,_=>by simp at h
 |p::P,w::vs,0,m,aI,ah,aj,e=>by simp at ah aj;subst ah;subst aj;show x4 kindOf ((p,w)::P.zip vs) m p=_;unfold x4;rw[VO λv a=>(jw.mp aI).1 (X_ a).1,bS e];simp
 |p::P,w::vs,i+1,m,aI,ah,aj,e=>by show x4 kindOf ((p,w)::P.zip vs) m x=_;unfold x4;exact VQ (i:=i) (jw.mp aI).2 (by simpa using ah) (by simpa using aj) e
theorem VR{kindOf:Str->Option xG}:∀{P:cK}{vs:dx}{i:Nat}{m:cb},P.Nodup->P[i]?=some x->vs[i]?=some v->kindOf x≠some .local->
  x3 kindOf (P.zip vs) m x=some v
 |[],_,_,_,_,h,_,_=>by simp at h
 |_::_,[],_,_,_,_,h,_=>by simp at h
 |p::P,w::vs,0,m,aI,ah,aj,e=>by simp at ah aj;subst ah;subst aj;show x3 kindOf ((p,w)::P.zip vs) m p=_;unfold x3;rw[VP λv a=>(jw.mp aI).1 (X_ a).1,bx e];simp
 |p::P,w::vs,i+1,m,aI,ah,aj,e=>by show x3 kindOf ((p,w)::P.zip vs) m x=_;unfold x3;exact VR (i:=i) (jw.mp aI).2 (by simpa using ah) (by simpa using aj) e
noncomputable def start(N:cK)(vs:aO):St:=vs.map some++m5 (N.length-vs.length) none
noncomputable def j8(g:nV)(P:cx)(w:bf)(K:aN)(mg:cb)(base:Heap)(N:cK)(b:Str)(a:Scope)(f:Addr)(c:Value)(A:eu)(outer:List Env)(s:aW)(H:af)(E:bY):bH where
 prog:=P
 w:=w
 K:=K
 mg:=mg
 base:=base
 A:=A.deeper (p4 b a s.heap.objs.size f c)
 N:=N
 i5:=s
 nZ:=H
 env:=p4 b a s.heap.objs.size f c
 outer:=outer
 stack:=p4 b a s.heap.objs.size f c::outer
 ex:=[]
 calm:=true
 fn:=λ_=>true
 fA:=[]
 er:=λe k=>aT (bg P w) (A.deeper (p4 b a s.heap.objs.size f c)) (leaving (p4 b a s.heap.objs.size f c) e) (λ_ d=>g outer H s E e d) (λh d=>g outer H s E h d) k
theorem Wu{a:Scope}{n:Nat}(h:a.names.lookup x=some .cell):∃c,(Ð n a.names []).lookup x=some c:=by have q:=afw a.names n [] (.inl h);exact xK.mp q
theorem ad9{w:bf}{K:aN}{D:cb}{l:Heap}{t:cK}{d:Scope}{f:Addr}{A:eu}{s:aW}{F:dx}{vs:aO}(S:cI N t d)(R:A.handled=none)(m:xj P w K D l A outer s H)(T:vs.length=t.length)(r:de vs F)(x:InCallC s s.heap.objs.size (x4 (p4 qual d s.heap.objs.size f C).kindOf (t.zip F) λ_=>none) (Ð (s.heap.objs.size+1) d.names []) (x3 (p4 qual d s.heap.objs.size f C).kindOf (t.zip F) λ_=>none) s1):
  Inv (j8 M P w K D l N qual d f C A outer s H E) [] (start N vs) H s1:=by
 have fI:t.length<=N.length:=by have:=fa sb S.pre;rw[ll]at this;omega
 obtain⟨V,U,rfl,G⟩:=x.done;have B:∀b:Addr,b∉(j8 M P w K D l N qual d f C A outer s H E).ex:=λb z=>bG (show b∈([]:bL)from z) (by simp);show#[#[m.mod,S.kind,rfl,rfl,cB _,λy z c V g=>?_,λy o=>?_,λy c _ h=>?_,λ_=>R,Around.frames_deeper m.frames,.inr #[rfl,rfl],λb z=>bG z (B b),m.bs,m.sr,λb _ _=>B b,λb z=>bG z (B b),m.lz,m.uw],
  rfl,m.bare,iD.kept G,#[_,x.toInCall.ns,λi y v V g X=>?_],λy c h=>#[_,x.cell y c h],m.bo.fresh (cB _),λy c h=>?_,λp L=>bG (show p∈([]:ee)from L) (by simp),m.bo.kept G,?_]
 .exact name_of_addr x.apart (DZ V) (DZ g)
 .have o:d.names.lookup y=some .cell\/d.names.lookup y=some .free:=o;rcases o with o|o
  .exact Wu o
  exact bG rfl (S.aq5 _ (DZ o))
 .exact mi (x.above y c (DZ h))
 .have j:i<vs.length:=by
   unfold start at g;by_cases j:i<vs.length
   .exact j
   rw[Dz (by simpa using j)]at g;rw[List.getElem?_replicate]at g;split at g<;>cases g
  have O:vs[i]?=some v:=by
   unfold start at g;rw[Iu (by simpa using j),dV]at g;cases e:vs[i]? with
   |none=>rw[e]at g;cases g
   |some a=>rw[e]at g;cases g;rfl
  obtain⟨u,I,Q⟩:=r.get O;have L:t[i]?=some y:=by rw[<-S.pre,List.getElem?_take_of_lt (by omega)];exact V
  have J:t.Nodup:=by rw[<-S.pre];exact S.aI.sublist (DD _ _)
  show#[u,Q,?_];rcases S.par y (fC L)with k|k
  .exact .inl #[k,VQ J L I k]
  obtain⟨c,e⟩:=Wu (n:=s.heap.objs.size+1) k;refine .inr #[.inl k,c,e,?_];have q:=x.cell y c e;rw[VR J L I (by show d.names.lookup y≠_;rw[k];decide)]at q;exact q
 .exact m.bo.fresh (mi (x.above y c (DZ h)))
 unfold start;show _=N.length;rw[eM,bP,NJ];omega
theorem N7{w:bf}{K:aN}{z:cb}{c:Heap}{k:Nat}{f:Addr}{name:Str}{d:Arguments}{g:List Stmt}{dq k6:Value}{dj:Option Addr}{mQ:mr}{L:cK}{sp:fu}(lk:K.lookup f=some #[k6,dj,.func (m9 name qual d g scope R dq doc pm an i fv),mQ])(ny:DX K i qual=true)(S:cI N L scope)(len:∀vs H Q E,sp vs H Q E->vs.length=L.length)(yu:∀(A:eu)(a:List Env)(s:aW)(H:af)(vs:aO)(Q:a4)(E:bY),gF k (A.deeper (p4 qual scope s.heap.objs.size f i))->sp vs H Q E->
   ∃t,h8 (j8 j P w K z c N qual scope f i A a s H E) g t/\t {di:=λ_ H'=>Q .b3 H',u2:=Q} (start N vs) H):
  aD P w K z c j (k+1) f (m9 name qual d g scope R dq doc pm an i fv) L sp:=by
 show#[len,λA a s H args us vs Q E B l T r G=>?_];have U:=len _ _ _ _ G;have M:K.In s.heap:=l.mod.sY.keeps λb o e=>(l.bs b o e).1;have D:s.heap.NoLimit:=l.mod.nolimit.keeps λb o e=>(l.bs b o e).1;have uH:∀y∈L.zip us,scope.names.lookup y.1=some .local\/(scope.names.lookup y.1=some .cell/\((Ð (s.heap.objs.size+1) scope.names []).lookup y.1).isSome=true):=λ⟨n,v⟩X=>by
  rcases S.par n (X_ X).1 with q|q
  .exact .inl q
  exact .inr #[q,afw _ _ _ (.inl q)]
 refine codeAny_call_function B.depth (M _ _ lk) rfl S.co S.gen rfl (PySem.W.codeRec_of M ny) (T _ _ _ _ ?_);refine wpAny_newFunctionEnv_cells S.kind uH λenv he O x=>?_;subst he;show#[D.keeps x.toInCall.keep,codeAny_func ?_];obtain⟨t,Z,Y⟩:=yu A a s H vs Q E (B.deeper _) G;have I:Inv (j8 j P w K z c N qual scope f i A a s H E) [] (start N vs) H O:=ad9 S B.hd l U r x;refine ih (Z [] O (start N vs) H _ I Y) (λgi F h=>?_) λe F h=>h;have m:∀{p:St}{H':af}{v:V}{u:Value},Inv (j8 j P w K z c N qual scope f i A a s H E) [] p H' F->RelV v u->Q v H'->MC a P w H s Q u F:=
  λ{p H' v u}J C q=>#[v,H',J.os,J.bare,J.base,J.bo,C,q]
 cases gi with
 |ret u=>
  obtain⟨v,p,H',J,C,q⟩:=h;exact m J C q
 |next=>
  obtain⟨p,H',J,q⟩:=h;exact m (v:=V.b3) (u:=fP) J rfl q
 |brk=>
  obtain⟨_,_,_,q⟩:=h;exact ju q
 |cont=>
  obtain⟨_,_,_,q⟩:=h;exact ju q
section
variable{X:bH}{x:Str}{p pos:Pos}{e:Expr}{es:h3}{t:gf}{id T:String}{r:List V->af->a4->Prop}
noncomputable def w1(r:List V->af->a4->Prop)(t:gf):TE:=λU H Q=>t U H λvs a=>r vs a Q
theorem eD(f:kt X (.builtin id) r)(w:X.mg x=none)(m:iX x=some (.builtin id))(g:hg X (e::es) t)(l:jb X x:=by rfl)(c:x≠"__name__":=by decide)(y:(x==("__debug__":Str))=false:=by decide)(o:d2 (e::es) X.env=(false,eval e X.env)::d2 es X.env:=by rfl)(fI:(hJ pos (d2 es X.env)).any (·.1)=false:=by rfl):bA X (.Call (.Name x p) (e::es) [] pos) (w1 r t):=by intro a s U H Q I h;refine w9 (zq I l w m ?_ c y);exact afe (bU (g pos a s U H _ I h) λA z⟨vs,b,d,n,k⟩=>f a z U b vs A Q d n k) o fI
theorem hC(f:kt X (.type T) r)(w:X.mg x=none)(m:iX x=some (.type T))(g:hg X (e::es) t)(l:jb X x:=by rfl)(c:x≠"__name__":=by decide)(y:(x==("__debug__":Str))=false:=by decide)(o:d2 (e::es) X.env=(false,eval e X.env)::d2 es X.env:=by rfl)(fI:(hJ pos (d2 es X.env)).any (·.1)=false:=by rfl):bA X (.Call (.Name x p) (e::es) [] pos) (w1 r t):=by intro a s U H Q I h;refine w9 (zq I l w m ?_ c y);exact N8 (bU (g pos a s U H _ I h) λA z⟨vs,b,d,n,k⟩=>f a z U b vs A Q d n k) o fI
end
end ao
namespace gc
open PySem PyProof.Rows
noncomputable def lexLt:List Int->List Int->Bool
 |[],[]=>false
 |[],_::_=>true
 |_::_,[]=>false
 |x::xs,y::e=>if x=y then lexLt xs e else decide (x<y)
section
variable{prog:cx}{w:bf}{A:eu}{E:cW}{s:aW}
noncomputable def hq(n d:Nat):Option Int->Nat
 |none=>d
 |some v=>if v<0 then(v+(n:Int)).toNat else min v.toNat n
theorem arX(n d:Nat):hq n d none=d:=rfl
theorem Lu(n d k:Nat):hq n d (some (k:Int))=min k n:=by show(if(k:Int)<0 then((k:Int)+(n:Int)).toNat else min (k:Int).toNat n)=min k n;rw[bx (by omega),mZ]
theorem ž(n d:Nat)(b:d<=n)(o:Option Int):hq n d o<=n:=by
 cases o with
 |none=>exact b
 |some v=>
  show(if v<0 then(v+(n:Int)).toNat else min v.toNat n)<=n;by_cases a:v<0
  .rw[bS a];omega
  rw[bx a];exact DP _ _
theorem anA(a n:Nat):((min a n:Nat):Int)=min (a:Int) (n:Int):=by
 rcases Nat.le_total a n with h|h
 .rw[NT h,acs (acw.mpr h)]
 rw[aeu h,Int.min_eq_right (acw.mpr h)]
end
end gc
namespace ao
open PySem PySem.Spec PyProof.Rows
noncomputable abbrev fN:=St->af->(Option Int->af->Prop)->Prop
noncomputable def II(X:bH)(e:Option Expr)(t:fN):Prop:=
 ∀(a:ee)(s:aW)(U:St)(H:af)(Q:Option Int->af->Prop),Inv X a U H s->t U H Q->
  aT (bg X.prog X.w) X.A (evalPart e X.env) (λu b=>∃o H',Inv X a U H' b/\IsPart u o/\Q o H') X.er s
noncomputable def ag4:fN:=λ_ H Q=>Q none H
noncomputable def akm(t:TE):fN:=λU H Q=>t U H λx a=>∃i,x=.int i/\Q (some i) a
section
variable{X:bH}{e:Expr}{cM:TE}{lo hi:Option Expr}{d_ tn:fN}{pos en:Pos}
theorem Mv:II X none ag4:=by intro a s U H Q I h;rw[evalPart_none];exact bW #[none,H,I,.none,h]
theorem GQ(h:bA X e cM):II X (some e) (akm cM):=by intro a s U H Q I k;rw[evalPart_some];refine bU (h a s U H _ I k) λu l c=>?_;obtain⟨x,b,d,g,f⟩:=c;obtain⟨i,rfl,q⟩:=f;obtain⟨t,rfl⟩:=g;show#[some i,b,d,.int i t,q]
noncomputable def Ol(X:bH)(r:V->Option Int->Option Int->af->a4->Prop):Prop:=
 ∀(a:ee)(s:aW)(U:St)(H:af)(x:V)(v c d:Value)(lo hi:Option Int)(b:Addr)(Q:a4),Inv X a U H s->RelV x v->s.heap.IsSliceOf b c d .none->IsPart c lo->IsPart d hi->r x lo hi H Q->
  ∃T id,typeLookup (.type T) "__getitem__"=pure (some (.builtin id))/\s.TypeIs v T/\aT (bg X.prog X.w) X.A (ED v (.ref b)) (iT X a U Q) X.er s
noncomputable def asu(r:V->Option Int->Option Int->af->a4->Prop)(cM:TE)(d_ tn:fN):TE:=λU H Q=>cM U H λx a=>d_ U a λl b=>tn U b λu c=>r x l u c Q
theorem LU{r:V->Option Int->Option Int->af->a4->Prop}(p:Ol X r)(j:bA X e cM)(t:II X lo d_)(i:II X hi tn):bA X (.Subscript e (.Slice lo hi none en) pos) (asu r cM d_ tn):=by intro a s U H Q I h;refine Zt (bU (j a s U H _ I h) λv G g=>?_);obtain⟨x,m,n,A,w⟩:=g;refine wpAny_Slice (bU (t a G U m _ n w) λd J⟨l,o,y,E,L⟩=>bU (i a J U o _ y L) λf c g=>?_);obtain⟨u,k,N,F,C⟩:=g;rw[evalPart_none];refine bW ?_;have D:Inv X a U k {c with heap:=c.heap.push {cls:=.type "slice",data:=.fields (List.toArray [d,f,.none])}}:=N.kept (t':=c.toks) λb M q=>d0 _ q;obtain⟨T,id,B,K,z⟩:=p a {c with heap:=c.heap.push {cls:=.type "slice",data:=.fields (List.toArray [d,f,.none])}} U k x v d f l u c.heap.objs.size Q D A (Heap.IsSliceOf.new ..) E F C;show aT (bg X.prog X.w) X.A (aal e (.Slice lo hi none en) v (.ref c.heap.objs.size)) (iT X a U Q) X.er {c with heap:=c.heap.push {cls:=.type "slice",data:=.fields (List.toArray [d,f,.none])}};exact tail_any (ops:=[.ref c.heap.objs.size,v]) K B z (by with_unfolding_all rfl)
noncomputable def lN(a:aO)(lo hi:Option Int):List V:=(a.drop (gc.hq a.length 0 lo)).take (gc.hq a.length a.length hi-gc.hq a.length 0 lo)
theorem abW(a:aO)(lo hi:Option Int):(lN a lo hi).length<=a.length:=by unfold lN;rw[ll,X7];exact dX (DP _ _) (Nat.sub_le _ _)
noncomputable def yD(n:Nat)(i:Int):Option Nat:=if 0<=i then(if i<n then some i.toNat else none)else if -(n:Int)<=i then some (i+n).toNat else none
noncomputable def gT{b:Type}(a:List b)(i:Int):Option b:=(yD a.length i).bind λj=>a[j]?
end
theorem ag5{n:Nat}{i:Int}{j:Nat}(h:yD n i=some j):seqIndex? i n=some j/\j<n/\-(n:Int)<=i/\i<n:=by
 unfold yD at h;by_cases b:0<=i
 .rw[bS b]at h;by_cases a:i<n
  .rw[bS a]at h;have e:i.toNat=j:=hI h;show#[by rw[seqIndex_of b a,e],by omega,by omega,a]
  rw[bx a]at h;cases h
 rw[bx b]at h;by_cases a:-(n:Int)<=i
 .rw[bS a]at h;have e:(i+n).toNat=j:=hI h;show#[by rw[seqIndex_neg (by omega) a,e],by omega,a,by omega]
 rw[bx a]at h;cases h
theorem Mw{b:Type}{a:List b}{i:Int}{v:b}(h:gT a i=some v):∃j,seqIndex? i a.length=some j/\a[j]?=some v/\j<a.length/\-(a.length:Int)<=i/\i<a.length:=by
 unfold gT at h;cases e:yD a.length i with
 |none=>rw[e]at h;cases h
 |some j=>
  rw[e]at h;obtain⟨c,d,f,g⟩:=ag5 e;show#[j,c,h,d,f,g]
theorem iH{a:Type}{xs:List a}{j:Nat}{v:a}(h:xs[j]?=some v):gT xs (j:Int)=some v:=by
 have b:j<xs.length:=(gn.mp h).1;have e:yD xs.length (j:Int)=some j:=by unfold yD;rw[bS (by omega),bS (by omega)];simp
 unfold gT;rw[e];exact h
noncomputable def ag6(b:Expr):Prop:=∀o i,Uj b false o i=operate [o,i] (ED o i)
noncomputable def z5(X:bH)(r:gd):Prop:=
 ∀(c a:Expr)(b:ee)(s:aW)(U:St)(H:af)(x y:V)(v u:Value)(Q:a4),Inv X b U H s->RelV x v->RelV y u->r x y H Q->
  Uj a false v u=operate [v,u] (ED v u)->aT (bg X.prog X.w) X.A (aal c a v u) (iT X b U Q) X.er s
noncomputable def DN(X:bH)(id:String)(r:V->List V->af->a4->Prop):Prop:=
 ∀(a:ee)(s:aW)(U:St)(H:af)(x:V)(c:aO)(v:Value)(b:dx)(Q:a4),Inv X a U H s->RelV x v->de c b->r x c H Q->
  aT (bg X.prog X.w) X.A (call (.builtin id) (v::b)) (iT X a U Q) X.er s
section
variable{X:bH}{a b:Expr}{cq bj:TE}{pos:Pos}
theorem b8{r:gd}(g:z5 X r)(k:bA X a cq)(d:bA X b bj)(o:ag6 b:=by intro _ _;rfl):bA X (.Subscript a b pos) (Cz r cq bj):=by intro c s U H Q I h;exact Zt (OS k d I h λv u p x y f l m n q=>g a b c p U f x y v u Q l m n q (o _ _))
inductive OV(K:aN)(x:ao.V)(y:ao.V)(H:af)(Q:a4):Prop where
 |mk(p:_)(xs:_)(i:_)(v:_)(_:x=.ref p)(_:y=.int i)(_:aQ K H p xs)(_:gT xs i=some v)(_:Q v H)
inductive ο(K:aN)(x:ao.V)(y:ao.V)(H:af)(Q:a4):Prop where
 |mk(p:_)(xs:_)(i:_)(v:_)(_:x=.ref p)(_:y=.int i)(_:cV K H p xs)(_:gT xs i=some v)(_:Q v H)
inductive alM(x:ao.V)(y:ao.V)(H:af)(Q:a4):Prop where
 |mk(z:_)(i:_)(c:_)(_:x=.str z)(_:y=.int i)(_:z.length<=sizeLine)(_:gT z.cps.toList i=some c)(_:Q (.str ⟨#[c]⟩) H)
theorem eO:z5 X (OV X.K):=by
 intro n m c s U H x y v u Q I e C h A;obtain⟨p,P,i,z,rfl,rfl,V,E,q⟩:=h;cases e;obtain⟨t,rfl⟩:=C;obtain⟨k,r,l,J⟩:=I.list V;obtain⟨j,f,L,O,B,D⟩:=Mw E;obtain⟨w,K,F⟩:=r.get L;have N:=r.length;have M:=CH;have d:iT X c U Q w s:=#[z,H,I,F,q]
 by_cases o:0<=i
 .have g:i.toNat=j:=by rw[seqIndex_of o D]at f;exact hI f
  exact item_listR l.isList o (by omega) (by rw[g];simpa using K) d A
 have g:(i+(k.toArray.size:Int)).toNat=j:=by rw[seqIndex_neg (by omega) B]at f;rw[hz,<-N];exact hI f
 exact asj (x:=w) l.isList.typeIs asb.lookup
  (wpAny_getItem_list_neg (Q:=λr G=>r=w/\iT X c U Q r G) l.isList (by omega) (by rw[hz]<;>omega) (by omega) (by rw[g];simpa using K) #[rfl,d]) A
theorem eH:z5 X (ο X.K):=by
 intro g f c s U H x y v u Q I A K h N;obtain⟨p,M,i,z,rfl,rfl,o,L,q⟩:=h;cases A;obtain⟨t,rfl⟩:=K;obtain⟨e,r,k,D⟩:=I.tuple o;obtain⟨j,l,m,F,G,J⟩:=Mw L;obtain⟨w,B,V⟩:=r.get m;have n:=r.length;have E:=CH;have d:iT X c U Q w s:=#[z,H,I,V,q]
 exact asj (x:=w) k.typeIs slot_tuple_getitem.lookup
  (getItem_tuple (j:=j) (Q:=λr C=>r=w/\iT X c U Q r C) k (by omega) (by omega) (by rw[hz,<-n];exact l) (by simpa using B) #[rfl,d]) N
theorem Y1:z5 X alM:=by
 intro f d k s U H x y v u Q I p w h L;obtain⟨z,i,c,rfl,rfl,N,K,q⟩:=h;obtain⟨t,rfl⟩:=p;obtain⟨B,rfl⟩:=w;obtain⟨j,g,n,e,r,A⟩:=Mw K;have o:z.cps.toList.length=z.length:=by simp[Oq]
 rw[o]at g r A;have V:=CH;exact tail_any (GK s z t) slot_str_getitem.lookup (getItem_str (c:=c) (by
  have m:decide (i < -(2 ^ 63:Int))=false:=dt (by omega);have l:decide (i≥2 ^ 63)=false:=dt (by omega);rw[m,l,Bool.or_false]) (by rw[g];simpa using n) #[.str ⟨#[c]⟩,H,I.tok _,#[_,rfl],q]) L
theorem Yz(i:Int)(n d:Nat):max 0 (min (if i<0 then i+(n:Int)else i) (n:Int))=((gc.hq n d (some i):Nat):Int):=by
 show _=(((if i<0 then(i+(n:Int)).toNat else min i.toNat n):Nat):Int);by_cases h:i<0
 .rw[bS h,bS h,acs (Xe (Int.add_le_add_right (Xd h) _) (Int.le_of_eq (pK _))),Int.toNat_eq_max,Int.max_comm]
 have c:0<=i:=Int.not_lt.mp h;rw[bx h,bx h,gc.anA,xt c,Int.max_eq_right (Int.le_min.mpr #[c,Int.natCast_nonneg _])]
theorem abA(lo c:Option Int)(n:Nat):(aad lo c none n).1=((gc.hq n 0 lo:Nat):Int)/\(aad lo c none n).2.1=((gc.hq n n c:Nat):Int)/\(aad lo c none n).2.2=1:=by
 show#[?_,?_,rfl]
 .cases lo with
  |none=>rfl
  |some i=>exact Yz i n 0
 cases c with
 |none=>rfl
 |some i=>exact Yz i n n
theorem ato(c:dx)(lo d:Option Int):slicePick c.toArray lo d none=((c.drop (gc.hq c.length 0 lo)).take (gc.hq c.length c.length d-gc.hq c.length 0 lo)).toArray:=by obtain⟨f,g,h⟩:=abA lo d c.toArray.size;unfold slicePick;rw[f,g,h];simp only[asa,pick_run,hz]<;>rfl
inductive alN(K:aN)(x:V)(lo:(Option Int))(hi:(Option Int))(H:af)(Q:a4):Prop where
 |mk(a:_)(xs:_)(_:x=.ref a)(_:aQ K H a xs)(_:∀p,H p=none->Q (.ref p) (upd H p (.lst (lN xs lo hi))))
theorem MG:Ol X (alN X.K):=by intro k s U H x v K L lo f z Q I n p w y h;obtain⟨a,c,rfl,m,q⟩:=h;cases n;obtain⟨t,r,g,l⟩:=I.list m;have d:=r.length;show#["list",_,asb.lookup,g.isList.typeIs,?_];refine wpAny_getItem_list_slice g.isList p w y .none (by simp) ?_ (by rw[hz]<;>omega);rw[ato,<-d];show#[.ref s.heap.objs.size,_,I.laid (t':=s.toks) (o:=.lst (lN c lo f)) (λb A q=>d0 _ q) (cB _) ?_,rfl,q _ (I.bo.fresh (cB _))];show#[dX (abW c lo f) l,_,0,(r.drop (gc.hq c.length 0 lo)).take (gc.hq c.length c.length f-gc.hq c.length 0 lo),gG _ rfl]
noncomputable def qm:V->Bool
 |.b3=>true
 |.aV _=>true
 |.int _=>true
 |.str _=>true
 |_=>false
noncomputable def v5:V->V->Bool
 |.b3,.b3=>true
 |.aV a,.aV b=>a==b
 |.aV a,.int b=>(if a then 1 else 0)==b
 |.int a,.aV b=>a==(if b then 1 else 0)
 |.int a,.int b=>a==b
 |.str a,.str b=>a==b
 |_,_=>false
theorem ajc(f:RelV y u)(c:RelV x v)(h:qm y=true)(g:qm x=true):agE A s u v (v5 y x):=by
 cases y with
 |b3=>
  cases f;cases x with
  |b3=>cases c;exact SeqAt.EqAt.same _
  |aV b=>cases c;exact SeqAt.EqAt.none_bool b
  |int b=>obtain⟨t,rfl⟩:=c;exact SeqAt.EqAt.none_int b t
  |str b=>obtain⟨t,rfl⟩:=c;exact SeqAt.EqAt.none_str b t
  |_=>exact bG (show false=true from g) ha
 |aV a=>
  cases f;cases x with
  |b3=>cases c;exact SeqAt.EqAt.bool_none a
  |aV b=>cases c;exact SeqAt.EqAt.bool_bool a b
  |int b=>obtain⟨t,rfl⟩:=c;exact SeqAt.EqAt.bool_int a b t
  |str b=>obtain⟨t,rfl⟩:=c;exact SeqAt.EqAt.bool_str a b t
  |_=>exact bG (show false=true from g) ha
 |int a=>
  obtain⟨d,rfl⟩:=f;cases x with
  |b3=>cases c;exact SeqAt.EqAt.int_none a d
  |aV b=>cases c;exact SeqAt.EqAt.int_bool a d b
  |int b=>obtain⟨t,rfl⟩:=c;exact SeqAt.EqAt.int_int a d b t
  |str b=>obtain⟨t,rfl⟩:=c;exact agF a d b t
  |_=>exact bG (show false=true from g) ha
 |str a=>
  obtain⟨d,rfl⟩:=f;cases x with
  |b3=>cases c;exact SeqAt.EqAt.str_none a d
  |aV b=>cases c;exact SeqAt.EqAt.str_bool a d b
  |int b=>obtain⟨t,rfl⟩:=c;exact agG a d b t
  |str b=>obtain⟨t,rfl⟩:=c;exact SeqAt.EqAt.str_str a d b t
  |_=>exact bG (show false=true from g) ha
 |_=>exact bG (show false=true from h) ha
noncomputable def nu(x:V)(u:Value):Bool:=match u with
 |.none=>v5 .b3 x
 |.bool b=>v5 (.aV b) x
 |.int i _=>v5 (.int i) x
 |.str z _=>v5 (.str z) x
 |_=>false
theorem YA(r:RelV y u)(f:qm y=true):nu x u=v5 y x:=by
 cases y with
 |b3=>cases r;rfl
 |aV b=>cases r;rfl
 |int i=>obtain⟨t,rfl⟩:=r;rfl
 |str z=>obtain⟨t,rfl⟩:=r;rfl
 |_=>exact bG (show false=true from f) ha
theorem GR:∀{c:aO}{d:dx},de c d->c.all qm=true->d.any (nu x)=c.any λy=>v5 y x
 |_,_,.nil,_=>rfl
 |y::c,u::d,.cons r t,f=>by rw[XZ,i']at f;rw[Iq,Iq,YA r f.1,GR t f.2]
theorem Gf(h:RelV x v)(k:qm x=true):∀{g:aO}{d:dx},de g d->g.all qm=true->∀u∈d,agE A s u v (nu x u)
 |_,_,.nil,_=>λu c=>by cases c
 |y::g,u::d,.cons r t,f=>λl c=>by
  rw[XZ,i']at f;rcases dr.mp c with rfl|c
  .rw[YA r f.1];exact ajc r h f.1 k
  exact Gf h k t f.2 l c
noncomputable def oq(x:V)(c:aO):Bool:=c.any λy=>v5 y x
inductive ŵ(K:aN)(neg:Bool)(x:ao.V)(y:ao.V)(H:af)(Q:a4):Prop where
 |mk(p:_)(xs:_)(_:y=.ref p)(_:(aQ K H p xs\/cV K H p xs))(_:qm x=true)(_:xs.all qm=true)(_:Q (.aV (if neg then !oq x xs else oq x xs)) H)
theorem UQ:hf X (ki .In) (ŵ X.K false):=by
 intro n s U H x y v u Q I l t h;obtain⟨p,z,rfl,d,m,f,q⟩:=h;cases t;rcases d with d|d
 .obtain⟨c,r,k,o⟩:=I.list d;refine SeqAt.in_listAt (nu x) k.isList (λw g=>Gf l m r f w (by simpa using g)) #[.aV _,H,I,rfl,?_];rw[show c.toArray.any (nu x)=c.any (nu x) by simp,GR r f];exact q
 obtain⟨c,r,k,o⟩:=I.tuple d;refine SeqAt.in_tupleAt (nu x) k (λw g=>Gf l m r f w (by simpa using g)) #[.aV _,H,I,rfl,?_];rw[show c.toArray.any (nu x)=c.any (nu x) by simp,GR r f];exact q
theorem aay:hf X (ki .NotIn) (ŵ X.K true):=by
 intro n s U H x y v u Q I l t h;obtain⟨p,z,rfl,d,m,f,q⟩:=h;cases t;rcases d with d|d
 .obtain⟨c,r,k,o⟩:=I.list d;refine SeqAt.notIn_listAt (nu x) k.isList (λw g=>Gf l m r f w (by simpa using g)) #[.aV _,H,I,rfl,?_];rw[show c.toArray.any (nu x)=c.any (nu x) by simp,GR r f];exact q
 obtain⟨c,r,k,o⟩:=I.tuple d;refine SeqAt.notIn_tupleAt (nu x) k (λw g=>Gf l m r f w (by simpa using g)) #[.aV _,H,I,rfl,?_];rw[show c.toArray.any (nu x)=c.any (nu x) by simp,GR r f];exact q
inductive alO(K:aN)(xs:aO)(H:af)(Q:a4):Prop where
 |mk(p:_)(ys:_)(_:xs=[.ref p])(_:(aQ K H p ys\/cV K H p ys))(_:Q (.int ys.length) H)
theorem kN:kt X (.builtin "len") (alO X.K):=by
 intro l s U H y w Q I r h;obtain⟨p,m,rfl,d,q⟩:=h;obtain⟨u,rfl,o⟩:=vals1 r;cases o;have t:=CH;rcases d with d|d
 .obtain⟨g,f,k,n⟩:=I.list d;have c:=f.length;exact Calls.call_len_list k.isList (by simp only[hz]<;>omega) #[.int m.length,H,I.tok _,#[s.toks+1,by rw[hz,c]],q]
 obtain⟨g,f,k,n⟩:=I.tuple d;have c:=f.length;exact len_tuple k (by simp only[hz]<;>omega) #[.int m.length,H,I.tok _,#[s.toks+1,by rw[hz,c]],q]
theorem Tw:kt X (.builtin "len") (λd H Q=>∃z,d=[.str z]/\z.length<=sizeLine/\Q (.int z.length) H):=by intro c s U H d k Q I r h;obtain⟨z,rfl,f,q⟩:=h;obtain⟨u,rfl,t,rfl⟩:=vals1 r;have g:=CH;exact len_str (by omega) #[.int z.length,H,I.tok _,#[_,rfl],q]
theorem Br:kt X (.type "list") (λi H Q=>∃p k,i=[.ref p]/\(aQ X.K H p k\/cV X.K H p k)/\∀l,H l=none->Q (.ref l) (upd H l (.lst k))):=by
 intro A s U H i x Q I r h;obtain⟨p,k,rfl,t,q⟩:=h;obtain⟨u,rfl,j⟩:=vals1 r;cases j;have y:∀(c:dx),de k c->k.length<=sizeLine->∀(d:Heap)(g:Nat),(∀b V,s.heap.get? b=some V->d.get? b=some V)->
   d.get? s.heap.objs.size=some {cls:=.type "list",dict:=none,data:=.seq c.toArray g,slots:=#[]}->iT X A U Q (.ref s.heap.objs.size) {s with heap:=d}:=λc f m d g w e=>
  #[.ref s.heap.objs.size,_,I.laid (t':=s.toks) w (cB _) (show fk X.prog X.w _ d _ (.lst k)from#[m,c,g,f,e]),rfl,q _ (I.bo.fresh (cB _))]
 rcases t with t|t
 .obtain⟨c,f,N,m⟩:=I.list t;have z:=f.length;obtain⟨o,aX,K,n,L⟩:=N.isList;exact call_list_seq p (.inl rfl) aX K L (λd g w e=>y c f m d g w e) (by simp only[hz]<;>omega)
 obtain⟨c,f,N,m⟩:=I.tuple t;have z:=f.length;obtain⟨o,aX,K,n,L⟩:=N;exact call_list_seq p (.inr rfl) aX K L (λd g w e=>y c f m d g w e) (by simp only[hz]<;>omega)
theorem aaq:kt X (.type "tuple") (λz H Q=>∃p f,z=[.ref p]/\((aQ X.K H p f/\∀l,H l=none->Q (.ref l) (upd H l (.tup f)))\/(cV X.K H p f/\Q (.ref p) H))):=by
 intro c s U H z N Q I r h;obtain⟨p,f,rfl,h⟩:=h;obtain⟨u,rfl,K⟩:=vals1 r;cases K;rcases h with⟨k,q⟩|⟨k,q⟩
 .obtain⟨d,m,n,t⟩:=I.list k;have y:=m.length;refine call_tuple_list n.isList (λg L=>?_) (by simp only[hz]<;>omega);have w:Inv X c U H {s with heap:=g}:=I.kept (t':=s.toks) L;have A:Inv X c U (upd H g.objs.size (.tup f)) {s with heap:=g.push {cls:=.type "tuple",data:=.seq d.toArray}}:=
   w.laid (t':=s.toks) (λb o e=>d0 _ e) (cB _) (show fk X.prog X.w _ _ _ (.tup f)from#[t,d,m,IsTup.new _ _])
  show#[.ref g.objs.size,_,A,rfl,q _ (w.bo.fresh (cB _))]
 obtain⟨d,m,n,t⟩:=I.tuple k;exact call_tuple_same n #[.ref p,H,I,rfl,q]
noncomputable def aax(K:aN)(T:String)(x:V)(H:af):Prop:=match x with
 |.str _=>T="str"
 |.int _=>T="int"
 |.ref p=>(T="list"/\∃d,aQ K H p d)\/(T="tuple"/\∃o,K.lookup p=some o/\o.cls=.type "tuple"/\o.dict=none)\/
   (T="dict"/\((∃c,H p=some (.cv c))\/∃c,H p=some (.dB c)))\/(T="set"/\∃S n,H p=some (.set S n))
 |_=>False
theorem ajd{s:aW}(I:Inv X pins U H s)(r:RelV x v)(ty:aax X.K T x H):
  s.TypeIs v T/\∀a,v=.ref a->∃l,s.heap.get? a=some l/\l.dict=none:=by
 cases x with
 |str z=>
  obtain⟨t,rfl⟩:=r;cases(show T="str" from ty);show#[GK s z t,λ_ e=>nomatch e]
 |int i=>
  obtain⟨t,rfl⟩:=r;cases(show T="int" from ty);show#[typeIs_int s i t,λ_ e=>nomatch e]
 |ref p=>
  cases r;rcases ty with⟨rfl,A,w⟩|⟨rfl,o,d,j,h⟩|⟨rfl,d⟩|⟨rfl,S,n,d⟩
  .obtain⟨y,_,m,_⟩:=I.list w;show#[m.isList.typeIs,λa e=>?_];cases e;obtain⟨o,n,e,c,h,_⟩:=m;show#[o,e,h]
  .show#[#[o,I.eL p o d,j],λa e=>?_];cases e;show#[o,I.eL _ o d,h]
  .have z:∃o,s.heap.get? p=some o/\o.ExactDict:=by
    rcases d with⟨k,d⟩|⟨k,d⟩
    .obtain⟨_,_,_,_,o,_,_,e,f,_⟩:=I.bo p _ d;show#[o,e,f]
    obtain⟨_,_,_,_,o,_,_,e,f,_⟩:=I.bo p _ d;show#[o,e,f]
   obtain⟨o,e,f⟩:=z;show#[#[o,e,f.1],λa g=>?_];cases g;show#[o,e,f.2.1]
  obtain⟨o,_,_,_,e,f,_⟩:=I.bo p _ d;show#[#[o,e,f.1],λa g=>?_];cases g;show#[o,e,f.2.1]
 |_=>exact ju ty
noncomputable def aso(K:aN)(T:String)(r:V->List V->af->a4->Prop)(f:TE)(t:gf):TE:=λU H Q=>f U H λx c=>aax K T x c/\t U c λg d=>r x g d Q
variable{o e:Expr}{es:h3}{to:TE}{t:gf}{name:Str}{gr gg:Pos}{T id:String}{r:V->List V->af->a4->Prop}
theorem oz(hp:PlainAttrs T)(d:Slot T name id)(F:typeOf (.builtin id)=pure (.type "method_descriptor"))(u:DN X id r)(aX:bA X o to)(L:hg X (e::es) t)(w:AM o name X.env (eval o X.env)=eval o X.env:=by rfl)(f:((hJ gg (d2 (e::es) X.env)).all (λx=>!x.1)&&(n' gg (ox [] X.env)).all (λx=>x.1.isSome)
   && decide ((e::es).length+([]:List xy).length+(if([]:List xy).isEmpty then 0 else 1)<30))=true:=by rfl)(p:(gr.endLine==gg.line)=true:=by rfl)(B:d2 (e::es) X.env=(false,eval e X.env)::d2 es X.env:=by rfl)(g:(hJ gg (d2 es X.env)).any (·.1)=false:=by rfl):
  bA X (.Call (.Attribute o name gr) (e::es) [] gg) (aso X.K T r to t):=by intro c s U H Q I h;refine wpAny_Call_method_late w f p rfl (bU (aX c s U H _ I h) λv C y=>?_);obtain⟨x,n,k,l,ty,N⟩:=y;obtain⟨z,K⟩:=ajd k l ty;show#[T,id,hp,d,F,z,K,?_];have m:=L gg c C U n _ k N;rw[B]at m⊢;refine HD (by show(false||(hJ gg (d2 es X.env)).any (·.1))=false;rw[g]<;>rfl) (HE ?_);exact bU m λE D⟨vs,A,i,q,j⟩=>u c D U A x vs v E Q i l q j
end
noncomputable def Ym(X:bH)(id:String)(r:V->List V->af->a4->Prop):Prop:=
 ∀(a:ee)(s:aW)(U:St)(H:af)(x:V)(c:aO)(v:Value)(b:dx)(Q:a4),Inv X a U H s->RelV x v->de c b->r x c H Q->
  aT (bg X.prog X.w) X.A (call (.builtin id) (v::b)) (iT X a U Q) X.er s
theorem de.one:∀{x:V}{a:dx},de [x] a->∃u,a=[u]/\RelV x u
 |_,_,.cons r .nil=>#[_,rfl,r]
section
variable{X:bH}{pins:ee}{U:St}{H:af}{s:aW}{l b:Addr}{xs ys zs:aO}
theorem Inv.ņ{a its':dx}{n:Nat}{f:Array Value->Array Value}{o:Nat}(I:Inv X pins U H s)(m:H l=some (.lst xs))(e:s.heap.get? l=some {cls:=.type "list",data:=.seq a.toArray n})(g:f a.toArray=its'.toArray)(h:de ys its')(c:ys.length<=sizeLine):
  Inv X pins U (upd H l (.lst ys)) {s with heap:=s.heap.update l (Aq f),toks:=o}:=by have q:=PySem.IsL.update e f;rw[g]at q;refine I.write (x:=l) (e:=l) (by rw[m];exact trivial) (.inl rfl) (λp u d k=>(vw s.heap (Aq f) (dY d)).trans k) #[_,q] ?_;show#[c,its',_,h,q]
theorem Inv.R3{its:dx}{t':Nat}(I:Inv X pins U H s)(c:de ys its)(a:ys.length<=sizeLine):
  Inv X pins U (upd H s.heap.objs.size (.lst ys)) {s with heap:=s.heap.push {cls:=.type "list",data:=.seq its.toArray},toks:=t'}:=
 I.laid (λ_ _ q=>d0 _ q) (cB _) #[a,its,0,c,gG _ rfl]
theorem Inv.fresh(I:Inv X pins U H s):H s.heap.objs.size=none:=I.bo.fresh (cB _)
theorem Inv.Fn(I:Inv X pins U H s)(c:H l=some (.lst xs)):xs.length<=sizeLine/\∃(a:dx)(n:Nat),de xs a/\xs.length=a.length/\s.heap.get? l=some {cls:=.type "list",data:=.seq a.toArray n}:=by obtain⟨z,a,n,r,e⟩:=I.bo l _ c;show#[z,a,n,r,r.length,e]
theorem ae4{n:Nat}(h:n<=sizeLine):Wk n=false:=by unfold Wk;exact dt (by omega)
end
section
variable{X:bH}
inductive ag7(x:V)(vs:aO)(H:af)(Q:a4):Prop where
 |mk(l:_)(xs:_)(y:_)(_:x=.ref l)(_:vs=[y])(_:H l=some (.lst xs))(_:xs.length<sizeLine)(_:Q .b3 (upd H l (.lst (xs++[y]))))
theorem uR:Ym X "list.append" ag7:=by intro c s U H x vs v o Q I d f h;obtain⟨l,p,y,rfl,rfl,b,k,q⟩:=h;cases d;obtain⟨u,rfl,g⟩:=f.one;obtain⟨z,a,n,r,m,e⟩:=I.Fn b;refine En F.slot_list_append #[_,e,rfl] F.entry_list_append (F.args_list_append_2 _ _) (PySem.list_append l a.toArray n u (by rw[hz];omega)) #[e,?_];show#[.b3,_,I.ņ (its':=a++[u]) b e (by simp) (r.append (.cons g .nil)) ?_,rfl,q];rw[eM,List.length_singleton];omega
inductive ahD(x:V)(vs:aO)(H:af)(Q:a4):Prop where
 |mk(l:_)(b:_)(xs:_)(zs:_)(_:x=.ref l)(_:vs=[.ref b])(_:H l=some (.lst xs))(_:H b=some (.lst zs))(_:xs.length+zs.length<=sizeLine)(_:Q .b3 (upd H l (.lst (xs++zs))))
theorem aea:Ym X "list.extend" ahD:=by
 intro g s U H x vs v V Q I o t h;obtain⟨l,b,i,j,rfl,rfl,f,k,K,q⟩:=h;cases o;obtain⟨u,rfl,w⟩:=t.one;cases w;obtain⟨z,a,n,r,L,e⟩:=I.Fn f;obtain⟨A,c,p,y,N,m⟩:=I.Fn k;have hsz:a.toArray.size+c.toArray.size<=sizeLine:=by rw[hz,hz];omega
 have d:¬(!a.toArray.isEmpty&&Wk (a.toArray.size+c.toArray.size))=true:=by rw[ae4 hsz,abj];exact ha
 refine En F.slot_list_extend #[_,e,rfl] F.entry_list_extend (F.args_list_extend_2 _ _)
  (AutoSeq1.list_extend_list_list_0 l a.toArray n b c.toArray p d (by rw[hz];omega) (by omega)) #[e,m,?_]
 show#[.b3,_,I.ņ (its':=a++c) f e (by simp) (r.append y) ?_,rfl,q];rw[eM];omega
inductive alP(x:ao.V)(y:ao.V)(H:af)(Q:a4):Prop where
 |mk(l:_)(b:_)(xs:_)(zs:_)(_:x=.ref l)(_:y=.ref b)(_:H l=some (.lst xs))(_:H b=some (.lst zs))(_:xs.length+zs.length<=sizeLine)(_:∀p,H p=none->Q (.ref p) (upd H p (.lst (xs++zs))))
theorem ul:hf X (uh .Add) alP:=by
 intro c s U H x y v u Q I m o h;obtain⟨l,b,V,i,rfl,rfl,t,f,A,q⟩:=h;cases m;cases o;obtain⟨z,a,n,r,K,e⟩:=I.Fn t;obtain⟨w,d,L,p,N,g⟩:=I.Fn f;refine PySem.P.add_list e g ?_ (by rw[hz,hz];omega);have k:a.toArray++d.toArray=(a++d).toArray:=by simp
 rw[k];show#[.ref _,_,I.R3 (t':=s.toks) (r.append p) (by rw[eM];omega),rfl,q _ I.fresh]
end
end ao
namespace V1
open PySem PySem.W PySem.Calls PyProof.Rows
theorem ate:∀(c:hA)(vs:dx),WellAll P h vs (c.map WData.int)->H9 vs c:=by
 intro c
 induction c with
 |nil=>
  intro vs w;rw[Iy]at w;cases w;exact .nil
 |cons n c e=>
  intro vs w;rw[jd]at w;cases w with
  |cons a b=>
   cases a;exact .cons _ _ (e _ b)
theorem aeb{l:OpenLaw}{n:Nat}(p:l.most=some n){h:Heap}{args:List WData}(k:l.row.toRowW.claim.pre args=true)(o:WellAll P h vals args):
  ∃a vs b,vals=[cX a]/\args=[WData.list (b.map WData.int)]/\h.get? a=some {cls:=.type "list",data:=.seq vs.toArray}/\H9 vs b/\b.length<=n:=by
 have A:WShape.hasAll [] args [.list .int]=true:=(pre_splitW k).1;have m:l.pre.holds [] {args:=args}=true:=(pre_splitW k).2;obtain⟨d,r,rfl,t,w⟩:=hasAllW_cons A;obtain rfl:=hasAllW_nil w;obtain⟨K,rfl,y⟩:=hasW_list t;obtain⟨b,rfl⟩:=items_int y;have c:b.length<=n:=by
  unfold OpenLaw.pre at m;have f:(WTm.not (.lt (.lit (.int (n:Int))) (.len (.arg 0)))).holds [] {args:=[.list (b.map .int)]}=true:=by have f:=(holds_andW m).1;rw[p]at f;exact f
  have g:=condW_of f (w_not (w_lt w_lit (w_len_list (w_arg rfl))));rw[bP]at g;refine Nat.le_of_not_lt λq=>?_;have z:(n:Int)<((b.length:Nat):Int):=by omega
  first
   | (rw[cE z]at g;exact bG g (by decide))
   | (simp at g;omega)
 cases o with
 |cons hr jr=>
  cases jr;cases hr with
  |list aX e=>show#[_,_,b,rfl,rfl,aX,ate b _ e,c]
theorem aec(l:OpenLaw)(args:List WData):l.row.toRowW.claim.post args (.bool true) args=true:=
 postW_of (r:=l.row.toRowW) (X:=(true==true))
  (show WShape.has [] (.bool true) .bool=true by first|rfl|decide|simp[WShape.has,WShape.arms,WShape.armsAll])
  (show(WTm.eq .res (.lit (.bool true))).value [] {args:=args,res:=some (.bool true),after:=args}=some (.bool (true==true))from w_eq_bool (w_res rfl) w_lit) rfl
theorem anv{l:OpenLaw}{n:Nat}{L:cb->Heap->Prop}{N:bf->Heap->Prop}{d:DefRec}(B:l.most=some n)(e:d.params.defaults=[])(call:∀(w:bf)(z b:aW)(p K:cb)(k:Addr)(o:Obj)(A m c:Value)(a:Addr)(vs:dx)(t:hA),
   Ground q loose [] L w z p K b.heap->N w b.heap->
   b.heap.get? k=some o->o.data=.func (docDef d.name d.params d.body d.scope A m c)->b.heap.CodeRec m d.name->p d.name=some (.ref k)->
   b.heap.get? a=some {cls:=.type "list",data:=.seq vs.toArray}->H9 vs t->t.length<=n->b.gens=#[]->
   ni (bg l.prog w) AS (.call (.ref k) #[[.ref a],[]]) (λr y=>r=.ok (.ret (.bool true))/\OldK b.heap y.heap/\y.os=b.os/\tI y.gens) b):
  WalkO q loose L N l.row.toRowW d [] (λf vs=>YZ f vs):=by intro w z b p K G Y k o A m c s dq aX M P bI i F args V R j D Q x E;obtain rfl:s=.none:=Dflts.none bI e;obtain rfl:dq=.none:=Dflts.noKw bI;obtain⟨a,vs,t,rfl,rfl,u,g,h⟩:=aeb B j x;refine enter_call (q6 (call w z b p K k o A m c a vs t G Y aX (fd_plain M) P i u g h F) λr y I=>?_);obtain⟨rfl,C,H,J⟩:=I;show#[.inl #[.bool true,.bool true,[],rfl,λ_=>rfl,.bool true,aec l _,λ_=>#[List.Pairwise.nil,λ_ O=>(nomatch O)]],C,H,J]
end V1
namespace ao
open PySem PySem.Spec PyProof.Rows
theorem VS:∀{vs:dx}{a:hA},H9 vs a->de (a.map V.int) vs
 |_,_,.nil=>.nil
 |_,_,.cons n t h=>.cons #[t,rfl] (VS h)
noncomputable def NX(H:af):Prop:=∀b,H b=none\/∃o a,H b=some (.fc o (.lst a))
theorem ae5{w:bf}{K:aN}{N Q:cb}{k:Nat}{c:aW}{vs:dx}{i:hA}(pL:K.In c.heap)(R:c.heap.Ns rB N)(f:c.heap.Ns È Q)(D:∀x:Str,x≠"__name__"->Q x=iX x)(I:c.heap.NoLimit)(bJ:c.gens=#[])(B:c.heap.get? a=some {cls:=.type "list",data:=.seq vs.toArray})(hi:H9 vs i)(X:i.length<=sizeLine)(al:gF k AS)(F:∀g:Heap,K.In g->g.Ns rB N->aD P w K N g CX k jY fd [x] sp)(E:∀(s:aW)(u:Value),C3 s fd #[[u],[]] [(x,u)])(hl:∀H:af,NX H->aQ K H a (i.map V.int)->sp [.ref a] H (λv _=>v=.aV true) λ_ _ _=>False)(Qq:∀H e l,CX [] H c (λ_ _ _=>False) e l->False):
  ni (bg P w) AS (.call (.ref jY) #[[.ref a],[]]) (λr l=>r=.ok (.ret (.bool true))/\OldK c.heap l.heap/\l.os=c.os/\tI l.gens) c:=by
 have Z:=VS hi;have M:=hi.length;have p:∀H:af,NX H->aQ K H a (i.map V.int)->gb P w H c.heap->(∀b,H b≠none->b=a)->(H a≠none->K.lookup a=none)->
   ni (bg P w) AS (.call (.ref jY) #[[.ref a],[]]) (λr l=>r=.ok (.ret (.bool true))/\OldK c.heap l.heap/\l.os=c.os/\tI l.gens) c:=by
  intro H T gE Y oh fZ;have Å:∀{b:Addr}{o:Obj},c.heap.get? b=some o->H b=none->(tJ c.heap H).get? b=some o:=λe n=>aeN e n;have Fz:∀{b:Addr}{o:Obj}{L:Array r9}{A:Nat},c.heap.get? b=some o->o.data=.dict L A->H b=none:=λ{b o L A}e d=>by
   cases q:H b with
   |none=>rfl
   |some u=>
    have O:b=a:=oh b (by rw[q];simp);subst O;rw[B]at e;cases e;have d':Data.seq vs.toArray _=Data.dict L A:=d;cases d'
  have j:∀{b:Addr}{m:cb},c.heap.Ns b m->(tJ c.heap H).Ns b m:=λ{b m}⟨o,L,A,e,d,r⟩=>#[o,L,A,Å e (Fz e d),d,r]
  have ā:K.In (tJ c.heap H):=λb o e=>Å (pL b o e) (by
   cases q:H b with
   |none=>rfl
   |some u=>
    have O:b=a:=oh b (by rw[q];simp);subst O;rw[fZ (by rw[q];simp)]at e;cases e)
  have EG:Mod K N (tJ c.heap H):=#[ā,j R,#[Q,j f,D],let⟨J,ah,aj⟩:=I;#[J,j ah,aj]]
  have dg:xj P w K N (tJ c.heap H) AS [] c H:=#[rfl,EG,λb o e=>ag9 e,NR (ad0 _ _),trivial,λb f=>bG (show b∈([]:bL)from f) (by simp),Y,.of_eq bJ]
  refine q6 ((F _ ā (j R)).run AS [] c H #[[.ref a],[]] [.ref a] [.ref a] _ _ al dg (E c (.ref a)) (.cons rfl .nil) (hl H T gE)) λr l h=>?_;cases r with
  |error e=>exact(Qq H e l h).elim
  |ok gi=>
   cases gi with
   |next=>exact ju h
   |brk=>exact ju h
   |cont=>exact ju h
   |ret u=>
    obtain⟨v,H',os,t,un,G,dJ,q⟩:=h;have hW:v=.aV true:=q;subst hW;obtain rfl:u=Ek true:=dJ;show#[rfl,OldK.of_keep λb o e=>?_,os,t];cases q:H b with
    |none=>exact un.keep b o e q (by intro z;exact bG (show b∈([]:bL)from z) (by simp)) (by simp)
    |some u=>
     rcases T b with z|⟨ob,xs,z⟩
     .rw[q]at z;cases z
     have a5:=un.jH b ob _ z;obtain⟨U,_⟩:=Y b _ z;obtain⟨aF,_⟩:=G b _ a5;rw[e]at U;cases U;exact aF
 cases C:K.lookup a with
 |some o=>
  have e:=pL a o C;rw[B]at e;cases e;refine p (λ_=>none) (λ_=>.inl rfl) (.inr #[_,vs.toArray,_,C,rfl,rfl,rfl,by rw[hz,M];exact X,by simpa using Z]) (λb u z=>by have y:(none:Option gQ)=some u:=z;cases y) (λb z=>bG rfl z) λz=>bG rfl z
 |none=>
  refine p (λb=>if b=a then some (.fc {cls:=.type "list",data:=.seq vs.toArray} (.lst (i.map V.int)))else none) (λb=>?_) (.inl (.inr #[{cls:=.type "list",data:=.seq vs.toArray},bS rfl])) (λb u z=>?_) (λb z=>?_) λ_=>C
  .by_cases f:b=a
   .exact .inr #[_,_,bS f]
   exact .inl (bx f)
  .by_cases f:b=a
   .have y:=(bS f).symm.trans z;cases y;subst f;show#[B,by rw[bP];exact X,vs,_,Z,B]
   have y:=(bx f).symm.trans z;cases y
  by_cases f:b=a
  .exact f
  exact bG (bx f) z
noncomputable abbrev atP{K:aN}{h:Heap}(_:K.In h):aN:=K
theorem asT{l:YJ}{n k:Nat}{L:cb->Heap->Prop}{A:bf->Heap->Prop}{d:DefRec}{K:Params->aN}{CX:bf->nV}{sp:bf->fu}{x:Str}(E:l.most=some n)(T:n<=sizeLine)(N:d.params.defaults=[])(J:gF k AS)(C:∀(w:bf)(h:Heap),A w h->(K w.params).In h)(F:∀(w:bf)(m:cb)(p:Addr)(h:Heap),(K w.params).In h->h.Ns rB m->m d.name=some (.ref p)->
   ∃t:nY,(∀(s:aW)(u:Value),C3 s t #[[u],[]] [(x,u)])/\
    ∀b:Heap,(K w.params).In b->b.Ns rB m->aD l.prog w (K w.params) m b (CX w) k p t [x] (sp w))(R:∀(w:bf)(H:af)(a:Addr)(r:hA),r.length<=n->NX H->aQ (K w.params) H a (r.map V.int)->sp w [.ref a] H (λv _=>v=.aV true) λ_ _ _=>False)(B:∀(w:bf)(H:af)(s:aW)(e:Value)(y:aW),CX w [] H s (λ_ _ _=>False) e y->False):
  afu q loose L A l.row.toRowW d [] (λf vs=>YZ f vs):=by refine V1.anv E N λw i5 P m qi p o pm X O a vs r G Y aX Z ny i D g c M=>?_;have z:=C w _ Y;obtain⟨t,I,U⟩:=F w m p _ z G.T.g i;exact ae5 z G.T.g G.T.b G.T.builtins G.T.nolimit M D g (dX c T) J U I (λH j Q=>R w H a r c j Q) λH e y=>B w H P e y
noncomputable def fS(s:Stmt)(j:Nat):Stmt:=match s with
 |.ClassDef _ _ _ body _ _ _ _ _ _ _=>body.getD j (.Pass #[0,0,0,0])
 |_=>.Pass #[0,0,0,0]
noncomputable def oo(s:Stmt):Arguments:=match s with
 |.FunctionDef _ a _ _ _ _ _ _ _ _=>a
 |_=>{posonlyargs:=[],args:=[],vararg:=none,kwonlyargs:=[],kw_defaults:=[],kwarg:=none,defaults:=[]}
noncomputable def l3(s:Stmt):List Stmt:=match s with
 |.FunctionDef _ _ b _ _ _ _ _ _ _=>b
 |_=>[]
noncomputable def b5(s:Stmt):Scope:=match s with
 |.FunctionDef _ _ _ _ _ _ sc _ _ _=>sc
 |_=>{kind:=.function,names:=[],isGenerator:=false,isCoroutine:=false}
noncomputable abbrev a3:nV:=λ_ _ _ _ _ _=>False
noncomputable abbrev kC:bY:=λ_ _ _=>False
theorem b0:ou a3 X kC:=λ_ _ _ _ _ _ _ h=>h.elim
structure cj(K:aN)(x qual:Str)(st:Stmt)(f:Addr)(fd:nY):Prop where
 ex:∃(k6:Value)(dj:Option Addr)(dq doc pm:Value)(an:Option Addr)(cdv fv:Value)(mQ:mr),
  fd=m9 x qual (oo st) (l3 st) (b5 st) .none dq doc pm an cdv fv/\K.lookup f=some #[k6,dj,.func fd,mQ]/\DX K cdv qual=true
 eJ:mj K (.ref f)=true
section
variable{P:cx}{w:bf}{K:aN}{mg:cb}{base:Heap}
theorem cj.ok{st:Stmt}{f:Addr}{c:cK}{k:Nat}{sp:fu}(F:cj K x qual st f fd)(S:cI N c (b5 st))(n:∀(b:Value)(A:eu)(a:List Env)(s:aW)(H:af)(vs:aO)(Q:a4)(E:bY),gF k (A.deeper (p4 qual (b5 st) s.heap.objs.size f b))->sp vs H Q E->
   ∃t,h8 (j8 a3 P w K mg base N qual (b5 st) f b A a s H E).wI (l3 st) t/\t {di:=λ_ H'=>Q .b3 H',u2:=Q} (start N vs) H)(len:∀vs H Q E,sp vs H Q E->vs.length=c.length:=by intro _ _ _ _ h;first|(cases h;subst_vars;rfl)|((repeat obtain⟨_,h⟩:=h);subst_vars;rfl)|(cases h.1;subst_vars;rfl)):aD P w K mg base a3 (k+1) f fd c sp:=by obtain⟨y,p,dq,g,L,o,b,r,z,rfl,lk,m⟩:=F.ex;refine N7 lk m S len λA a s H vs Q E d l=>?_;obtain⟨t,h,q⟩:=n b A a s H vs Q E d l;show#[t,h.wI,q]
theorem cj.binds{st:Stmt}{f:Addr}{ps:cK}(F:cj K x qual st f fd)(h:∀(dq b g:Value)(c:Option Addr)(a d:Value)(k:dx),k.length=ps.length->Jw (m9 x qual (oo st) (l3 st) (b5 st) .none dq b g c a d) #[k,[]]=pure (ps.zip k)):Binds K fd ps []:=by obtain⟨m,l,dq,b,g,c,a,d,n,rfl,lk,o⟩:=F.ex;exact .all (h dq b g c a d)
theorem yl{st:Stmt}{f:Addr}{b:Value}{a:Option Addr}{d:mr}{dq:Value}(l:K.lookup f=some #[b,a,.func (m9 x qual (oo st) (l3 st) (b5 st) .none dq doc pm an e fv),d])(c:DX K e qual=true)(k:mj K (.ref f)=true):cj K x qual st f (m9 x qual (oo st) (l3 st) (b5 st) .none dq doc pm an e fv):=#[#[b,a,dq,doc,pm,an,e,fv,d,rfl,l,c],k]
theorem l8{A:eu}{k:Nat}(a:gF k A):A.units+1<cLine:=t8 (Nat.add_le_add_left (by decide:1<=64) _) a.units
theorem e'{n:Nat}(h:n<=1000):n<sizeLine:=t8 h (by decide)
end
section
variable{X:bH}
theorem ae(i:Nat)(b:X.N[i]?=some x:=by rfl)(a:OM X.env.scope x:=by first|exact IH rfl|exact NZ (IH rfl)|exact NZ (NZ rfl))(c:(x==("__debug__":Str))=false:=by decide)(d:(x==("__classdict__":Str))=false:=by decide):bA X (.Name x pos) (xl i):=aiM b a c d
theorem fR{A B:Prop}(h:B):if false=true then A else B:=by rw[bx ha];exact h
theorem hU{A B:Prop}(h:A):if true=true then A else B:=by rw[bS rfl];exact h
theorem alQ{c A B:Prop}[Decidable c](a:c->A)(b:¬c->B):if c then A else B:=by
 by_cases h:c
 .rw[bS h];exact a h
 rw[bx h];exact b h
theorem C'{c A B:Prop}[Decidable c](a:c)(h:B):if(!decide c)=true then A else B:=by rw[cE a];exact fR h
noncomputable def aB(H H':af):Prop:=∀b o,H b=some o->H' b=some o
theorem aB.refl(H:af):aB H H:=λ_ _ h=>h
theorem aB.trans(a:aB H H1)(b:aB H1 e):aB H e:=λc o h=>b c o (a c o h)
theorem aB.free{H H':af}(e:aB H H')(h:H' l=aeX):H l=aeX:=by
 cases q:H l with
 |none=>rfl
 |some o=>
  rw[e l o q]at h;cases h
theorem aB.seq{K:aN}(e:aB H H')(h:aQ K H a xs):aQ K H' a xs:=by
 rcases h with(h|⟨o,h⟩)|h
 .exact .inl (.inl (e _ _ h))
 .exact .inl (.inr #[o,e _ _ h])
 exact .inr h
end
end ao
namespace b_
open PySem PySem.Spec PyProof.Rows ao
noncomputable abbrev St:=ao.St
noncomputable abbrev V:=ao.V
noncomputable abbrev si:Value->aW->Prop:=λ_ _=>False
theorem ahF{a:Type}{M:n7}{t:Sem a}{Q:a->aW->Prop}{E:cW}(h:aT M A t Q si s):aT M A t Q E s:=
 ih h (λ_ _ q=>q) λ_ _ z=>ju z
theorem acp{w:bf}{R:vR->aW->Prop}{iter:Expr}{a:Env}(I:Nat->aW->Prop)(turn:∀n s,I n s->aT (bg prog w) A (kx it) (λr f=>match r with
   |none=>R (.ok .next) f
   |some v=>aT (bg prog w) A (R1 ez it v) (λ_ t=>aT (bg prog w) A (Js ez a v) (λ_ k=>
     aT (bg prog w) A (forIn ifs true λc r=>if r=true then do let ok <-E6 c a (eval c a);pure (M4 ok)else pure (M4 r)) (λok d=>
      if ok=true then aT (bg prog w) A (eval elt a) (λx o=>aT (bg prog w) A (call (.builtin "list.append") [acc,x]) (λ_ p=>∃m,m<n/\I m p) si o) si d
      else∃m,m<n/\I m d) si k) si t) si f) si s)(n:Nat)(h:I n s):ni (bg prog w) A (.compLoop (.ListComp elt [#[ez,iter,ifs,0]] scope pos) 0 it acc a) R s:=by
 refine codeAny_loop rfl I (λn s b=>?_) n h;show aT _ A ((compTurn (.ListComp elt [#[ez,iter,ifs,0]] scope pos) 0 it acc a).onRaise (λx=>do Š x a;theTreesLotGoes x)) _ _ s;refine wpAny_noted (ahF ?_);rw[compTurn_list];refine aE (L_ (aE (ih (turn n s b) (λr f g=>?_) λ_ _ z=>z)));cases r with
 |none=>exact bW g
 |some v=>
  refine aE (ih g (λ_ t y=>aE (ih y (λ_ k K=>aE (ih K (λok d l=>?_) λ_ _ z=>z)) λ_ _ z=>z)) λ_ _ z=>z);cases ok with
  |false=>exact bW #[rfl,l]
  |true=>exact aE (aE (ih l (λx o L=>aE (ih L (λ_ p N=>bW (bW #[rfl,N])) λ_ _ z=>z)) λ_ _ z=>z))
noncomputable def iN(a:Oy)(U:St):St:=a.map λo=>o.bind λj=>(U[j]?).bind id
noncomputable def qg(X:bH)(b:cK)(a:Scope)(f:List (Str×Addr))(C:Addr)(c:aW)(d:af)(g:bL)(fA:ee):bH:=
 {X with N:=b,i5:=c,nZ:=d,env:=compEnvC a f C X.env,outer:=X.stack,stack:=X.stack,ex:=g,fn:=λ_=>false,fA:=fA,er:=λ_ _=>False}
noncomputable def C_(k:Option xG):Prop:=k=some .cell\/k=some .free
inductive qv(X:bH)(scope:Scope)(cl:List (Str×Addr)):List Str->List (Option Nat)->Prop
 |nil:qv X scope cl [] []
 |own{x N cs}:qv X scope cl N cs->qv X scope cl (x::N) (none::cs)
 |p0{x j N cs}(_:X.N[j]?=some x)(_:C_ (X.env.kindOf x))(_:C_ ((Lj scope X.env).names.lookup x))(_:cl.lookup x=X.env.cells.lookup x):
   qv X scope cl N cs->qv X scope cl (x::N) (some j::cs)
theorem qv.len{a:List (Str×Addr)}{N cs}(h:qv X scope a N cs):cs.length=N.length:=by
 induction h with
 |nil=>rfl
 |own _ e=>simp[e]
 |p0 _ _ _ _ _ e=>simp[e]
theorem qv.get{X:bH}{c:List (Str×Addr)}{N cs}(h:qv X scope c N cs){U:St}:∀{i:Nat}{x:Str}{v:V},N[i]?=some x->(iN cs U)[i]?=some (some v)->
  ∃j:Nat,X.N[j]?=some x/\U[j]?=some (some v)/\C_ (X.env.kindOf x)/\C_ ((Lj scope X.env).names.lookup x)/\c.lookup x=X.env.cells.lookup x:=by
 induction h with
 |nil=>intro i x v b a;simp at b
 |own _ e=>
  intro i x v b a;cases i with
  |zero=>simp[iN]at a
  |succ i=>exact e (i:=i) (by simpa using b) (by simpa[iN]using a)
 |@p0 y j N cs a1 a2 gD s _ e=>
  intro i x v b a;cases i with
  |zero=>
   simp at b;subst b;show#[j,a1,?_,a2,gD,s];simp[iN]at a;cases q:U[j]? with
   |none=>rw[q]at a;simp at a
   |some o=>
    rw[q]at a;simp at a;rw[a]
  |succ i=>exact e (i:=i) (by simpa using b) (by simpa[iN]using a)
noncomputable def IT(b:List (Str×Addr))(a:List (Str×xG)):Bool:=a.all λy=>(y.2 !=.cell&&y.2 !=.free)||(b.lookup y.1).isSome
theorem ae6{d:List (Str×Addr)}{a:List (Str×xG)}(h:IT d a=true)(k:C_ (a.lookup x)):∃c,d.lookup x=some c:=by
 have b:∀q:xG,a.lookup x=some q->(q=.cell\/q=.free)->∃c,d.lookup x=some c:=λq e f=>by
  have m:=r_.mp h (x,q) (DZ e);rcases f with rfl|rfl
  .exact xK.mp (by simpa using m)
  exact xK.mp (by simpa using m)
 rcases k with k|k
 .exact b _ k (.inl rfl)
 exact b _ k (.inr rfl)
noncomputable def DR(X:bH)(b:h3)(t:iW):Prop:=
 ∀(a:ee)(s:aW)(U:St)(H:af)(Q:Bool->af->Prop),Inv X a U H s->t U H Q->
  aT (bg X.prog X.w) X.A (forIn b true λc r=>if r=true then do let ok <-E6 c X.env (eval c X.env);pure (M4 ok)else pure (M4 r)) (IP X a U Q) X.er s
noncomputable def tS:iW:=λ_ H Q=>Q true H
theorem o5:DR X [] tS:=λ_ _ _ H _ I h=>wpAny_tests_nil #[H,I,h]
theorem GS{t:iW}(h:m8 X c t):DR X [c] t:=λa s U H Q I q=>wpAny_tests_one (h a s U H Q I q)
noncomputable def pq(w:fi)(r:Oy)(g:lX)(t:iW)(p:TE):TE:=λU H Q=>w U H λJ f=>∀D,f D=none->
 ∃W:Nat->Nat->List V->St->af->Prop,(∃m,W 0 m [] (iN r U) (upd f D (.lst [])))/\∀i m a l H',W i m a l H'->H' D=some (.lst a)/\a.length<sizeLine/\
  ((J.stop i H'/\Q (.ref D) H')\/(J.go i H'/\∀x h,J.zJ i H' x h->g x l h λd o=>t d o λb n=>
   if b=true then p d n λy k=>k D=some (.lst a)/\∃c,c<m/\W (i+1) c (a++[y]) d (upd k D (.lst (a++[y])))
   else∃c,c<m/\W (i+1) c a d n))
section
variable{X:bH}{elt ez iter:Expr}{ifs:h3}{scope:Scope}{pos:Pos}{N':cK}{cs:Oy}{cl:List (Str×Addr)}{wi:fi}{g:lX}{tt:iW}{cM:TE}
theorem ahG{w:bf}{H:af}(ok:gb P w H h)(d:H C=none)(f:kE C h i):gb P w H i:=λb k e=>by
 refine(ok b k e).nP (λc u a q=>(f.2 c ?_).trans q) (λ_ q=>q) λ_ _ q=>q;rintro rfl;rcases a with rfl|a
 .rw[d]at e;cases e
 rw[d]at a;cases a
theorem Y7{use:Option (Value->Sem Unit)}{QQ:cW}{Q:a4}(av:X.calm=true)(hi:oQ X ez iter wi)(EM:Ò scope X.env=pure cl)(wd:∀y∈scope.names,y.2≠.cell)(uH:scope.kind=.function)(EU:∀y∈scope.names,y.2=.local->scope.names.lookup y.1=some .local)(o2:∀x c,cl.lookup x=some c->X.env.cells.lookup x=some c)(bo:IT cl (Lj scope X.env).names=true)(Bd:qv X scope cl N' cs)(aa:∀(C:Addr)(bp:aW)(bz:af)(L:bL)(fA:ee),vP (qg X N' scope cl C bp bz L fA) ez g/\DR (qg X N' scope cl C bp bz L fA) ifs tt/\bA (qg X N' scope cl C bp bz L fA) elt cM)(hs:∀x,Qc iter X.env x=pure x:=by intro _;rfl)(I:Inv X pins U H s)(h:pq wi cs g tt cM U H Q)(post:∀(D C:Addr)(B:aW)(H':af)(m:cb),Inv X pins U H' B->B.heap.Ns C m->vn X pins H' C->Q (.ref D) H'->compPost (bg X.prog X.w) X.A X.er use QQ (.ref D) C (.ok .next) B):
  aT (bg X.prog X.w) X.A (comprehension (.ListComp elt [#[ez,iter,ifs,0]] scope pos) scope X.env axa (newList []) false (eval iter X.env) use) QQ X.er s:=by
 refine wpAny_comprehension_free (use:=use) rfl hs EM uH EU (bU (hi pins s U H _ I h) λv s1 ah=>bU ah λRA w aj=>?_);obtain⟨it,L,i6,J,ai,rfl,bE,T,Cq,O,dI⟩:=aj;refine tA (wpAny_newFunctionEnv wd (by intro y b6;simp at b6) (λah Q8 Rf=>?_) uH);dsimp only at Q8 Rf⊢;have f:Inv X pins U (upd ai w.heap.objs.size (.lst [])) {w with heap:=w.heap.push {cls:=.type "list",data:=.seq ([]:dx).toArray},toks:=w.toks}:=bE.R3 (its:=[]) (ys:=[]) .nil (e4 _);have aoF:ai w.heap.objs.size=none:=bE.fresh;obtain⟨W,⟨m0,vd⟩,turn⟩:=dI _ aoF;generalize Ā:w.heap.push {cls:=.type "list",dict:=none,data:=.seq ([]:dx).toArray}=K at Q8 Rf f⊢;have ĩ:K.objs.size=w.heap.objs.size+1:=by rw[<-Ā,tW]
 generalize bI:w.heap.objs.size=D at *;have t:∀b o,K.get? b=some o->ah.get? b=some o:=λb o e=>Rf.extBut b o (eT (dN e)) (d0 _ e);have old:∀b o,w.heap.get? b=some o->K.get? b=some o:=λb o e=>by rw[<-Ā];exact d0 _ e
 have JT:∀b∈L,b<D:=λb a=>by obtain⟨o,e,_⟩:=T.obj 0 _ Cq b a;rw[<-bI];exact dN e
 have î:∀b∈L,b∉fY X.stack:=λb a z=>by
  obtain⟨_,f1,cP,_⟩:=O b a;rcases dr.mp (bE.GD b z)with e|e
  .exact f1 e
  exact cP e
 generalize N:qg X N' scope cl K.objs.size {w with heap:=K,toks:=w.toks} (upd ai D (.lst [])) L (X.fA++pins)=A;obtain⟨bJ,Ě,he⟩:=aa K.objs.size {w with heap:=K,toks:=w.toks} (upd ai D (.lst [])) L (X.fA++pins);rw[N]at bJ Ě he;have R:A.prog=X.prog:=by rw[<-N];rfl
 have Y:A.w=X.w:=by rw[<-N];rfl
 have Ú:A.K=X.K:=by rw[<-N];rfl
 have Ù:A.calm=X.calm:=by rw[<-N];rfl
 have kF:Inv A [] (iN cs U) (upd ai D (.lst [])) {w with heap:=ah,toks:=w.toks+0}:=by
  rw[<-N];show#[#[f.ok.mod,uH,f.ok.glob,f.ok.blt,cB _,λx y c aH aF=>f.ok.inj x y c (o2 _ _ aH) (o2 _ _ aF),λx ar=>ae6 bo ar,λx c z _=>bG (show false=true from z) ha,f.ok.hd,f.ok.frames,.inl rfl,
   λb a=>#[λe=>?_,λx c e=>(O b a).2.2.2.2.1 x c (o2 _ _ e)],f.bs,dX f.ok.sr f.nQ,λb o e a=>?_,î,f.stack,f.LG],rfl,f.bare,iD.kept t,#[_,Q8,λi x v aH aF c6=>?_],λx c e=>?_,f.bo.fresh (cB _),λx c e=>f.oc x c (o2 _ _ e),
   λp aG=>?_,f.bo.kept t,?_]
  .have l:=JT b a;rw[show b=K.objs.size from e,ĩ]at l;exact t7 _ (aet l)
  .have l:=JT b a;rcases(O b a).2.2.2.1 with z|z
   .exact bE.ok.y0 b o e z
   exact bG (jx (dN (bE.ok.bs b o e).1) z) (t7 _)
  .obtain⟨j,a1,a2,gD,kL,OY⟩:=Bd.get aH aF;obtain⟨m,aM,ax⟩:=f.loc;obtain⟨u,e9,l⟩:=ax j x v a1 a2 (by rcases gD with z|z;exact .inr (.inl z);exact .inr (.inr z));show#[u,e9,.inr #[kL,?_]];rcases l with⟨k,_⟩|⟨k,c,e,z⟩
   .rcases gD with q|q<;>(rw[k]at q;cases q)
   obtain⟨o,aX,hd⟩:=z;show#[c,OY.trans e,o,t c o aX,hd]
  .obtain⟨v,o,aX,hd⟩:=f.cell x c (o2 _ _ e);show#[v,o,t c o aX,hd]
  .have apF:p∈X.fA++pins:=by simpa[qg]using aG
   obtain⟨e,n,ne,g_,d⟩:=f.pin p apF;show#[t _ _ e,n,eT (dN e),λz=>?_,d];rcases dr.mp (f.GD p.1 z)with q|q
   .exact ne q
   exact g_ q
  show(iN cs U).length=N'.length;rw[iN,bP];exact Bd.len
 have aas:i6 0 ah:=T.keep 0 _ _ Cq λb a o e=>t b o (old b o e);have zi:∀{H':af},(∀b∈L,H' b=none)->∀b∈L,vn A [] H' b:=λ{H'}aM b a=>by rw[<-N];show#[aM b a,λe=>?_,î b a,.inl a,λx c e=>(O b a).2.2.2.2.1 x c (o2 _ _ e),λp aG=>(O b a).2.2.2.2.2 p (by simpa[qg]using aG)];have l:=JT b a;rw[show b=K.objs.size from e,ĩ]at l;exact t7 _ (aet l)
 have aoq:∀b∈L,(upd ai D (.lst [])) b=none:=λb a=>by rw[aJ (eT (JT b a))];exact(O b a).1
 have Z:A.A=X.A:=by rw[<-N];rfl
 have Mb:A.env=compEnvC scope cl K.objs.size X.env:=by rw[<-N];rfl
 have Ml:A.er=si:=by rw[<-N];rfl
 have F:ni (bg X.prog X.w) X.A (.compLoop (.ListComp elt [#[ez,iter,ifs,0]] scope pos) 0 (.ref it) (.ref D) (compEnvC scope cl K.objs.size X.env))
   (compPost (bg X.prog X.w) X.A X.er use QQ (.ref D) K.objs.size) {w with heap:=ah,toks:=w.toks+0}:=by
  refine acp (λn s'=>∃i ys V H',Inv A [] V H' s'/\i6 i s'.heap/\(∀b∈L,H' b=none)/\W i n ys V H') ?_ m0 #[0,[],_,_,kF,aas,aoq,vd];rintro n s' ⟨i,ys,V,H',vx,ie,ï,fK⟩;obtain⟨fE,ap6,nB⟩:=turn i n ys V H' fK;rcases nB with⟨stop,q⟩|⟨go,step⟩
  .have hd:=T.done A R Y Ú (Ù.trans av) i [] s' V H' si vx (zi ï) ie stop;rw[Z]at hd;refine bU hd λr B al=>?_;obtain⟨rfl,G⟩:=al;obtain⟨m,aM,_⟩:=id G.loc;have Û:A.env.locals=K.objs.size:=by rw[Mb];rfl
   have J_:H' K.objs.size=none:=by rw[<-Û];exact G.free
   have M:=G.base;rw[<-N]at M;have apE:B.os=w.os:=by have z:=G.os;rw[<-N]at z;exact z
   have Ĝ:=G.bo;rw[R,Y]at Ĝ;have acy:Inv X pins U H' B:=f.Pu (s':=B) (ch:=L) apE #[M.keep,M.slot,M.free,M.there,M.gz,M.jH,M.kb] Ĝ G.bare λb a=>by obtain⟨_,g1,_,g3,p7,ip⟩:=O b a;show#[g3,g1,p7,ip]
   exact post D K.objs.size B H' m acy (by rw[Û]at aM;exact aM) (f.sF (cB _) J_) q
  have hit:=T.item A R Y Ú (Ù.trans av) i [] s' V H' si vx (zi ï) ie go;rw[Z]at hit;refine bU hit λr B al=>?_;obtain⟨u,rfl,c'⟩:=al;refine bU c' λ_ c4 eX=>?_;obtain⟨x,bK,G,Gb,vh,zh,Qd⟩:=eX;have Nb:=G.pinned (zi Qd) (T.obj _ _ zh);have az:=bJ _ c4 V bK x u _ Nb Gb (step x bK vh);rw[Z,Mb,Ml,R,Y]at az;refine bU az λ_ hN h7=>?_;obtain⟨Hx,g0,xo,Tv⟩:=h7;have dF:=Ě _ hN Hx g0 _ xo Tv;rw[Z,Mb,Ml,R,Y]at dF;refine bU dF λok jo J3=>?_;obtain⟨jv,mf,pe⟩:=J3;have E:∀{pD:St}{P:af}{ic:aW}{Hk:aO}{ew:Nat},Inv A ([]++Hi L c4.heap) pD P ic->ew<n->W (i+1) ew Hk pD P->
    ∃m,m<n/\∃i ys V H',Inv A [] V H' ic/\i6 i ic.heap/\(∀b∈L,H' b=none)/\W i m ys V H':=λ{pD P ic Hk ew}mY hm UX=>by show#[ew,hm,i+1,Hk,pD,P,mY.L2,T.keep _ _ _ zh λb a o e=>(mY.pin (b,o) (pN _ (pN _ (Le a e)))).1,λb a=>?_,UX];obtain⟨o,e,d⟩:=T.obj _ _ zh b a;exact(mY.pin (b,o) (pN _ (pN _ (Le a e)))).2.1
  cases ok with
  |false=>
   rw[bx ha]at pe⊢;obtain⟨ew,hm,UW⟩:=pe;exact E mf hm UW
  |true=>
   rw[bS rfl]at pe⊢;have ē:=he _ jo Hx jv _ mf pe;rw[Z,Mb,Ml,R,Y]at ē;refine bU ē λatj ic og=>?_;obtain⟨y,P,mY,TC,aoE,ew,hm,UX⟩:=og;have ą:=uR (X:=A) _ ic Hx P (.ref D) [y] (.ref D) [atj] (λ_ xf=>xf=upd P D (.lst (ys++[y]))) mY rfl (.cons TC .nil) #[D,ys,y,rfl,rfl,aoE,ap6,rfl];rw[Z,Ml,R,Y]at ą;refine bU ą λ_ la ko=>?_;obtain⟨_,xf,tX,_,rfl⟩:=ko;exact E tX hm UX
 exact codeAny_compStart_list F (T.self _ 0 _ _ _ aas F)
theorem tl(K:X.calm=true)(E:oQ X ez iter wi)(r:Ò scope X.env=pure cl)(O:∀y∈scope.names,y.2≠.cell)(M:scope.kind=.function)(t:∀y∈scope.names,y.2=.local->scope.names.lookup y.1=some .local)(J:∀x c,cl.lookup x=some c->X.env.cells.lookup x=some c)(L:IT cl (Lj scope X.env).names=true)(p:qv X scope cl N' cs)(a:∀(C:Addr)(d:aW)(f:af)(k:bL)(l:ee),vP (qg X N' scope cl C d f k l) ez g/\DR (qg X N' scope cl C d f k l) ifs tt/\bA (qg X N' scope cl C d f k l) elt cM)(F:∀x,Qc iter X.env x=pure x:=by intro _;rfl):bA X (.ListComp elt [#[ez,iter,ifs,0]] scope pos) (pq wi cs g tt cM):=by
 intro n s U H Q I h;rw[eval_ListComp];refine Y7 K E r O M t J L p a F I h λD C V H' m G A z q=>#[m,A,λR w=>#[.ref D,H',?_,rfl,q]]
 obtain⟨i,j,P,N,u,B⟩:=z;exact G.turned (t':=V.toks) (λb o a e=>(w.2 b a).trans e) i j N u B
theorem wA{i:Nat}{y:Str}{d:Pos}(Z:X.N.Nodup)(p:X.N[i]?=some y)(V:X.env.scope.names.lookup y=some .local)(n:Cr (.ListComp elt [#[ez,iter,ifs,0]] scope pos) (some (.Name y py)) d.line X.env=pure true)(M:X.calm=true)(hi:oQ X ez iter wi)(u:Ò scope X.env=pure cl)(wd:∀y∈scope.names,y.2≠.cell)(uH:scope.kind=.function)(B:∀y∈scope.names,y.2=.local->scope.names.lookup y.1=some .local)(o2:∀x c,cl.lookup x=some c->X.env.cells.lookup x=some c)(P:IT cl (Lj scope X.env).names=true)(j:qv X scope cl N' cs)(k:∀(C:Addr)(t:aW)(w:af)(z:bL)(A:ee),vP (qg X N' scope cl C t w z A) ez g/\DR (qg X N' scope cl C t w z A) ifs tt/\bA (qg X N' scope cl C t w z A) elt cM)(hs:∀x,Qc iter X.env x=pure x:=by intro _;rfl):h2 X (.Assign [.Name y py] (.ListComp elt [#[ez,iter,ifs,0]] scope pos) d) (vm (pq wi cs g tt cM) (iL i)):=by
 intro f s U H xd I h;rw[exec_Assign_Name_used _ _ _ _ n];refine aE (L_ (aE ?_));show aT _ X.A (do let _ <-comprehension (.ListComp elt [#[ez,iter,ifs,0]] scope pos) scope X.env _ (newList []) false (eval iter X.env) (some (Js (.Name y py) X.env))) _ _ s;refine aE (ih (Y7 (use:=some (Js (.Name y py) X.env)) (QQ:=λ_ N=>vS X f xd .next N) M hi u wd uH B o2 P j k hs I h ?_) (λ_ N O=>bW (bW O)) λ_ _ e=>e);intro D C cc H' m kF J F q;obtain⟨T,K,f2,R,L,Y⟩:=F;refine asY (aba kF Z p (.inl V) (v:=.ref D) rfl (λhN xo G=>?_) (.inr V));obtain⟨a,Q,r⟩:=G;have l:C≠a:=by
  rcases r with rfl|r
  .exact K
  exactλe=>L _ _ r e.symm
 show#[m,J.sameBut Q l,λh' E=>#[_,H',?_,q]];exact xo.turned (t':=hN.toks) (λb o k e=>(E.2 b k).trans e) T K R L Y
noncomputable def pW(J:gB)(c:af)(a:aO):Prop:=∀H',aB c H'->J.stop a.length H'/\(∀i,i<a.length->J.go i H')/\∀i x b,i<a.length->J.zJ i H' x b->b=H'/\a[i]?=some x
theorem s4{K:aN}(h:aQ K H1 a xs):pW (n2 K a) H1 xs:=λH' b=>
 #[#[xs,b.seq h,cB _],λi c=>#[xs,xs[i],b.seq h,by simp[c]],λi x d _ y=>#[y.1,y.2 xs (b.seq h)]]
theorem WA(lo:Int)(n:Nat):pW (vA lo n) H1 ((eB n).map λi:Nat=>V.int (lo+i)):=λH' _=>
 #[by show n<=_;simp,λi a=>(by simpa using a:i<n),λi x f a y=>by
  obtain⟨c,b⟩:=y;have d:i<n:=by simpa using a
  show#[c,?_];rw[b];simp[d]]
end
theorem aue{J:gB}{b:aO}{g:lX}{h:fO}{D:Ends}(c:Nat->St->af->Prop)(n:pW J H b)(l:c 0 U H)(w:∀i a H',c i a H'->aB H H')(A:∀i x a H',b[i]?=some x->c i a H'->g x a H' λk d=>h {D with di:=c (i+1),fv:=c (i+1),hh:=D.di} k d)(t:∀a H',c b.length a H'->D.di a H'):
  zH J g h D U H:=by
 show#[λi m a H'=>m=b.length-i/\i<=b.length/\c i a H',#[b.length,by simp,e4 _,l],?_];rintro i m a H' ⟨rfl,N,p⟩;obtain⟨z,L,K⟩:=n H' (w i a H' p);by_cases f:i<b.length
 .refine .inr #[L i f,c (i+1),λk d r=>#[b.length-(i+1),by omega,rfl,f,r],λx d y=>?_];obtain⟨rfl,o⟩:=K i x d f y;exact A i x a _ o p
 have e:i=b.length:=by omega
 subst e;exact .inl #[z,t a H' p]
theorem ZW{J:gB}{c:aO}{a:St}{u:iW}{E:TE}{Q:a4}{k:af}(I:iN cs U=none::a)(H:pW J k c)(F:c.length<sizeLine)(p:V->Bool)(f:V->V)(w:∀(i:Nat)(x:V)(d:af)(R:Bool->af->Prop),c[i]?=some x->aB k d->(∀h,aB d h->R (p x) h)->u (some x::a) d R)(N:∀(i:Nat)(x:V)(d:af)(R:a4),c[i]?=some x->p x=true->aB k d->(∀h,aB d h->R (f x) h)->E (some x::a) d R)(s:∀(D:Addr)(H':af),k D=none->H' D=some (.lst ((c.filter p).map f))->aB k H'->Q (.ref D) H'):
  ∀D,k D=none->∃W:Nat->Nat->List V->St->af->Prop,(∃m,W 0 m [] (iN cs U) (upd k D (.lst [])))/\∀i m g n H',W i m g n H'->H' D=some (.lst g)/\g.length<sizeLine/\
   ((J.stop i H'/\Q (.ref D) H')\/(J.go i H'/\∀x d,J.zJ i H' x d->iL 0 x n d λL G=>u L G λb z=>
    if b=true then E L z λy h=>h D=some (.lst g)/\∃t,t<m/\W (i+1) t (g++[y]) L (upd h D (.lst (g++[y])))
    else∃t,t<m/\W (i+1) t g L z)):=by
 intro D bI;show#[λi m g n H'=>m=c.length-i/\i<=c.length/\g=((c.take i).filter p).map f/\(∃o,n=o::a)/\aB k H'/\H' D=some (.lst g),#[c.length,by simp,e4 _,by simp,#[none,I],λb o e=>?_,aK],?_]
 .rw[aJ (b1 e bI)];exact e
 rintro i m g n H' ⟨rfl,T,rfl,⟨o,rfl⟩,l,K⟩;obtain⟨M,P,O⟩:=H H' l;show#[K,t8 ?_ F,?_]
 .rw[bP];refine dX (m4 _ _) ?_;rw[ll];exact DP _ _
 by_cases A:i<c.length
 .refine .inr #[P i A,λx d y=>?_];obtain⟨rfl,q⟩:=O i x d A y;show u (some x::a) d _;refine w i x d _ q l λz r=>?_;have B:c.take (i+1)=c.take i++[x]:=by rw[pO,q];rfl
  cases j:p x with
  |true=>
   refine hU ?_;refine N i x z _ q j (l.trans r) λh C=>#[C _ _ (r _ _ K),c.length-(i+1),by omega,rfl,A,?_,#[_,rfl],λb X e=>?_,aK]
   .rw[B,qF,eK];simp[j]
   rw[aJ (b1 e bI)];exact C _ _ (r _ _ (l _ _ e))
  |false=>
   refine fR #[c.length-(i+1),by omega,rfl,A,?_,#[_,rfl],l.trans r,r _ _ K];rw[B,qF,eK];simp[j]
 have e:i=c.length:=by omega
 subst e;exact .inl #[M,s D H' bI (by rw[K,n4]) l]
theorem aje{J:gB}{o:aO}{c:St}{w:TE}{Q:a4}{g:af}(u:iN cs U=none::c)(q:pW J g o)(N:o.length<sizeLine)(f:V->V)(p:∀(i:Nat)(x:V)(a:af)(R:a4),o[i]?=some x->aB g a->(∀k,aB a k->R (f x) k)->w (some x::c) a R)(r:∀(D:Addr)(H':af),g D=none->H' D=some (.lst (o.map f))->aB g H'->Q (.ref D) H'):
  ∀D,g D=none->∃W:Nat->Nat->List V->St->af->Prop,(∃m,W 0 m [] (iN cs U) (upd g D (.lst [])))/\∀i m d t H',W i m d t H'->H' D=some (.lst d)/\d.length<sizeLine/\
   ((J.stop i H'/\Q (.ref D) H')\/(J.go i H'/\∀x a,J.zJ i H' x a->iL 0 x t a λn j=>tS n j λb z=>
    if b=true then w n z λy k=>k D=some (.lst d)/\∃l,l<m/\W (i+1) l (d++[y]) n (upd k D (.lst (d++[y])))
    else∃l,l<m/\W (i+1) l d n z)):=
 ZW u q N (λ_=>true) f (λi x a R _ _ h=>h a (aB.refl _)) (λi x a R s _ L h=>p i x a R s L h) λD H' A K e=>r D H' A (by rw[K,adq.mpr λ_ _=>rfl]) e
noncomputable def signs(x:Str):List V:=x.cps.toList.map λc=>V.str ⟨#[c]⟩
noncomputable def Dv(x:Str):gB:=#[λi _=>i<x.cps.size,λi H v H'=>H'=H/\∃c,x.cps[i]?=some c/\v=.str ⟨#[c]⟩,λi _=>i=x.cps.size]
theorem Y8(x:Str):pW (Dv x) H1 (signs x):=λH' _=>by
 have b:(signs x).length=x.cps.size:=by simp[signs]
 show#[b,λi a=>by rw[b]at a;exact a,λi v k a y=>?_];obtain⟨f,c,d,g⟩:=y;show#[f,?_];subst g;have h:x.cps.toList[i]?=some c:=by simpa using d
 simp[signs,h]
theorem afZ{w:bf}{K:aN}(m:Addr)(x:Str)(t:Tok){ty:String}(J:ty="str_ascii_iterator"\/ty="str_iterator"):Turn P w K ez (Dv x) [m] m (λi h=>h.IsStrIter m ty x t i)where
 mem:=by simp
 obj:=λi h st b a=>by
  have e:b=m:=by simpa using a
  subst e;obtain⟨o,e,c,d⟩:=st;show#[o,e,λv z=>by rw[d]at z;cases z]
 keep:=λi h g st k=>by obtain⟨o,e,r⟩:=st;show#[o,k m (by simp) o e,r]
 item:=by
  intro X F G D q i f s U H E I n st u;subst F G D;obtain⟨y,A,M,p,L,N⟩:=n m (by simp);have O:i<x.cps.size:=u;have l:x.cps[i]?=some x.cps[i]:=by simp[O]
  rcases J with rfl|rfl
  .refine wpAny_pyNext_ascii_item st l λg V B=>?_;have j:Inv X f U H {s with heap:=g,toks:=s.toks+1}:=I.turned (λb o a e=>(B.2 b a).trans e) y A p L N;obtain⟨o,e,c,d⟩:=id V;show#[_,rfl,zP (s:={s with heap:=g,toks:=s.toks+1}) e c d (by decide) #[.str ⟨#[x.cps[i]]⟩,H,j,#[_,rfl],#[rfl,_,l,rfl],V,λb a=>(n b a).1]]
  refine wpAny_pyNext_wide_item st l λg V B=>?_;have j:Inv X f U H {s with heap:=g,toks:=s.toks+1}:=I.turned (λb o a e=>(B.2 b a).trans e) y A p L N;obtain⟨o,e,c,d⟩:=id V;show#[_,rfl,zP (s:={s with heap:=g,toks:=s.toks+1}) e c d (by decide) #[.str ⟨#[x.cps[i]]⟩,H,j,#[_,rfl],#[rfl,_,l,rfl],V,λb a=>(n b a).1]]
 done:=by
  intro X F G D q i f s U H E I n st u;subst F G D;obtain⟨y,A,M,p,L,N⟩:=n m (by simp);have l:x.cps[i]?=none:=by have e:i=x.cps.size:=u;simp[e]
  rcases J with rfl|rfl
  .exact wpAny_pyNext_ascii_end (I.ok.hd q) st l λg C=>#[rfl,I.turned (t':=s.toks) (λb o a e=>C b o a e) y A p L N]
  exact wpAny_pyNext_wide_end (I.ok.hd q) st l λg C=>#[rfl,I.turned (t':=s.toks) (λb o a e=>C b o a e) y A p L N]
 self:=λ_ _ _ _ _ st h=>by
  rcases J with rfl|rfl
  .exact wpAny_pyIter_striter_ascii st h
  exact wpAny_pyIter_striter_wide st h
section
variable{X:bH}{ez:Expr}
noncomputable def alR(b:TE):fi:=λU H R=>b U H λx a=>∃z,x=.str z/\R (Dv z) a
theorem Y9(n:bA X l i):oQ X ez l (alR i):=by
 intro a s U H R I h;refine bU (n a s U H _ I h) λv c k=>?_;obtain⟨x,g,f,r,p⟩:=k;obtain⟨z,e,q⟩:=p;subst e;obtain⟨t,rfl⟩:=r;have d:∀(ty:String)(_:ty="str_ascii_iterator"\/ty="str_iterator"),N1 X a U ez R (.ref c.heap.objs.size) {c with heap:=c.heap.push {cls:=.type ty,data:=.fields (List.toArray [.str z t,.int 0 0])}}:=λty w=>by
  show#[c.heap.objs.size,[c.heap.objs.size],_,_,g,rfl,f.kept (t':=c.toks) λb o e=>d0 _ e,afZ _ z t w,#[_,gG _ rfl,rfl,rfl],λb m=>?_,q];have e:b=c.heap.objs.size:=by simpa using m
  subst e;exact f.sF (cB _) (f.bo.fresh (cB _))
 cases az:z.cps.all (·<128)with
 |true=>exact wpAny_pyIter_ascii az (d _ (.inl rfl))
 |false=>exact wpAny_pyIter_wide az (d _ (.inr rfl))
end
section
variable{X:bH}{e:Expr}{cM:TE}{lo hi:Option Expr}{d_ tn:fN}{pos en:Pos}
theorem LA:hf X (ki .LtE) (λx y H Q=>∃i j,x=.str i/\y=.str j/\Q (.aV (!decide (j.cps.toList<i.cps.toList))) H):=by intro a s U H x y v u Q I b c h;obtain⟨i,j,rfl,rfl,q⟩:=h;obtain⟨t,rfl⟩:=b;obtain⟨d,rfl⟩:=c;exact PySem.P.le_str (zr I q rfl)
theorem HF(c a:Nat):(!decide ((⟨#[c]⟩:Str).cps.toList<(⟨#[a]⟩:Str).cps.toList))=decide (a<=c):=by
 have h:((⟨#[c]⟩:Str).cps.toList<(⟨#[a]⟩:Str).cps.toList)↔c<a:=by show([c]:b7) < [a]↔c<a;simp[List.cons_lt_cons_iff]
 by_cases q:c<a
 .rw[cE (h.mpr q),dt (by omega)];rfl
 rw[dt λz=>q (h.mp z),cE (by omega)];rfl
noncomputable def Ag(x:Str)(lo hi:Option Int):Str:=⟨((x.cps.toList.drop (gc.hq x.cps.size 0 lo)).take (gc.hq x.cps.size x.cps.size hi-gc.hq x.cps.size 0 lo)).toArray⟩
theorem ZX(i:Int)(n d:Nat):max 0 (min (if i<0 then i+(n:Int)else i) (n:Int))=((gc.hq n d (some i):Nat):Int):=by
 show max 0 (min (if i<0 then i+(n:Int)else i) (n:Int))=(((if i<0 then(i+(n:Int)).toNat else min i.toNat n):Nat):Int);by_cases h:i<0
 .simp only[bS h];omega
 simp only[bx h];omega
theorem akB(lo hi:Option Int)(n:Nat):abt lo hi 1 n=(eB (gc.hq n n hi-gc.hq n 0 lo)).map (gc.hq n 0 lo+·):=by
 rw[<-asa];unfold abt;have a:(1:Int)>0:=by decide
 simp only[a,if_true];congr 1
 .cases lo with
  |none=>rfl
  |some i=>exact ZX i n 0
 cases hi with
 |none=>rfl
 |some i=>exact ZX i n n
theorem VT(x:Str)(lo hi:Option Int):Ow x lo hi=Ag x lo hi:=by
 unfold Ow Ag;have g:x.length=x.cps.size:=rfl;rw[g,akB,pick_run];by_cases h:((1:Int)==1&&((eB (gc.hq x.cps.size x.cps.size hi-gc.hq x.cps.size 0 lo)).map (gc.hq x.cps.size 0 lo+·)).length==x.cps.size)=true
 .rw[bS h];simp at h;have a:=gc.ž x.cps.size x.cps.size (cB _) hi;have b:=gc.ž x.cps.size 0 (e4 _) lo;have d:x.cps.size=0\/gc.hq x.cps.size 0 lo=0:=by omega
  rcases d with d|d
  .have:x.cps=#[]:=Array.eq_empty_of_size_eq_zero d;obtain⟨c⟩:=x;simp only at this;subst this;simp
  have f:gc.hq x.cps.size x.cps.size hi=x.cps.size:=by omega
  rw[d,f];obtain⟨c⟩:=x;obtain⟨l⟩:=c;simp
 rw[bx h]
inductive alS(x:ao.V)(lo:(Option Int))(hi:(Option Int))(H:af)(Q:a4):Prop where
 |mk(z:_)(_:x=.str z)(_:z.length<=sizeLine)(_:Q (.str (Ag z lo hi)) H)
theorem ajf:Ol X alS:=by
 intro b s U H x v K L lo hi N Q I m n r w h;obtain⟨z,rfl,f,q⟩:=h;obtain⟨t,rfl⟩:=m;obtain⟨l,o,p⟩:∃l:Option (Int×Tok),K=partValue l/\l.map (·.1)=lo:=by
  cases r with
  |none=>show#[none,rfl,rfl]
  |int i t=>show#[some (i,t),rfl,rfl]
 obtain⟨u,d,c⟩:∃u:Option (Int×Tok),L=partValue u/\u.map (·.1)=hi:=by
  cases w with
  |none=>show#[none,rfl,rfl]
  |int i t=>show#[some (i,t),rfl,rfl]
 subst o d;show#["str",_,PySem.F.slot_str_getitem.lookup,GK s z t,?_];refine wpAny_getItem_str_slice (l:=l) (u:=u) (st:=none) n rfl (post_val_or_str ?_);have e:∀(y:Str),y=Ow z lo hi->y=Ag z lo hi:=λy g=>g.trans (VT z lo hi);have a:(if(((none:Option (Int×Tok)).map (·.1)).getD 1==1&&(aae z l u none).length==z.length)=true then z else(⟨((aae z l u none).filterMap (z.cps[·]?)).toArray⟩:Str))=Ag z lo hi:=by refine e _ ?_;unfold Ow aae;rw[p,c];rfl
 rw[a];show#[?_,λA k=>#[.str (Ag z lo hi),H,I.tok k,#[A,rfl],q]];rw[<-VT];exact dX (Txt.slice_le z _ _) f
theorem LV(N:X.calm=true):kt X (.builtin "all") (λA H Q=>∃(p:Addr)(d:List Bool),A=[.ref p]/\aQ X.K H p (d.map V.aV)/\Q (.aV (d.all id)) H):=by
 intro y s U H A Y Q I r h;obtain⟨p,d,rfl,j,q⟩:=h;obtain⟨u,rfl,C⟩:=vals1 r;cases C;obtain⟨c,w,l,J⟩:=I.list j;have f:d.length=c.length:=by have:=w.length;rwa [bP]at this
 obtain⟨o,n,K,_⟩:=id l;have F:p≠s.heap.objs.size:=eT (dN K);have B:X.A.in1.handled=none:=I.ok.hd N;refine call_all_walk (CQ l.isList ?_);show#[s.heap.objs.size,[s.heap.objs.size,p],[s.heap.objs.size],c.toArray.size,_,_,λi=>d.getD i false,rfl,I1 B _ p F c.toArray,#[#[_,gG _ rfl,rfl,rfl],l.isList.push _],?_,λO M k=>?_]
 .intro i v P R L E D;have m:c[i]?=some v:=by simpa using E
  have hi:i<c.length:=(gn.mp m).1;have g:(d.map V.aV)[i]?=some (V.aV (d.getD i false)):=by rw[dV,dw (by omega:i<d.length)];simp[ea,f▸hi]
  obtain⟨T,t,x⟩:=w.get g;rw[m]at t;cases t;cases x;exact rW D
 have e:(eB c.toArray.size).all (λi=>d.getD i false)=d.all id:=by
  rw[hz,<-f,Mx];simp only[r_,lp];constructor
  .intro a b g;obtain⟨i,hi,rfl⟩:=NM.mp g;have:=a i hi;simpa[ea,hi]using this
  intro a i hi;have:=a d[i] (m3 hi);simpa[ea,hi]using this
 rw[e];show#[.aV (d.all id),H,I.kept λb G z=>k b G (by simpa using eT (dN z)) (d0 _ z),rfl,q]
inductive alT(K:aN)(xs:aO)(H:af)(Q:a4):Prop where
 |mk(x c:V)(Py:String)(t:Value)(b:Bool)(_:xs=[x,c])(_:c=.ty Py/\oC K H x t/\ml K t (.type Py)=some b)(_:Q (.aV b) H)
theorem yV:kt X (.builtin "isinstance") (alT X.K):=by intro a s U H n m Q I r h;obtain⟨x,c,k,t,b,rfl,⟨rfl,ty,e⟩,q⟩:=h;obtain⟨u,l,rfl,f,g⟩:=vals2 r;cases g;exact ad8 I f ty e λd=>#[.aV b,H,I.tok d,rfl,q]
mutual
inductive nX(K:aN)(H:af):V->PyData->Prop
 |b3:nX K H .b3 .none
 |aV(b:Bool):nX K H (.aV b) (.bool b)
 |int(i:Int):nX K H (.int i) (.int i)
 |str(x:Str):nX K H (.str x) (.str x)
 |lst{a:Addr}{xs:aO}{ds:fW}:aQ K H a xs->xe K H xs ds->nX K H (.ref a) (.list ds)
 |tup{a:Addr}{xs:aO}{ds:fW}:cV K H a xs->xe K H xs ds->nX K H (.ref a) (.tuple ds)
inductive xe(K:aN)(H:af):List V->List PyData->Prop
 |nil:xe K H [] []
 |cons{v:V}{d:PyData}{vs:aO}{ds:fW}:nX K H v d->xe K H vs ds->xe K H (v::vs) (d::ds)
end
end
section
variable{X:bH}{pins:ee}{U:St}{H:af}{s:aW}
mutual
theorem yW(I:Inv X pins U H s):∀{v:V}{d:PyData}{u:Value},nX X.K H v d->RelV v u->∃as,Reads s.heap u d as
 |_,_,_,.b3,r=>by cases r;show#[_,.none]
 |_,_,_,.aV b,r=>by cases r;show#[_,.bool b]
 |_,_,_,.int i,r=>by obtain⟨t,rfl⟩:=r;show#[_,.int i t]
 |_,_,_,.str x,r=>by obtain⟨t,rfl⟩:=r;show#[_,.str x t]
 |_,_,_,.lst h ds,r=>by cases r;obtain⟨its,cJ,⟨o,n,e,c,_,d⟩,_⟩:=I.list h;obtain⟨as,q⟩:=UR I ds cJ;show#[_,.list e c d (by simpa using q)]
 |_,_,_,.tup h ds,r=>by cases r;obtain⟨its,cJ,⟨o,e,c,n,d⟩,_⟩:=I.tuple h;obtain⟨as,q⟩:=UR I ds cJ;show#[_,.tuple e c d (by simpa using q)]
theorem UR(I:Inv X pins U H s):∀{vs:aO}{ds:fW}{us:dx},xe X.K H vs ds->de vs us->∃as,ReadsAll s.heap us ds as
 |_,_,_,.nil,.nil=>#[_,.nil]
 |_,_,_,.cons a b,.cons r t=>by obtain⟨as,q⟩:=yW I a r;obtain⟨bs,hW⟩:=UR I b t;show#[_,.cons q hW]
end
end
theorem aB.tup{K:aN}(e:aB H H')(h:cV K H a xs):cV K H' a xs:=by
 rcases h with(h|⟨o,h⟩)|h
 .exact .inl (.inl (e _ _ h))
 .exact .inl (.inr #[o,e _ _ h])
 exact .inr h
section
variable{X:bH}
inductive IU(K:aN)(neg:Bool)(x:ao.V)(y:ao.V)(H:af)(Q:a4):Prop where
 |mk(d:_)(e:_)(_:nX K H x d)(_:nX K H y e)(_:ud d=true)(_:ud e=true)(_:Q (.aV (if neg then !jz d e else jz d e)) H)
theorem Nc(g:X.A.units+64<cLine):hf X (ki .Eq) (IU X.K false):=by intro a s U H x y v u Q I b f h;obtain⟨d,e,l,m,k,c,q⟩:=h;obtain⟨p,n⟩:=yW I l b;obtain⟨r,o⟩:=yW I m f;exact eq_dataH n o k c g #[.aV _,H,I,rfl,q]
theorem CI(g:X.A.units+64<cLine):hf X (ki .NotEq) (IU X.K true):=by intro a s U H x y v u Q I b f h;obtain⟨d,e,l,m,k,c,q⟩:=h;obtain⟨p,n⟩:=yW I l b;obtain⟨r,o⟩:=yW I m f;exact ne_dataH n o k c g #[.aV _,H,I,rfl,q]
mutual
theorem VB:∀d:PyData,d.canLay0=true->jz d d=true
 |.none,_=>rfl
 |.bool b,_=>by simp[jz]
 |.int i,_=>by simp[jz]
 |.str x,_=>by simp[jz]
 |.list xs,h=>by simp only[jz];exact TI xs h
 |.tuple xs,h=>by simp only[jz];exact TI xs h
 |.dict _,h=>by cases h
theorem TI:∀ds:List PyData,xM ds=true->PyData.eqvAll ds ds=true
 |[],_=>rfl
 |d::r,h=>by simp only[xM,i']at h;simp only[PyData.eqvAll,VB d h.1,TI r h.2,Wf]
end
noncomputable def rX(val:Nat->Str):Nat->Str->Bool
 |0=>λ_=>false
 |i+1=>λk=>rX val i k||decide (k=val i)
noncomputable def lP(val:Nat->Str):Nat->Nat
 |0=>0
 |i+1=>if rX val i (val i)then lP val i else lP val i+1
theorem MH(val:Nat->Str):∀i,lP val i<=i
 |0=>cB _
 |i+1=>by have:=MH val i;unfold lP;split<;>omega
theorem VC(val:Nat->Str)(k:Str):∀i,rX val i k=true↔∃j,j<i/\val j=k
 |0=>by simp[rX]
 |i+1=>by
  simp only[rX,Bool.or_eq_true,VC val k i,decide_eq_true_eq];constructor
  .rintro(⟨j,a,e⟩|e)
   .show#[j,by omega,e]
   show#[i,by omega,e.symm]
  rintro⟨j,a,e⟩;by_cases h:j=i
  .subst h;exact .inr e.symm
  exact .inl #[j,by omega,e]
theorem WB(val:Nat->Str):∀n,(∀i j,i<j->j<n->val i≠val j)->lP val n=n
 |0,_=>rfl
 |n+1,h=>by
  have c:=WB val n λi j a b=>h i j a (by omega);have f:¬rX val n (val n)=true:=λz=>by obtain⟨j,d,e⟩:=(VC val (val n) n).mp z;exact h j n d (by omega) e
  unfold lP;rw[bx f,c]
theorem VU(val:Nat->Str):∀n i j,i<j->j<n->val i=val j->lP val n<n
 |0,_,_,_,h,_=>bG h (IF _)
 |n+1,i,j,q,s,e=>by
  have d:=MH val n;by_cases a:j=n
  .subst a;have b:rX val j (val j)=true:=(VC val (val j) j).mpr #[i,q,e];unfold lP;rw[bS b];omega
  have c:=VU val n i j q (by omega) e;unfold lP;split<;>omega
theorem Ķ(x:Str)(t:Tok):OL x (.str x t)=true:=by simp[OL]
end
theorem aed{w:bf}{A:eu}{R:vR->aW->Prop}{B V:bL}{n:Nat}{j:Nat->Value->Prop}{q:Nat->Heap->Prop}(W:Walks prog w A.in1 I B V n j q)(S:Addr)(G:S∉B)(val:Nat->Str)(M:∀i v,j i v->∃t,v=.str (val i) t)(u:n+1<scanBound):∀(k i:Nat)(s:aW),n-i=k->i<=n->q i s.heap->s.heap.SetOf (strKind prog w) S (rX val i) (lP val i)->
   (∀c f,(∀b o,b≠S->b∉V->s.heap.get? b=some o->c.get? b=some o)->c.SetOf (strKind prog w) S (rX val n) (lP val n)->R (.ok (.ret .none)) {s with heap:=c,toks:=f})->
   ni (bg prog w) A (.builtin "set.update.loop" #[[.ref S,.ref I],[]]) R s:=by
 have H:S∉V:=λz=>G (W.sub _ z);have a:∀{h c:Heap}{D:Str->Bool}{m:Nat},(∀o,h.get? S=some o->c.get? S=some o)->h.SetOf (strKind prog w) S D m->c.SetOf (strKind prog w) S D m:=λd⟨o,X,U,t,aX,r⟩=>#[o,X,U,t,d o aX,r]
 intro k
 induction k with
 |zero=>
  intro i s P Z st N L;obtain rfl:i=n:=by omega
  refine AU afd ?_;rw[Hy YG _];show aT _ A.in1 (kx (.ref I) >>=_) _ _ s;refine aE (W.done s _ _ st λc f d=>?_);show aT _ A.in1 (ret fP) _ _ _;exact bW (L c f (λb o _ u e=>d b o u e) (a (λo e=>d S o H e) N))
 |succ k O=>
  intro i s P Z st N L;have C:i<n:=by omega
  refine AU afd ?_;rw[Hy YG _];show aT _ A.in1 (kx (.ref I) >>=_) _ _ s;refine aE (W.item i s _ _ C st λv ah f Y K d=>?_);obtain⟨t,rfl⟩:=M i v Y;have uD:=a (λo e=>d S o H e) N;show aT _ A.in1 (uK [sq (val i) t] (setAdd S (.str (val i) t)) >>=_) _ _ _;refine aE (oH ?_);unfold setAdd;refine oH (aE ((strKind prog w).pyHash (k:=val i) (Ķ (val i) t) ?_));have l:lP val i+1<scanBound:=by have:=MH val i;omega
  refine wpAny_setAddHashed_of (knd:=strKind prog w) (Ķ (val i) t) rfl uD l λaj x g=>?_;refine bW #[Lc YG _,O (i+1) _ (by omega) C (W.frame _ _ _ K λb T o e=>(x.2 b λz=>G (z▸T)).trans e) g λQ y p J=>?_];exact L Q y (λb o F E e=>p b o F E ((x.2 b F).trans (d b o E e))) J
set_option maxHeartbeats 8000000 in
theorem abE{w:bf}{A:eu}{E:cW}{s:aW}{a:mu}{val:Nat->Str}{Q:cW}(U:A.handled=none)(q:s.heap.IsList l a)(J:∀(i:Nat)(v:Value),a[i]?=some v->∃t,v=.str (val i) t)(M:a.size+1<scanBound)(h:∀(f:Heap)(g:Nat),f.SetOf (strKind prog w) s.heap.objs.size (rX val a.size) (lP val a.size)->(∀b o,s.heap.get? b=some o->f.get? b=some o)->Q (.ref s.heap.objs.size) {s with heap:=f,toks:=g}):
  aT (bg prog w) A (call (.type "set") [.ref l]) Q E s:=by
 obtain⟨c,d_,P⟩:=F.called_set.mro;have kv:=F.called_set.made;have nF:=F.called_set.sub;have yR:=F.called_set.notType;have yS:=F.called_set.canCreate;have yT:=F.typeCall_set_1 (.ref l);refine rV (anE ?_);show aT _ _ (callAny (.type "set") _) _ _ _;refine bW #[MJ _ (by decide+kernel),AU F.entry_type_call ?_];rw[Around.under_plain (weight_type_call_type "set" [.ref l] []) rfl]
 repeat (any_goals (first|assumption|wp_step))
 generalize k:s.heap.objs.size=S at *;refine q6 (code_set_new_1 (.ref l) (E:=E) (Q₁:=λx C=>∃d:Bool,x=.ref S/\C={s with heap:=s.heap.push {cls:=.type "set",dict:=none,data:=.set #[] 0 (.fresh 0 0 d)}}) λd=>#[d,by rw[k],rfl]) λr C p=>?_;cases r with
 |error e=>exact p
 |ok gi=>
  cases gi with
  |ret x=>
   obtain⟨d,rfl,rfl⟩:=p;have H:(s.heap.push {cls:=.type "set",dict:=none,data:=.set #[] 0 (.fresh 0 0 d)}).get? S=some {cls:=.type "set",dict:=none,data:=.set #[] 0 (.fresh 0 0 d)}:=by rw[<-k];exact gG _ rfl
   have Y:Zp {s with heap:=s.heap.push {cls:=.type "set",dict:=none,data:=.set #[] 0 (.fresh 0 0 d)}} (.ref S) "set":=#[_,H,rfl]
   have cz:=F.called_set.init.lookup;have Z:=F.called_set.init.bind (.ref S)
   repeat (any_goals (first|assumption|wp_step))
   refine q6 (AV (R:=wants (λr D=>r=.none/\∃f g,D={s with heap:=f,toks:=g}/\f.SetOf (strKind prog w) S (rX val a.size) (lP val a.size)/\(∀b o,s.heap.get? b=some o->f.get? b=some o)) E)
    F.called_set.init.plain F.entry_set_init (check_set_init_1 Y ?_)) λX D n=>?_
   .obtain⟨⟨k6,dj,O,mQ⟩,B,V,nl,G⟩:=id q;simp only at V G;subst V G;have T:=d0 (h:=s.heap) {cls:=.type "set",dict:=none,data:=.set #[] 0 (.fresh 0 0 d)} B;have gy:=F.sub_list_set;have en:=F.sub_list_frozenset;have k7:(AI "list"==AI "dict")=false:=by decide
    have u:=q.push (o:={cls:=.type "set",dict:=none,data:=.set #[] 0 (.fresh 0 0 d)});unfold Builtin.«set.__init__» noKeywords atE;generalize y:FY=oQ
    wp_walk
    subst y;refine CQ u (aE (wpAny_runValue ?_));have I:l<S:=by rw[<-k];exact dN B
    have hsz:(s.heap.push {cls:=.type "set",dict:=none,data:=.set #[] 0 (.fresh 0 0 d)}).objs.size=S+1:=by rw[tW,k]
    refine aed (I1 (A:=A.in1.in1.in1) (by simp[U]) _ l (by rw[hsz];exact eT (vM I)) a) S ?_ val J M (a.size-0) 0 _ (by omega) (e4 _) #[#[_,gG _ rfl,rfl,rfl],u.push _] ?_ ?_
    .rw[hsz];simp only[dr,e3,or_false,not_or];show#[eT (xI _),vN I]
    .have K:=d0 (h:=s.heap.push {cls:=.type "set",dict:=none,data:=.set #[] 0 (.fresh 0 0 d)}) {cls:=.type "list_iterator",data:=.fields (List.toArray [.ref l,.int 0 0])} H;exact(atU (knd:=strKind prog w) d).setOf K (by unfold scanBound;omega)
    intro f g L m;show aT _ _ _ _ _ _;refine bW ?_;show aT _ _ (ret fP) _ _ _;refine bW #[rfl,f,g,rfl,m,λb o e=>?_];have N:b<S:=by rw[<-k];exact dN e
    exact L b o (eT N) (λz=>eT (vM N) (by rw[hsz]at z;simpa using z)) (d0 _ (d0 _ e))
   cases X with
   |error e=>exact n
   |ok j=>
    cases j with
    |ret r=>
     obtain⟨rfl,f,g,rfl,m,L⟩:=n
     repeat (any_goals (first|assumption|wp_step))
     exact h _ _ m L
    |_=>exact n.elim
  |_=>exact p.elim
noncomputable def IV(P:cx)(w:bf)(a:Addr)(n:Nat):gQ:=.ext λh=>∃S,h.SetOf (strKind P w) a S n
section
variable{X:bH}
theorem af0(A:X.calm=true):kt X (.type "set") (λy H Q=>∃(p:Addr)(a:cK),y=[.ref p]/\aQ X.K H p (a.map V.str)/\a.length<1000/\∀q,H q=none->Q (.ref q) (upd H q (IV X.prog X.w q (lP (λi=>a.getD i m_) a.length)))):=by
 intro w s U H y us Q I r h;obtain⟨p,a,rfl,K,P,q⟩:=h;obtain⟨u,rfl,j⟩:=vals1 r;cases j;obtain⟨c,l,D,J⟩:=I.list K;have b:a.length=c.length:=by have:=l.length;rwa [bP]at this
 have hsz:c.toArray.size=a.length:=by rw[b];rfl
 refine abE (val:=λi=>a.getD i m_) (I.ok.hd A) D.isList (λi v e=>?_) (by rw[hsz];unfold scanBound;omega) λZ R f L=>?_
 .have k:c[i]?=some v:=by simpa using e
  have n:i<a.length:=by rw[b];exact(gn.mp k).1
  have z:(a.map V.str)[i]?=some (V.str (a.getD i m_)):=by rw[dV,dw n];simp[ea,n]
  obtain⟨u',g,m⟩:=l.get z;rw[k]at g;cases g;exact m
 rw[hsz]at f;show#[.ref s.heap.objs.size,_,I.laid L (cB _) ?_,rfl,q _ (I.bo.fresh (cB _))];obtain⟨o,Y,T,t,aX,m⟩:=id f;show#[#[_,f],#[o,aX],λM O⟨C,N,F,E,G,B,x⟩d=>#[C,N,F,E,G,d _ B,x]]
theorem atp:kt X (.builtin "len") (λf H Q=>∃q n,f=[.ref q]/\H q=some (IV X.prog X.w q n)/\Q (.int n) H):=by
 intro d s U H f z Q I r h;obtain⟨a,n,rfl,m,q⟩:=h;obtain⟨u,rfl,p⟩:=vals1 r;cases p;obtain⟨⟨S,o,c,y,t,aX,hex,w,_,_,k,l,g⟩,_,_⟩:=(show fk X.prog X.w H s.heap a (IV X.prog X.w a n)from I.bo a _ m)
 subst g;have b:(c.size:Int)<2 ^ 63:=by unfold scanBound at k;omega
 exact call_len_set aX hex w l b #[.int c.size,H,I.tok _,#[_,rfl],q]
theorem ajg{w:bf}{h:Heap}(x:fk P w H h a o):∃b,h.get? a=some b:=by
 cases o with
 |lst xs=>obtain⟨_,_,_,_,e⟩:=x;show#[_,e]
 |tup xs=>obtain⟨_,_,_,b,e,_⟩:=x;show#[b,e]
 |cv kvs=>obtain⟨_,_,_,_,b,_,_,e,_⟩:=x;show#[b,e]
 |dB kvs=>obtain⟨_,_,_,_,b,_,_,e,_⟩:=x;show#[b,e]
 |set S n=>obtain⟨b,_,_,_,e,_⟩:=x;show#[b,e]
 |ins C ag fs=>obtain⟨_,_,_,e,_⟩:=x;show#[_,e]
 |own y=>obtain⟨b,e⟩:=x;show#[b,e]
 |Mn fs=>obtain⟨_,⟨b,_,_,e,_⟩,_⟩:=x;show#[b,e]
 |Ll lo i=>obtain⟨_,_,_,e⟩:=x;show#[_,e]
 |fc b u=>obtain⟨e,_⟩:=x;show#[_,e]
 |rQ j=>show#[_,(show h.get? a=some _ from x)]
 |met f y=>show#[_,(show h.get? a=some _ from x)]
 |ext c=>obtain⟨_,⟨b,e⟩,_⟩:=x;show#[b,e]
theorem af1{w:bf}{H:af}{h:Heap}(ok:gb P w H h)(e:h.get? a=none):H a=none:=by
 cases q:H a with
 |none=>rfl
 |some o=>
  obtain⟨b,z⟩:=ajg (ok a o q);rw[e]at z;cases z
structure o'(P:cx)(w:bf)(fr:List Env)(H:af)(s:aW)(aR:Addr)(cls a0:Value)(H':af)(B:Heap)(s':aW):Prop where
 gi:W2 B fr aR cls a0 s'.heap
 os:s'.os=s.os
 bare:tI s'.gens
 ok:gb P w H' B
 un:iD (fY fr) [] H H' s.heap s'.heap
 l6:∀b o,s.heap.get? b=some o->b∉fY fr->∃cY,B.get? b=some cY/\(H b=none->cY=o)
noncomputable def fg(P:cx)(w:bf):nV:=λd H s E e f=>∃(b:Addr)(a c:Value)(H':af)(B:Heap),e=.ref b/\o' P w d H s b a c H' B f/\E a none H'
end
section
variable{P:cx}{w:bf}{fr:List Env}{H H':af}{s s':aW}{aR:Addr}{cls a0:Value}{B:Heap}
theorem o'.move(T:o' P w fr H s aR cls a0 H' B s'){d:Heap}(l:W2 B fr aR cls a0 d)(p:s'.heap.UpToSlots d):o' P w fr H s aR cls a0 H' B {s' with heap:=d}:=by
 show#[l,T.os,T.bare,T.ok,#[λb o e n a f=>?_,λb o e n a f=>?_,T.un.free,λb o e f=>?_,T.un.gz,T.un.jH,T.un.kb],T.l6]
 .obtain⟨g,z,q⟩:=T.l6 b o e a;rw[q n]at z;exact l.1 b o z
 .obtain⟨t,z⟩:=T.un.slot b o e n a f;obtain⟨_,r,c,k⟩:=T.gi.2.2.1.mem a;rw[z]at c;cases c;obtain⟨m,h⟩:=p b _ z k;show#[m,h]
 by_cases a:b∈fY fr
 .obtain⟨_,r,c,k⟩:=T.gi.2.2.1.mem a;obtain⟨m,h⟩:=p b _ c k;show#[_,h]
 obtain⟨g,z,_⟩:=T.l6 b o e a;show#[g,l.1 b g z]
theorem o'.bo(T:o' P w fr H s aR cls a0 H' B s'):gb P w H' s'.heap:=T.ok.kept λb u e=>T.gi.1 b u e
theorem o'.new(T:o' P w fr H s aR cls a0 H' B s'):H' aR=none:=af1 T.ok T.gi.2.1
theorem o'.aq7(T:o' P w fr H s aR cls a0 H' B s')(e:s.heap.get? b=some o):b≠aR:=by
 rintro rfl;by_cases a:b∈fY fr
 .obtain⟨_,k,c,d⟩:=T.gi.2.2.1.mem a;obtain⟨l,vs,g,_,f,_⟩:=T.gi.first;rw[g]at c;cases c;exact d vs f
 obtain⟨h,z,_⟩:=T.l6 b o e a;rw[T.gi.2.1]at z;cases z
end
section
variable{P:cx}{w:bf}{K:aN}{mg:cb}{base:Heap}{N:cK}{qual:Str}{scope:Scope}{f:Addr}{cdv:Value}{A:eu}{outer:List Env}{s:aW}{H:af}{E:bY}
noncomputable abbrev gK(P:cx)(w:bf)(K:aN)(mg:cb)(base:Heap)(N:cK)(qual:Str)(scope:Scope)(f:Addr)(cdv:Value)(A:eu)(outer:List Env)(s:aW)(H:af)(E:bY):bH:=
 j8 (fg P w) P w K mg base N qual scope f cdv A outer s H E
theorem Cm(I:Inv (gK P w K mg base N qual scope f cdv A outer s H E) pins U H1 s1){b:Addr}(e:s.heap.get? b=some o)(a:b∉fY outer):
  b∉fY (gK P w K mg base N qual scope f cdv A outer s H E).stack:=λz=>by
 rcases dr.mp (I.GD b z)with q|q
 .have l:=dN e;have c:s.heap.objs.size<=b:=by have:=I.ok.above;rw[<-q]at this;exact this
  exact t7 _ (jx l c)
 exact a q
theorem abX{h:aW}{C:Heap}(I:Inv (gK P w K mg base N qual scope f cdv A outer s H E) pins U H1 h)(p:W3 h.heap C B cls vs)(J:E cls none H1):(gK P w K mg base N qual scope f cdv A outer s H E).er (.ref B) {h with heap:=C}:=by
 have G:=I.ok.frames;have O:∀d∈(gK P w K mg base N qual scope f cdv A outer s H E).stack,∀b,d.frame=some b->b∈fY (gK P w K mg base N qual scope f cdv A outer s H E).stack:=λd M b a=>NL.mpr #[d,M,a];have j:∀b o,H1 b=some o->b∉fY (gK P w K mg base N qual scope f cdv A outer s H E).stack:=λb o e z=>by rw[I.LG b z]at e;cases e
 refine wpAny_leaves_madeW (base:=xR h.heap (fY (gK P w K mg base N qual scope f cdv A outer s H E).stack)) G rfl (λb o q=>YU _ q) (afx I.stack O) p λQ t L T X F=>?_;have m:∀b o,h.heap.get? b=some o->b∉fY (gK P w K mg base N qual scope f cdv A outer s H E).stack->(xR h.heap (fY (gK P w K mg base N qual scope f cdv A outer s H E).stack)).get? b=some o:=λb o e n=>YO _ e n;show#[B,cls,.ref t,H1,_,rfl,#[L,I.os,I.bare,λb i e=>(I.bo b i e).nP (λc u r q=>m c u q ?_) (λ_ q=>q) λ_ _ q=>q,#[λb o e n a k=>?_,λb o e n a k=>?_,I.base.free,λb o e k=>?_,I.base.gz,I.base.jH,I.base.kb],λb o e a=>?_],J]
 .rcases r with rfl|r
  .exact j c _ e
  exact j c _ r
 .exact L.1 b o (m b o (I.base.keep b o e n a k) (Cm I e a))
 .obtain⟨R,z⟩:=I.base.slot b o e n a k;obtain⟨_,i,l,V⟩:=I.lz.mem a;rw[z]at l;cases l;obtain⟨D,y⟩:=F b _ (p.keeps _ _ z) V;show#[D,y]
 .obtain⟨g,z⟩:=I.base.there b o e k;by_cases a:b∈fY outer
  .obtain⟨_,i,l,V⟩:=I.lz.mem a;obtain⟨D,y⟩:=F b _ (p.keeps _ _ l) V;show#[_,y]
  show#[g,L.1 b g (m b g z (Cm I e a))]
 obtain⟨g,z⟩:=I.base.there b o e (by simp[gK,j8]);show#[g,m b g z (Cm I e a),λn=>?_];have x:=I.base.keep b o e n a (by simp[gK,j8]);rw[z]at x;exact hI x
theorem rq:ou (fg P w) (gK P w K mg base N qual scope f cdv A outer s H E) E:=by
 rintro V U G Z e Y I ⟨F,l,x,H',B,rfl,T,J⟩;refine as1 I.ok.frames rfl T.gi λaj k M=>?_;have i:iD (fY (gK P w K mg base N qual scope f cdv A outer s H E).stack) [] G H' Z.heap Y.heap:=T.un;have r:∀b o,s.heap.get? b=some o->b∉fY outer->∃c,B.get? b=some c/\(H b=none->c=o):=λb o e a=>by obtain⟨p,z⟩:=I.base.there b o e (by simp[gK,j8]);obtain⟨c,m,q⟩:=T.l6 b p z (Cm I e a);show#[c,m,λn=>?_];have g:=I.base.keep b o e n a (by simp[gK,j8]);rw[z]at g;cases g;exact q (I.base.free b _ e n (by simp[gK,j8]))
 show#[F,l,x,H',B,rfl,#[k,T.os.trans I.os,T.bare,T.ok,#[λb o e n a d=>?_,λb o e n a d=>?_,λb o e n d=>?_,λb o e d=>?_,λb j q=>T.un.gz b j (I.base.gz b j q),λb o u q=>T.un.jH b o u (I.base.jH b o u q),λb X q=>?_],r],J]
 .obtain⟨c,z,q⟩:=r b o e a;rw[q n]at z;exact k.1 b o z
 .obtain⟨bM,z⟩:=I.base.slot b o e n a d;have t:b∈fY (gK P w K mg base N qual scope f cdv A outer s H E).stack:=by show b∈fY (_::outer);unfold fY;rw[Ir];exact n3 _ a
  obtain⟨T8,g⟩:=i.slot b _ z (I.base.free b o e n d) t (by simp);obtain⟨_,L,h,y⟩:=T.gi.2.2.1.mem t;rw[g]at h;cases h;obtain⟨R,m⟩:=M b _ g y;show#[R,m]
 .obtain⟨p,z⟩:=I.base.there b o e d;exact i.free b p z (I.base.free b o e n d) (by simp)
 .by_cases a:b∈fY outer
  .obtain⟨_,L,h,y⟩:=k.2.2.1.mem a;show#[L,h]
  obtain⟨c,z,_⟩:=r b o e a;show#[c,k.1 b c z]
 obtain⟨O,D⟩:=I.base.kb b X q;obtain⟨Q,C⟩:=T.un.kb b _ D;show#[O++Q,by rw[C,V0]]
structure Exc(K:aN)(mg:cb)(x:Str)(C:Addr)(bm:dx)(g9:String):Prop where
 bound:mg x=some (.ref C)
 obj:xQ K C bm g9=true
theorem Exc.own(e:Exc K mg x C bm i)(X:K.In h):OwnCls x C bm i mg h:=by
 show#[e.bound,?_];have q:=e.obj;unfold xQ at q;split at q
 .rename_i y z p aX;split at q
  .rename_i O l V j u B n D g k;simp only[i',qS,Wg]at q;obtain⟨⟨⟨⟨⟨rfl,rfl⟩,d⟩,t⟩,a⟩,c⟩:=q;obtain⟨G,r,F,I,J,L,M,sub,o,b,del⟩:=z;dsimp only at g d a c;subst g d;obtain⟨m⟩:=p;simp only at k;subst k;show#[l,I,G,J,r,L,M,sub,o,b,y,V,j,u,B,D,_,X _ _ aX,.of_isNs (PySem.W.isNs_of_in X a),PySem.W.nsMap_none_of_in X a c,PySem.W.tail_of_in X t]
  cases q
 cases q
noncomputable def ajh(C:Addr)(E:bY)(b:gf):fO:=λ_ U H=>b U H λvs a=>vs.length<=sizeLine/\E (.ref C) none a
theorem yX{g:Pos}{d:Expr}{a:h3}{k:gf}(F:vo B e Z bm)(O:Exc K mg x C bm e)(t:jb (gK P w K mg base N qual scope f cdv A outer s H E) x)(r:hg (gK P w K mg base N qual scope f cdv A outer s H E) (d::a) k)(G:(x==("__debug__":Str))=false:=by decide)(l:d2 (d::a) (gK P w K mg base N qual scope f cdv A outer s H E).env=(false,eval d (gK P w K mg base N qual scope f cdv A outer s H E).env)::d2 a (gK P w K mg base N qual scope f cdv A outer s H E).env:=by rfl)(fI:(hJ g (d2 a (gK P w K mg base N qual scope f cdv A outer s H E).env)).any (·.1)=false:=by rfl):
  h2 (gK P w K mg base N qual scope f cdv A outer s H E) (.Raise (some (.Call (.Name x np) (d::a) [] g)) none pos) (ajh C E k):=by
 intro b J U o D I h;obtain⟨y,p,nm,q,bs,hdct,sn,sub,ab,col,dd,k0,k1,k2,k3,k5,mN,L,j,n,T⟩:=(O.own I.mod.sY).obj;have M:xQ K C bm e=true:=O.obj;refine wpAny_Raise_call_subT (C:=C) (nm:=nm) (q:=q) (N:=p) (bs:=bs) (bm:=y) (hdct:=hdct) (sn:=sn) (sub:=sub) (ab:=ab) (col:=col) (dd:=dd) (k0:=k0) (k1:=k1) (k2:=k2) (k3:=k3) (k5:=k5)
  F (mN:=mN) (T.hasType F.hasBase) (I.ok.hd rfl) ?_ n (s3 I t O.bound #[rfl,?_] G)
 .rw[l];show(false||(hJ g (d2 a (gK P w K mg base N qual scope f cdv A outer s H E).env)).any (·.1))=false;rw[fI];rfl
 have m:=r g b J U o _ I h;rw[l]at m⊢;refine HE (bU m λus Y⟨vs,R,c,V,z,i⟩=>#[rfl,by rw[<-V.length];exact z,c.hh _ _ L,j.keeps c.hh,T.keeps c.hh,λX Q u=>abX c u i])
theorem nL{st:Stmt}{a:cK}{k:Nat}{sp:fu}(F:cj K x qual st f fd)(S:cI N a (b5 st))(l:∀(cdv:Value)(A:eu)(outer:List Env)(s:aW)(H:af)(vs:aO)(Q:a4)(E:bY),gF k (A.deeper (p4 qual (b5 st) s.heap.objs.size f cdv))->sp vs H Q E->
   ∃t,h8 (gK P w K mg base N qual (b5 st) f cdv A outer s H E) (l3 st) t/\t {di:=λ_ H'=>Q .b3 H',u2:=Q} (start N vs) H)(len:∀vs H Q E,sp vs H Q E->vs.length=a.length:=by intro _ _ _ _ h;first|(cases h;subst_vars;rfl)|((repeat obtain⟨_,h⟩:=h);subst_vars;rfl)|(cases h.1;subst_vars;rfl)):aD P w K mg base (fg P w) (k+1) f fd a sp:=by obtain⟨p,n,dq,c,y,m,cdv,o,r,rfl,lk,g⟩:=F.ex;exact N7 lk g S len λA outer s H vs Q E b d=>l cdv A outer s H vs Q E b d
end
noncomputable def Jc(X:bH)(b:ee)(U:St)(E:bY)(e:Value)(h:aW):Prop:=
 ∃(d:af)(f:aW)(c:Addr)(a g:Value)(H':af)(B:Heap),e=.ref c/\Inv X b U d f/\o' X.prog X.w X.stack d f c a g H' B h/\E a none H'
noncomputable abbrev Eb:=bY->TE
noncomputable abbrev AF:=Ends->(St->bY)->St->af->Prop
noncomputable def N0(X:bH)(e:Expr)(t:Eb):Prop:=
 ∀(a:ee)(s:aW)(U:St)(H:af)(Q:a4)(E:bY),Inv X a U H s->t E U H Q->aT (bg X.prog X.w) X.A (eval e X.env) (iT X a U Q) (Jc X a U E) s
noncomputable def YB(X:bH)(st:Stmt)(t:AF):Prop:=
 ∀(a:ee)(s:aW)(U:St)(H:af)(D:Ends)(E:St->bY),Inv X a U H s->t D E U H->aT (bg X.prog X.w) X.A (exec st X.env) (vS X a D) (λe c=>∃b,Jc X a b (E b) e c) s
noncomputable def π(X:bH)(c:List Stmt)(t:AF):Prop:=
 ∀(a:ee)(s:aW)(U:St)(H:af)(D:Ends)(E:St->bY),Inv X a U H s->t D E U H->aT (bg X.prog X.w) X.A (execs c X.env) (vS X a D) (λe d=>∃b,Jc X a b (E b) e d) s
section
variable{X:bH}{e o:Expr}{es:h3}{pos gr p:Pos}{k:Nat}{f C:Addr}{fd:nY}{ps:cK}{sp:fu}{cq:TE}{t:gf}{m x:Str}
theorem Xs{us:dx}(F:aD X.prog X.w X.K X.mg X.base (fg X.prog X.w) k f fd ps sp)(n:gF k X.A)(l:Binds X.K fd ps [])(I:Inv X pins U H s)(r:de vs us)(h:sp vs H Q E):aT (bg X.prog X.w) X.A (call (.ref f) us) (iT X pins U Q) (Jc X pins U E) s:=by
 have w:(us++[]).length=ps.length:=by rw[sa,<-r.length];exact F.len _ _ _ _ h
 have c:=l s us I.eL w;rw[sa]at c;refine rV (q6 (F.run X.A X.stack s H #[us,[]] us vs Q E n I.JH c r h) λr z a=>?_);cases r with
 |error e=>
  obtain⟨g,b,d,H',B,rfl,T,y⟩:=a;show#[H,s,g,b,d,H',B,rfl,I,T,y]
 |ok gi=>
  cases gi with
  |ret u=>exact I.after a
  |next=>exact ju a
  |brk=>exact ju a
  |cont=>exact ju a
theorem SW{a:Type}{X:bH}{pins:ee}{M:n7}{c:Sem a}{Q:a->aW->Prop}{E:cW}(h:aT M A c Q (λ_ _=>False) s):aT M A c Q E s:=
 ih h (λ_ _ q=>q) λ_ _ z=>ju z
noncomputable def aji(C:Addr)(m:Str)(sp:fu)(cq:TE)(t:gf):Eb:=λE=>C7 C m sp [] E cq t
theorem ahH{pl:Sem Bool}(J:bA X.wI o cq)(c:dM X.K C)(g:Meth X.K C m f)(F:aD X.prog X.w X.K X.mg X.base (fg X.prog X.w) k f fd ps sp)(N:gF k X.A)(K:Binds X.K fd ps [])(i:hg X.wI (e::es) t)(M:d2 (e::es) X.env=(false,eval e X.env)::d2 es X.env:=by rfl)(fI:(hJ pos (d2 es X.env)).any (·.1)=false:=by rfl)(B:eval (.Call (.Attribute o m gr) (e::es) [] pos) X.env=(do
   let n <-eval o X.env
   wZ gr.atName
   let(f,first) <-uK [n] (A9 n m pl)
   AR pos f first (hJ pos (d2 (e::es) X.env)) (n' pos (ox [] X.env))):=by rfl):
  N0 X (.Call (.Attribute o m gr) (e::es) [] pos) (aji C m sp cq t):=by intro pins s U H Q E I h;refine IL (pl:=pl) (SW (X:=X) (pins:=pins) (bU (J pins s U H _ (I.nR _) h) λu O z=>?_)) B;obtain⟨x,y,b,j,a,P,R,G,A,l,q⟩:=z;subst G;obtain rfl:u=cX a:=j;have b:=b.pw;refine Lf b A c g l ?_;refine Ax (first:=[.ref a]) (h₀:=X.base) I.ok.mod.sY g.eJ (SW (X:=X) (pins:=pins) (bU (i pos pins O U y _ (b.nR _) q) λus T⟨vs,L,d,r,D⟩=>#[d.pw.eL,?_])) M fI;refine Xs (us:=.ref a::us) (vs:=.ref a::vs) F N K d.pw (.cons rfl r) ?_;have w:sp (V.ref a::(vs++[])) L Q E:=D;rw[sa]at w;exact w
theorem WC{st:Stmt}{t:AF}(b:YB X st t):π X [st] t:=by
 intro a s U H D E I h;refine aaK (bU (b a s U H D E I h) λf c q=>?_);cases f with
 |next=>exact G6 q
 |ret v=>exact q
 |brk=>exact q
 |cont=>exact q
end
noncomputable def xp(a C:Addr):gQ:=.ext λh=>∃o,h.get? a=some o/\o.cls=.ref C
noncomputable def qh(K:aN)(C R:Addr):Bool:=match K.lookup C with
 |some ⟨.type "type",_,.cls e,bM⟩=>(match e.mro,bM.toList with
  |.ref i::bm,[_,_,_,_,some (.builtin _),_]=>i==C&&!e.hasDel&&bm.contains (.type "BaseException")&&(cX C::bm).contains (.ref R)
  |_,_=>false)
 |_=>false
theorem aa7{K:aN}{h:Heap}{C:Addr}(X:K.In h)(q:qh K C R=true):∃t w N g b c y sub d a k l m o p r u,
  h.get? C=some (A3 t w C N g b c y sub d a k l m o p r u)/\b.contains (.type "BaseException")=true/\(cX C::b).contains (.ref R)=true:=by
 unfold qh at q;split at q
 .rename_i k s j aX;split at q
  .rename_i E b l m o p n r A L;simp only[i',Wg]at q;obtain⟨⟨⟨f,z⟩,V⟩,i⟩:=q;have f:=qS.mp f;subst f;obtain⟨t,g,B,D,w,x,y,sub,d,a,del⟩:=s;dsimp only at A z;subst A z;obtain⟨e⟩:=j;simp only at L;subst L;show#[t,w,D,g,b,x,y,sub,d,a,k,l,m,o,p,r,n,X _ _ aX,V,i]
  cases q
 cases q
theorem ahI{M:n7}{E:cW}{K:aN}{s:aW}{h:Obj}{Q:Bool->aW->Prop}(X:K.In s.heap)(V:qh K C R=true)(o:qh K R R=true)(O:s.heap.get? e=some h)(m:h.cls=.ref C)(G:Q true s):aT M A (excMatches (.ref e) (.ref R)) Q E s:=by
 obtain⟨nm,rI,N,bs,Z,c,sn,sub,Y,H,dd,k0,k1,k2,k3,k5,g9,J,U,a⟩:=aa7 X V;obtain⟨w,y,P,r,k,F,z,L,n,p,l0,i,j,q,u,x,B,b,I,D⟩:=aa7 X o;have l:(cX R::k).contains (.type "BaseException")=true:=by rw[adl,I,abk]
 have f:=tc_notTuple;obtain⟨T,g,d,t,os⟩:=s;unfold excMatches
 repeat (first|(with_reducible refine lT O ?_;rw[m])|with_reducible refine lT b ?_|(with_reducible refine Va b ?_;rw[l])|(with_reducible refine Va J ?_;rw[a])|wp_step)
 exact G
noncomputable abbrev Cn(X:bH)(a:Addr):bH:={X with A:=X.A.mark (some (.ref a)),calm:=false,er:=λ_ _=>False}
section
variable{X:bH}{pins:ee}{U:St}{H:af}{s:aW}
theorem Inv.GF(I:Inv X pins U H s)(a:Addr):Inv (Cn X a) pins U H s:=
 #[#[I.ok.mod,I.ok.kind,I.ok.glob,I.ok.blt,I.ok.above,I.ok.inj,I.ok.has,I.ok.x5,λz=>bG (show false=true from z) ha,I.ok.frames,I.ok.th,I.ok.JI,I.ok.bs,I.ok.sr,I.ok.y0,I.ok.A4,I.ok.lz,I.ok.uw],I.os,I.bare,I.base,I.loc,I.cell,I.free,I.oc,I.pin,I.bo,I.len]
theorem Inv.asJ(a:X.calm=true->X.A.handled=none)(I:Inv (Cn X e) pins U H s):Inv X pins U H s:=
 #[#[I.ok.mod,I.ok.kind,I.ok.glob,I.ok.blt,I.ok.above,I.ok.inj,I.ok.has,I.ok.x5,a,I.ok.frames,I.ok.th,I.ok.JI,I.ok.bs,I.ok.sr,I.ok.y0,I.ok.A4,I.ok.lz,I.ok.uw],I.os,I.bare,I.base,I.loc,I.cell,I.free,I.oc,I.pin,I.bo,I.len]
theorem Inv.forget{t:Heap}{R:Nat}{i:Nat}{x:Str}(I:Inv X pins U H s)(P:X.N.Nodup)(A:X.N[i]?=some x)(a:kE X.env.locals s.heap t)(N:∀m,s.heap.Ns X.env.locals m->∃v,t.Ns X.env.locals (λy=>if y=x then v else m y)):Inv X pins (U.set i none) H {s with heap:=t,toks:=R}:=by
 obtain⟨m,C,D⟩:=id I.loc;obtain⟨v,Q⟩:=N m C;have L:=I.q5;have h:∀b o,X.i5.heap.get? b=some o->b≠X.env.locals:=λb o e=>eT (jx (dN e) I.ok.above);have V:i<U.length:=by rw[I.len];exact(gn.mp A).1
 show#[I.ok,I.os,I.bare,#[λb o e n l f=>(a.2 b (h b o e)).trans (I.base.keep b o e n l f),λb o e n l f=>?_,I.base.free,λb o e f=>?_,I.base.gz,I.base.jH,I.base.kb],#[_,Q,λj y u w g F=>?_],λy c e=>?_,I.free,I.oc,λp B=>?_,ahG I.bo I.free a,by simpa using I.len]
 .obtain⟨E,z⟩:=I.base.slot b o e n l f;show#[E,(a.2 b (h b o e)).trans z]
 .obtain⟨G,z⟩:=I.base.there b o e f;show#[G,(a.2 b (h b o e)).trans z]
 .by_cases r:j=i
  .subst r;rw[X6 V]at g;cases g
  rw[X5 (dY r)]at g;obtain⟨T,J,q⟩:=D j y u w g F;show#[T,J,?_];rcases q with⟨k,e⟩|⟨k,c,e,z⟩
  .refine .inl #[k,?_];have:y≠x:=λe=>r (Vz P w (e▸A));simp[this,e]
  exact .inr #[k,c,e,z.sameBut a (L y c e)]
 .obtain⟨M,z⟩:=I.cell y c e;show#[M,z.sameBut a (L y c e)]
 obtain⟨e,n,K,O,d⟩:=I.pin p B;show#[(a.2 p.1 K).trans e,n,K,O,d]
end
noncomputable def alU(K:aN)(f:AF)(i:Nat)(R:Addr)(h:fO):fO:=λD U H=>f D (λg d _ H'=>∃C,d=.ref C/\qh K C R=true/\∀c,H' c=none->
 h {di:=λb a=>D.di (b.set i none) a,u2:=D.u2,hh:=λb a=>D.hh (b.set i none) a,fv:=λb a=>D.fv (b.set i none) a} (g.set i (some (.ref c))) (upd H' c (xp c C))) U H
theorem Y'{X:bH}{t:List Stmt}{n9:Stmt}{GF:List Stmt}{bj:AF}{i:Nat}(E:X.stack=X.env::X.outer)(Q:X.env.frame=some X.env.locals)(aa:π X t bj)(gv:X.N.Nodup)(hi:X.N[i]?=some n)(ax:X.env.scope.names.lookup n=some .local)(bJ:jb X x)(hm:X.mg x=some (.ref R))(dn:qh X.K R R=true)(apT:∀d,h8 (Cn X d) (n9::GF) ts)(jm:(x==("__debug__":Str))=false:=by decide):h2 X (.Try t [.ExceptHandler (some (.Name x np)) (some n) (n9::GF) apM] [] [] pos) (alU X.K bj i R ts):=by
 intro a s U H D I h;refine wpAny_Try_except (ih (aa a s U H D _ I h) (λf j q=>?_) λe j q=>?_)
 .cases f with
  |next=>exact G6 q
  |ret v=>exact q
  |brk=>exact q
  |cont=>exact q
 obtain⟨vj,dC,sc,d,cls,a0,H',B,rfl,Xc,T,C,rfl,o2,k⟩:=q;have QW:X.A.frames=some (X.env::X.outer):=by rw[<-E];exact I.ok.frames
 have ê:=T.gi;rw[E]at ê;refine wpAny_looks_onW QW Q ê λc' P asK=>?_;refine wpAny_landsW P λeX G asL=>?_;have ë:=G;rw[<-E]at ë;have N:=T.move ë (asK.trans asL);have mX:Inv X a vj H' {j with heap:=eX}:=Xc.Pu (s':={j with heap:=eX}) (ch:=[]) N.os N.un N.bo N.bare (λb z=>bG z (by simp));obtain⟨ob,yx,Z⟩:=G.there;refine wpAny_handleBy_cons (codeAny_handlers_test (s3 (X:=Cn X d) (b_.Inv.GF mX d) bJ hm ?_ jm)) (by intro q;cases q);refine ahI mX.eL o2 dn yx Z ?_;refine codeAny_handlers_suite_as (lands_againW G λh7 ì asM=>?_);have í:=ì;rw[<-E]at í;have p:=N.move í asM;obtain⟨ũ,ģ,apB⟩:=ì.there;have old:∀b o,sc.heap.get? b=some o->b≠d:=λb o e=>T.aq7 e;have L:=T.new;have xo:Inv X a vj (upd H' d (xp d C)) {j with heap:=h7}:=by
  refine Xc.Pu (s':={j with heap:=h7}) (ch:=[]) p.os #[p.un.keep,p.un.slot,λb o e eR ar=>by rw[aJ (old b o e)];exact p.un.free b o e eR ar,p.un.there,λb xs e=>?_,λb o u e=>?_,λb ps e=>?_] ?_ p.bare (λb z=>bG z (by simp))
  .have:=p.un.gz b xs e;rw[aJ (b1 this L)];exact this
  .have:=p.un.jH b o u e;rw[aJ (b1 this L)];exact this
  .obtain⟨m,this⟩:=p.un.kb b ps e;show#[m,by rw[aJ (b1 this L)];exact this]
  intro b u e;by_cases d7:b=d
  .subst d7;rw[aK]at e;cases e;show#[#[ũ,ģ,apB],#[ũ,ģ],λah aj⟨o,M,J⟩cQ=>#[o,cQ o M,J]]
  rw[aJ d7]at e;exact(p.bo b u e).nP (λc v _ q=>q) (λc q=>by rw[aJ (b1 q L)];exact q) λc xs q=>by rw[aJ (b1 q L)];exact q
 refine LS (X:=Cn X d) (b_.Inv.GF xo d) gv hi (.inl ax) (v:=.ref d) rfl (λjo mf=>?_) (.inr ax);have aG:(X.env.scope.kind==.class||(X.env.scope.kind==.module&&X.env.locals !=X.env.globals))=false:=by rw[I.ok.kind];rfl
 have g:∀{A:St}{l:af}{V:aW}{sk:aW->Prop},Inv (Cn X d) a A l V->(∀w,Inv X a (A.set i none) l w->sk w)->
   aT (bg X.prog X.w) X.A (do bindName X.env n .none;unbindBehindTheSuite X.env n apM) (λ_ w=>sk w) X.er V:=λ{A l V sk}r bk=>by
  have Xb:Inv X a A l V:=Inv.asJ I.ok.hd r;obtain⟨m,aM,_⟩:=id Xb.loc;refine wpAny_nameGoes_keeps ax aM aG λko v apw ar1=>bk _ (Inv.forget Xb gv hi ar1 λew aps=>?_);have em:ew=m:=by obtain⟨o,es,ep,M,J,_,c6⟩:=aM;obtain⟨cY,sC,sA,vZ,Ö,_,O⟩:=aps;rw[M]at vZ;cases vZ;rw[J]at Ö;cases Ö;funext y;rw[<-c6 y,<-O y]
  subst em;show#[v,apw]
 refine ih (apT d a jo _ _ _ mf (k d L)) (λY V F=>?_) λ_ _ z=>ju z;cases Y with
 |next=>obtain⟨A,l,r,q⟩:=F;exact g r λw K=>#[_,l,K,q]
 |brk=>obtain⟨A,l,r,q⟩:=F;exact g r λw K=>#[_,l,K,q]
 |cont=>obtain⟨A,l,r,q⟩:=F;exact g r λw K=>#[_,l,K,q]
 |ret u=>obtain⟨asN,A,l,r,TC,q⟩:=F;exact g r λw K=>#[asN,_,l,K,TC,q]
theorem abF:iX "enumerate"=some (.type "enumerate"):=by decide+kernel
noncomputable def z4(K:aN)(a:Addr):gB:=
 #[λi H=>∃b x,aQ K H a b/\b[i]?=some x,λi H v H'=>∃p x,H p=none/\v=.ref p/\(∀b,aQ K H a b->b[i]?=some x)/\H'=upd H p (.tup [.int i,x]),λi H=>∃b,aQ K H a b/\b.length<=i]
theorem aee{w:bf}{K:aN}{k:Nat}(a e g:Addr)(Ē:e≠g):
  Turn P w K (.Tuple elts k pos) (z4 K a) [e,g] e (λi h=>(∃l,IsEnum h e g ((i:Nat):Int) l)/\h.IsListIter g a i)where
 mem:=by simp
 obj:=λi h st b f=>by
  obtain⟨⟨l,L⟩,o,aX,c,d⟩:=st;rcases dr.mp f with rfl|f
  .show#[_,L,λv z=>by
    have V:MS _=C6 v:=z;cases V]
  have q:b=g:=by simpa using f
  subst q;show#[o,aX,λv z=>by rw[d]at z;cases z]
 keep:=λi h h' st cQ=>by obtain⟨⟨l,L⟩,A⟩:=st;show#[#[l,cQ e (by simp) _ L],A.at λo q=>cQ g (by simp) o q]
 item:=by
  intro X gw hw fZ t i N s U H E I F st T;subst gw hw fZ;obtain⟨⟨l,L⟩,A⟩:=st;obtain⟨xs,x,G,R⟩:=T;obtain⟨its,Y,p,aC⟩:=I.list G;obtain⟨u,dh,e9⟩:=Y.get R;obtain⟨dg,aH,aF,c6,fb,ji⟩:=F e (by simp);obtain⟨J,M,f2,Z,f4,fz⟩:=F g (by simp);refine wpAny_pyNext_enum_item L A p.isList (x:=u) (by simpa using dh) Ē λah aX Q iJ hsz aP=>#[_,rfl,?_]
  refine wpAny_letOwnedTupleGo_enum aX λB EP C=>?_;have C:kE e ah B:=C;have j:H s.heap.objs.size=none:=I.fresh;have D:∀b o,b∉[e,g]->s.heap.get? b=some o->B.get? b=some o:=λb o f q=>by have sM:b≠e:=λz=>f (by simp[z]);have O:b≠g:=λz=>f (by simp[z]);exact(C.2 b sM).trans (aP b o sM O q)
  have Ĕ:e<s.heap.objs.size:=dN L;have EI:B.get? s.heap.objs.size=some {cls:=.type "tuple",data:=.seq (List.toArray [.int i s.toks,u])}:=(C.2 _ (vN Ĕ)).trans iJ;have oy:∀b q,H b=some q->b∉[e,g]:=λb q f z=>by
   rcases dr.mp z with rfl|z
   .rw[dg]at f;cases f
   have V:b=g:=by simpa using z
   subst V;rw[J]at f;cases f
  show#[.ref s.heap.objs.size,upd H s.heap.objs.size (.tup [.int i,x]),?_,rfl,#[s.heap.objs.size,x,j,rfl,λys b6=>by rw[I.R2 b6 G];exact R,rfl],#[#[u,?_],Q.at λo q=>(C.2 g Ē.symm).trans q],λb f=>?_]
  .show Inv X N U (upd H s.heap.objs.size (.tup [.int i,x])) {s with heap:=B,gens:=s.gens,drawn:=s.drawn,toks:=s.toks+1};refine I.step (g':=s.gens) (d':=s.drawn) (t':=s.toks+1) (h':=B) (ch:=[e,g]) (λb f=>?_) (λb o _ _ t q _=>D b o t q) (λb o _ _ t q _=>#[o.slots,D b o t q]) (λb o t q n=>?_)
    (λb o t q=>#[o,D b o t q]) (λb ys q=>?_) (λb o v q=>?_) (λb ps q=>#[#[],?_]) (λm hm=>?_) (λb v q=>?_) I.bare
   .rcases dr.mp f with rfl|f
    .show#[c6,aH,fb,ji]
    have V:b=g:=by simpa using f
    subst V;show#[Z,M,f4,fz]
   .rw[aJ (eT (dN q))];exact n
   .rw[aJ (b1 q j)];exact q
   .rw[aJ (b1 q j)];exact q
   .rw[aJ (b1 q j),q];simp
   .obtain⟨o,es,ep,j5,r⟩:=hm;show#[o,es,ep,D _ o (λz=>?_) j5,r];rcases dr.mp z with z|z
    .exact aH z.symm
    exact M (by simpa using z:X.env.locals=g).symm
   by_cases f:b=s.heap.objs.size
   .subst f;rw[aK]at q;cases q;show#[(by show 2<=sizeLine;decide),[.int i s.toks,u],.cons #[_,rfl] (.cons e9 .nil),_,EI,rfl,_,rfl]
   rw[aJ f]at q;refine(I.bo b v q).nP (λc y t z=>D c y ?_ z) (λc z=>by rw[aJ (b1 z j)];exact z) λc ys z=>by rw[aJ (b1 z j)];exact z
   rcases t with rfl|t
   .exact oy _ _ q
   exact oy _ _ t
  .have:(((i+1:Nat):Nat):Int)=(i:Int)+1:=by omega
   rw[this];exact EP
  rcases dr.mp f with rfl|f
  .rw[aJ (eT Ĕ)];exact dg
  have V:b=g:=by simpa using f
  subst V;obtain⟨_,z,_⟩:=A;rw[aJ (eT (dN z))];exact J
 done:=by intro X gw hw fZ t i N s U H E I F st T;subst gw hw fZ;obtain⟨⟨l,L⟩,A⟩:=st;obtain⟨xs,G,R⟩:=T;obtain⟨its,Y,p,aC⟩:=I.list G;obtain⟨J,M,f2,Z,f4,fz⟩:=F g (by simp);have ax:=Y.length;exact wpAny_pyNext_enum_end (I.ok.hd t) L A p.isList (by simp;omega) λh' dE=>#[rfl,I.turned (t':=s.toks) (λb o f e=>dE b o f e) J M Z f4 fz]
 self:=λ_ _ _ _ _ st h=>by obtain⟨⟨l,L⟩,_⟩:=st;exact as7 L h
section
variable{X:bH}{elts:h3}{k:Nat}{zk:Pos}
inductive akC(K:aN)(vs:aO)(H:af)(R:gB->af->Prop):Prop where
 |mk(a:Addr)(_:vs=[.ref a])(_:∃xs,aQ K H a xs)(_:R (z4 K a) H)
noncomputable def akD(K:aN)(b:gf):fi:=λU H R=>b U H λvs a=>akC K vs a R
theorem Xg{t:gf}{p:Pos}(L:jb X "enumerate")(j:X.mg "enumerate"=none)(A:hg X [l] t)(u:d2 [l] X.env=[(false,eval l X.env)]:=by rfl):oQ X (.Tuple elts k zk) (.Call (.Name "enumerate" p) [l] [] pos) (akD X.K t):=by
 intro f s U H R I h;refine Call_ (zq I L j abF (N8 (bU (A pos f s U H _ I h) λF c n=>?_) u rfl));obtain⟨vs,y,d,i,K⟩:=n;obtain⟨a,e,⟨G,N⟩,q⟩:=K;subst e;cases i with
 |cons r C=>
  cases C;cases r;obtain⟨x,D,p,n⟩:=d.list N;refine call_enumerate_list p.isList λE w m hsz V=>?_;refine as7 w ?_;have B:c.heap.objs.size+1≠c.heap.objs.size:=aew _;show#[c.heap.objs.size+1,[c.heap.objs.size+1,c.heap.objs.size],_,_,y,rfl,d.kept (t':=c.toks) λb o e=>V b o e,aee a _ _ B,#[#[_,w],m],λb g=>?_,q];rcases dr.mp g with rfl|g
  .exact d.sF (vL _) (d.bo.fresh (vL _))
  have z:b=c.heap.objs.size:=by simpa using g
  subst z;exact d.sF (cB _) (d.bo.fresh (cB _))
end
section
variable{X:bH}{K:aN}(fZ:X.K=K)
include fZ
theorem af2:z5 X (OV K):=by subst fZ;exact eO
theorem Cu:z5 X (ο K):=by subst fZ;exact eH
theorem Md{k:Nat}{t:xU}{n:Nat}(b:X.calm=true)(h:DT X e t)(a:(AL e X.env).length=n:=by rfl)(c:(AL e X.env).findIdx? (·.1)=none:=by rfl):vP X (.Tuple e k pos) (xg K n t):=by subst fZ;exact Yy b h a c
theorem Xh{f:Str}(b:bA X e i)(a:AM e f X.env (eval e X.env)=eval e X.env):bA X (.Attribute e f pos) (ν K i f):=by subst fZ;exact d5 b a
end
theorem ahJ{K:aN}{c:aO}{rest:ao.St}{I:iW}{O:TE}{Q:a4}{k:af}(gM:iN cs U=none::none::rest)(Z:aQ K k a c)(Y:c.length<sizeLine)(p:Nat->V->Bool)(f:Nat->V->V)(A:∀(i:Nat)(x:V)(d:af)(R:Bool->af->Prop),c[i]?=some x->aB k d->(∀h,aB d h->R (p i x) h)->I (some (.int i)::some x::rest) d R)(E:∀(i:Nat)(x:V)(d:af)(R:a4),c[i]?=some x->p i x=true->aB k d->(∀h,aB d h->R (f i x) h)->O (some (.int i)::some x::rest) d R)(G:∀(D:Addr)(H':af),k D=none->H' D=some (.lst ((c.zipIdx.filter λz=>p z.2 z.1).map λz=>f z.2 z.1))->aB k H'->Q (.ref D) H'):
  ∀D,k D=none->∃W:Nat->Nat->List V->ao.St->af->Prop,(∃m,W 0 m [] (iN cs U) (upd k D (.lst [])))/\∀i m g r H',W i m g r H'->H' D=some (.lst g)/\g.length<sizeLine/\
   (((z4 K a).stop i H'/\Q (.ref D) H')\/((z4 K a).go i H'/\∀x d,(z4 K a).zJ i H' x d->xg K 2 (rJ (iL 0) (rJ (iL 1) Af)) x r d λj bz=>I j bz λb N=>
    if b=true then O j N λy h=>h D=some (.lst g)/\∃t,t<m/\W (i+1) t (g++[y]) j (upd h D (.lst (g++[y])))
    else∃t,t<m/\W (i+1) t g j N)):=by
 intro D bI;have T:c.zipIdx.length=c.length:=by simp
 show#[λi m g r H'=>m=c.length-i/\i<=c.length/\g=((c.zipIdx.take i).filter λz=>p z.2 z.1).map (λz=>f z.2 z.1)/\(∃o P,r=o::P::rest)/\aB k H'/\H' D=some (.lst g),
  #[c.length,by simp,e4 _,by simp,#[none,none,gM],λb o e=>?_,aK],?_]
 .rw[aJ (b1 e bI)];exact e
 rintro i m g r H' ⟨rfl,hi,rfl,⟨o,P,rfl⟩,l,F⟩;have H:aQ K H' a c:=l.seq Z;show#[F,t8 ?_ Y,?_]
 .rw[bP];refine dX (m4 _ _) ?_;rw[ll,T];exact DP _ _
 by_cases C:i<c.length
 .have ex:c[i]?=some c[i]:=dw C;refine .inr #[#[c,_,H,ex],λx d y=>?_];obtain⟨q,n,bk,rfl,gj,rfl⟩:=y;have s:=gj c H;have w:aB H' (upd H' q (.tup [.int i,n])):=λb u e=>by rw[aJ (b1 e bk)];exact e
  show#[q,_,rfl,cV.of aK,rfl,#[_,_,rfl,#[_,_,rfl,rfl,?_]]];show I (some (.int i)::some n::rest) _ _;refine A i n _ _ s (l.trans w) λN L=>?_;have J:c.zipIdx.take (i+1)=c.zipIdx.take i++[(n,i)]:=by rw[pO,List.getElem?_zipIdx,s];simp
  have X:=L _ _ (w _ _ F);cases B:p i n with
  |true=>
   refine hU ?_;refine E i n N _ s B ((l.trans w).trans L) λh M=>#[M _ _ X,c.length-(i+1),by omega,rfl,C,?_,#[_,_,rfl],λb ob e=>?_,aK]
   .rw[J,qF,eK];simp[B]
   rw[aJ (b1 e bI)];exact M _ _ (L _ _ (w _ _ (l _ _ e)))
  |false=>
   refine fR #[c.length-(i+1),by omega,rfl,C,?_,#[_,_,rfl],(l.trans w).trans L,X];rw[J,qF,eK];simp[B]
 have e:i=c.length:=by omega
 subst e;refine .inl #[#[c,H,cB _],G D H' bI ?_ l];rw[F,<-T,n4]
end b_
namespace ao
open PySem PySem.Spec PyProof.Rows
section
variable{κ:Type}[DecidableEq κ]
noncomputable def dk(a:List (κ×V))(k:κ):Option V:=(a.find? λb=>decide (b.1=k)).map (·.2)
noncomputable def fw(a:List (κ×V))(k:κ)(v:V):List (κ×V):=
 if(a.any λb=>decide (b.1=k))=true then a.map (λb=>if b.1=k then(b.1,v)else b)else a++[(k,v)]
noncomputable def w7(a:List (κ×V))(k:κ):List (κ×V):=a.filter λb=>decide (b.1≠k)
theorem od{p:κ×V}{r:List (κ×V)}{k:κ}(e:p.1=k):dk (p::r) k=some p.2:=by simp[dk,Dy,e]
theorem nx{p:κ×V}{r:List (κ×V)}{k:κ}(e:¬p.1=k):dk (p::r) k=dk r k:=by simp[dk,Dy,e]
theorem rt(k:κ):∀a:List (κ×V),(a.any λb=>decide (b.1=k))=(dk a k).isSome
 |[]=>rfl
 |p::r=>by
  rw[Iq];by_cases e:p.1=k
  .simp only[od e,cE e,Bool.true_or,Option.isSome_some]
  rw[nx e,dt e,Bool.false_or];exact rt k r
theorem WD(k j:κ)(y:V):∀a:List (κ×V),dk (a.map λb=>if b.1=k then(b.1,y)else b) j=(dk a j).map λx=>if j=k then y else x
 |[]=>rfl
 |p::r=>by
  have c:=WD k j y r;rw[jd];by_cases h:p.1=k
  .rw[bS h];by_cases e:p.1=j
   .rw[od (p:=(p.1,y)) e,od e,NY,bS (e.symm.trans h)]
   rw[nx (p:=(p.1,y)) e,nx e,c]
  rw[bx h];by_cases e:p.1=j
  .rw[od (p:=p) e,od e,NY,bx (λz=>h (e.trans z))]
  rw[nx (p:=p) e,nx e,c]
theorem VV(k j:κ)(y:V):∀a:List (κ×V),dk a k=none->dk (a++[(k,y)]) j=if j=k then some y else dk a j
 |[],_=>by
  by_cases e:k=j
  .rw[bS e.symm];exact od (p:=(k,y)) e
  rw[bx (λz=>e z.symm)];exact nx (p:=(k,y)) e
 |p::r,aM=>by
  rw[adk];have b:¬p.1=k:=λz=>by rw[od z]at aM;cases aM
  rw[nx b]at aM;have c:=VV k j y r aM;by_cases e:p.1=j
  .rw[od e,od e,bx (λz=>b (e.trans z))]
  rw[nx e,nx e,c]
theorem Gg(b:List (κ×V))(k j:κ)(y:V):dk (fw b k y) j=if j=k then some y else dk b j:=by
 unfold fw;by_cases a:(b.any λd=>decide (d.1=k))=true
 .rw[bS a,WD];rw[rt]at a;by_cases e:j=k
  .obtain⟨x,c⟩:=xK.mp a;rw[bS e,e,c,NY,bS rfl]
  rw[bx e];cases dk b j with
  |none=>rfl
  |some x=>rw[NY,bx e]
 rw[bx a];refine VV k j y b ?_;rw[rt]at a;cases q:dk b k with
 |none=>rfl
 |some x=>rw[q]at a;exact(a rfl).elim
theorem K8(a:List (κ×V))(k:κ)(v:V):(fw a k v).length<=a.length+1:=by
 unfold fw;split
 .rw[bP];omega
 rw[eM,gC,vB];omega
theorem Ca{a:List (κ×V)}{k:κ}(v:V)(h:dk a k=none):fw a k v=a++[(k,v)]:=by unfold fw;rw[rt,h];exact bx (by decide)
theorem jP.Ko{o:Option V}{u:AH}(r:jP o u):o.isSome=u.isSome:=by
 cases o with
 |none=>cases u with
  |none=>rfl
  |some _=>exact(show False from r).elim
 |some _=>cases u with
  |none=>exact(show False from r).elim
  |some _=>rfl
theorem jP.getD{o:Option V}{u:AH}(r:jP o u)(a:RelV d e):RelV (o.getD d) (u.getD e):=by
 cases o with
 |none=>cases u with
  |none=>exact a
  |some _=>exact(show False from r).elim
 |some _=>cases u with
  |none=>exact(show False from r).elim
  |some _=>exact r
theorem gR.val{a:List (κ×V)}{vs:List (κ×Value)}(r:gR a vs)(k:κ):jP (dk a k) (w4 vs k):=by
 unfold gR at r
 induction r with
 |nil=>exact mn
 |@cons p q s i h t j=>
  obtain⟨d,f⟩:=h;by_cases e:p.1=k
  .have c:q.1=k:=d.symm.trans e;have b:w4 (q::i) k=some q.2:=by simp[w4,Dy,c]
   rw[od e,b];exact f
  have c:¬q.1=k:=λz=>e (d.trans z);have b:w4 (q::i) k=w4 i k:=by simp[w4,Dy,c]
  rw[nx e,b];exact j
theorem gR.any{a:List (κ×V)}{vs:List (κ×Value)}(r:gR a vs)(k:κ):(a.any λb=>decide (b.1=k))=vs.any λb=>decide (b.1=k):=by
 unfold gR at r
 induction r with
 |nil=>rfl
 |cons h t e=>rw[Iq,Iq,e,h.1]
theorem gR.TO{b:List (κ×V)}{vs:List (κ×Value)}(r:gR b vs)(k:κ)(f:RelV y u):
  gR (b.map λa=>if a.1=k then(a.1,y)else a) (vs.map λa=>if a.1=k then(a.1,u)else a):=by
 unfold gR at r⊢
 induction r with
 |nil=>exact .nil
 |@cons p q s j h t i=>
  rw[jd,jd];refine .cons ?_ i;obtain⟨c,d⟩:=h;by_cases e:p.1=k
  .rw[bS e,bS (c.symm.trans e)];show#[c,f]
  rw[bx e,bx (λz=>e (c.trans z))];show#[c,d]
theorem gR.put{a:List (κ×V)}{vs:List (κ×Value)}(r:gR a vs)(k:κ)(b:RelV y u):gR (fw a k y) (stored vs k u):=by
 unfold fw stored;rw[r.any k];by_cases e:(vs.any λc=>decide (c.1=k))=true
 .rw[bS e,bS e];exact r.TO k b
 rw[bx e,bx e];exact Paired.snoc r #[rfl,b]
theorem gR.drop{c:List (κ×V)}{vs:List (κ×Value)}(r:gR c vs)(k:κ):gR (w7 c k) (without vs k):=by
 unfold gR at r⊢;unfold w7 without
 induction r with
 |nil=>exact .nil
 |@cons p q s j h t i=>
  obtain⟨d,f⟩:=h;rw[tZ,tZ];by_cases e:p.1=k
  .have a:¬decide (p.1≠k)=true:=by simp[e]
   have b:¬decide (q.1≠k)=true:=by simp[d.symm.trans e]
   rw[bx a,bx b];exact i
  have g:¬q.1=k:=λz=>e (d.trans z);have a:decide (p.1≠k)=true:=by simp[e]
  have b:decide (q.1≠k)=true:=by simp[g]
  rw[bS a,bS b];exact .cons #[d,f] i
theorem gR.length{a:List (κ×V)}{vs:List (κ×Value)}(r:gR a vs):a.length=vs.length:=jy r
theorem WE(a:List (κ×V))(k:κ):(w7 a k).length<=a.length:=m4 _ _
theorem tm{w:bf}{k:bq}(r:RelV (dq k) u):(h9 P w).is k u=true:=by
 cases k with
 |inl i=>obtain⟨t,e⟩:=(show∃t,u=so i t from r);subst e;exact abR P w i t
 |inr x=>obtain⟨t,e⟩:=(show∃t,u=sq x t from r);subst e;exact abS P w x t
theorem VW{w:bf}:∀{a:List bq}{b:dx},de (a.map dq) b->ItemsAre (h9 P w) a b
 |[],_,r=>by rw[Iy]at r;cases r;exact .nil
 |k::a,_,r=>by
  rw[jd]at r;cases r with
  |cons h t=>exact .cons (tm h) (VW t)
noncomputable abbrev KT(H:af):List (List bq×V)->List (List bq×Addr×Value)->Prop:=b2 λp q=>p.1=q.1/\H q.2.1=some (.tup (p.1.map dq))/\RelV p.2 q.2.2
theorem KT.val{a:List (List bq×V)}{f:List (List bq×Addr×Value)}(r:KT H a f)(k:List bq):jP (dk a k) ((vW f k).map (·.2)):=by
 induction r with
 |nil=>exact mn
 |@cons p q s i h t j=>
  obtain⟨d,_,g⟩:=h;by_cases e:p.1=k
  .have c:q.1=k:=d.symm.trans e;have b:vW (q::i) k=some q.2:=by simp[vW,Dy,c]
   rw[od e,b];exact g
  have c:¬q.1=k:=λz=>e (d.trans z);have b:vW (q::i) k=vW i k:=by simp[vW,Dy,c]
  rw[nx e,b];exact j
theorem KT.TO{a:List (List bq×V)}{f:List (List bq×Addr×Value)}(r:KT H a f)(k:List bq)(l:RelV y u):
  KT H (a.map λc=>if c.1=k then(c.1,y)else c) (f.map (putAt k u)):=by
 induction r with
 |nil=>exact .nil
 |@cons p q s j h t i=>
  rw[jd,jd];refine .cons ?_ i;obtain⟨b,d,g⟩:=h;unfold putAt;by_cases e:p.1=k
  .rw[bS e,bS (b.symm.trans e)];show#[b,d,l]
  rw[bx e,bx (λz=>e (b.trans z))];show#[b,d,g]
theorem KT.put{H:af}{a:List (List bq×V)}{c:List (List bq×Addr×Value)}(r:KT H a c)(k:List bq)(f:H b=some (.tup (k.map dq)))(d:RelV y u):
  KT H (fw a k y) (storedH c k b u):=by
 have e:(a.any λg=>decide (g.1=k))=(vW c k).isSome:=by rw[rt,(r.val k).Ko,aeW]
 unfold fw storedH;rw[e];by_cases q:(vW c k).isSome=true
 .rw[bS q,bS q];exact r.TO k d
 rw[bx q,bx q];exact Paired.snoc r #[rfl,f,d]
theorem KT.keeps{H H':af}{a:List (List bq×V)}{c:List (List bq×Addr×Value)}(r:KT H a c)(f:∀b d,H b=some (.tup d)->H' b=some (.tup d)):KT H' a c:=
 b2.fT r λ_ _ z=>#[z.1,f _ _ z.2.1,z.2.2]
end
section
variable{P:cx}{w:bf}{H:af}{h:Heap}{a:Addr}
theorem ZY(ok:gb P w H h)(e:fD H a u):fk P w H h a u:=e.ok ok
theorem zS{b:List (bq×V)}(ok:gb P w H h)(e:fD H a (.cv b)):b.length<=sizeLine/\(a==lh)=false/\∃vs,gR b vs/\h.DictOf (h9 P w) a vs:=
 show fk P w H h a (.cv b)from ZY ok e
theorem zK{b:List (bq×V)}(ok:gb P w H h)(e:H a=some (.cv b)):b.length<=sizeLine/\(a==lh)=false/\∃vs,gR b vs/\h.DictOf (h9 P w) a vs:=zS ok (.inl e)
theorem Hl{b:List bq}(ok:gb P w H h)(e:H a=some (.tup (b.map dq))):(zo (h9 P w)).is h b a:=by
 obtain⟨_,c,r,o,d,f,n,g⟩:=(show fk P w H h a (.tup (b.map dq))from ok a _ e)
 show#[o,c.toArray,n,d,f,g,by simpa using VW r]
theorem zT{b:List (List bq×V)}(ok:gb P w H h)(e:fD H a (.dB b)):b.length<=sizeLine/\(a==lh)=false/\
  ∃d,KT H b d/\h.DictOfH (zo (h9 P w)) a d:=by
 obtain⟨z,y,d,r,o,L,K,f,g,k,n,A⟩:=(show fk P w H h a (.dB b)from ZY ok e)
 show#[z,y,d,r,o,L,K,f,g,k,n,λx c=>?_,A];have all:∀{l:List (List bq×V)}{m:List (List bq×Addr×Value)},KT H l m->∀x∈m,(zo (h9 P w)).is h x.1 x.2.1:=by
  intro l m q
  induction q with
  |nil=>intro x c;exact nomatch c
  |@cons p q u s i t j=>
   intro x c;rcases dr.mp c with e|c
   .subst e;exact Hl ok (by rw[<-i.1];exact i.2.1)
   exact j x c
 exact all r x c
theorem akT{b:List (List bq×V)}(ok:gb P w H h)(e:H a=some (.dB b)):b.length<=sizeLine/\(a==lh)=false/\
  ∃c,KT H b c/\h.DictOfH (zo (h9 P w)) a c:=zT ok (.inl e)
end
noncomputable def j9(H:af)(a:Addr)(y:V)(r:Option V):Prop:=
 (∃c k,fD H a (.cv c)/\y=dq k/\r=dk c k)\/∃c k b,fD H a (.dB c)/\y=.ref b/\H b=some (.tup (k.map dq))/\r=dk c k
noncomputable def tD(H:af)(a:Addr)(y v:V)(H':af):Prop:=
 (∃c k,H a=some (.cv c)/\y=dq k/\c.length<sizeLine/\H'=upd H a (.cv (fw c k v)))\/
 ∃c k b,H a=some (.dB c)/\y=.ref b/\H b=some (.tup (k.map dq))/\c.length<sizeLine/\H'=upd H a (.dB (fw c k v))
theorem j9.k{H:af}{b:List (bq×V)}{k:bq}(e:H a=some (.cv b)):j9 H a (dq k) (dk b k):=.inl #[b,k,.inl e,rfl,rfl]
theorem j9.t{H:af}{c:List (List bq×V)}{k:List bq}(e:H a=some (.dB c))(d:H b=some (.tup (k.map dq))):j9 H a (.ref b) (dk c k):=.inr #[c,k,b,.inl e,rfl,d,rfl]
theorem tD.k{H:af}{b:List (bq×V)}{k:bq}(e:H a=some (.cv b))(c:b.length<sizeLine):tD H a (dq k) v (upd H a (.cv (fw b k v))):=.inl #[b,k,e,rfl,c,rfl]
theorem tD.t{H:af}{c:List (List bq×V)}{k:List bq}(e:H a=some (.dB c))(f:H b=some (.tup (k.map dq)))(d:c.length<sizeLine):
  tD H a (.ref b) v (upd H a (.dB (fw c k v))):=.inr #[c,k,b,e,rfl,f,d,rfl]
section
variable{X:bH}{pins:ee}{U:St}{H:af}{s:aW}{a:Addr}{y v:V}{u r:Value}{o:Option V}{A:eu}{E:cW}
theorem Inv.big(I:Inv X pins U H s):lh<s.heap.objs.size:=by have h:rB<s.heap.objs.size:=(I.mod.glob.keeps I.hh).lt;exact NS (by decide) h
theorem aef{Q:cW}(j:A.units+1<cLine)(I:Inv X pins U H s)(g:j9 H a y (some v))(K:RelV y u)(h:∀d L,Inv X pins U H L->RelV v d->Q d L):
  aT (bg X.prog X.w) A (ED (.ref a) u) Q E s:=by
 rcases g with⟨w,k,e,m,l⟩|⟨w,k,b,e,m,i,l⟩
 .subst m;obtain⟨z,q,vs,c,f⟩:=zS I.bo e;obtain⟨d,n,t⟩:=jP.LD (v:=v) (o:=w4 vs k) (by rw[l];exact c.val k);exact asZ (tm K) f.mapOf n (h d _ (I.tok _) t)
 subst m;cases(show u=cX b from K);obtain⟨z,q,x,c,f⟩:=zT I.bo e;obtain⟨d,n,t⟩:=jP.LD (v:=v) (o:=(vW x k).map (·.2)) (by rw[l];exact c.val k);obtain⟨p,N,B⟩:=gS.mp n;refine wpAny_getItem_heap (Uq j) (Hl I.bo i) f N ?_;rw[B];exact h d _ (I.tok _) t
theorem ahK{Q:cW}(w:A.units+1<cLine)(I:Inv X pins U H s)(g:j9 H a y o)(p:RelV y u)(h:∀t,Inv X pins U H t->Q (.bool (!o.isSome)) t):
  aT (bg X.prog X.w) A (ki .NotIn u (.ref a)) Q E s:=by
 rcases g with⟨n,k,e,f,l⟩|⟨n,k,b,e,f,i,l⟩
 .subst f;obtain⟨z,m,vs,c,d⟩:=zS I.bo e;refine as5 (tm p) m d.mapOf ?_;rw[<-(c.val k).Ko,<-l];exact h _ (I.tok _)
 subst f;cases(show u=cX b from p);obtain⟨z,m,K,c,d⟩:=zT I.bo e;refine wpAny_notIn_heap (Uq w) (Hl I.bo i) m d ?_;have q:=(c.val k).Ko;rw[aeW]at q;rw[<-q,<-l];exact h _ (I.tok _)
theorem Cv{c:Heap}{k:Nat}(I:Inv X pins U H s)(b9:DO (H a))(h:kE a s.heap c)(g:∃q,c.get? a=some q)(d:fk X.prog X.w (upd H a ob) c a ob):
  Inv X pins U (upd H a ob) {s with heap:=c,toks:=k}:=
 I.write (x:=a) (e:=a) b9 (.inl rfl) (λb q f z=>(h.2 b f).trans z) g d
theorem Hm{w:bf}{d:Heap}{b:List (bq×V)}{vs:List (bq×Value)}(z:b.length<=sizeLine)(g:(a==lh)=false)(c:gR b vs)(f:d.DictOf (h9 P w) a vs):
  fk P w H' d a (.cv b):=#[z,g,vs,c,f]
theorem adP{Q:Unit->aW->Prop}(O:A.units+1<cLine)(I:Inv X pins U H s)(g:tD H a y v H')(x:RelV y u)(j:RelV v r)(h:∀F,Inv X pins U H' F->Q () F):
  aT (bg X.prog X.w) A (setItem (.ref a) u r) Q E s:=by
 rcases g with⟨d,k,e,L,l,p⟩|⟨d,k,b,e,L,B,l,p⟩
 .subst L p;obtain⟨z,N,vs,f,K⟩:=zK I.bo e;have t:vs.length<=sizeLine:=by rw[<-f.length];exact z
  have w:(fw d k v).length<=sizeLine:=by have:=K8 d k v;omega
  refine wpAny_setItem_pairs (hsz:=t) (tm x) K λC n i=>h _ ?_;have Y:∃q,C.get? a=some q:=let⟨q,_,_,m,_⟩:=n;#[q,m]
  exact Cv I (by rw[e];exact mn) i Y (Hm w N (f.put k j) n)
 subst L p;cases(show u=cX b from x);obtain⟨z,N,Z,f,K⟩:=akT I.bo e;have t:Z.length<=sizeLine:=by rw[<-jy f];exact z
 have w:(fw d k v).length<=sizeLine:=by have:=K8 d k v;omega
 refine wpAny_setItem_heap (hsz:=t) (Uq O) (Hl I.bo B) K λC n i=>h _ ?_;obtain⟨q,T,R,m,G,J,M,_,P⟩:=n;refine Cv I (by rw[e];exact mn) i #[q,m] #[w,N,_,(f.put k B j).keeps λc ys D=>?_,q,T,R,m,G,J,M,P];rw[aJ (eg D e (λz=>nomatch z))];exact D
end
section
variable{X:bH}{pins:ee}{U:St}{H:af}{s:aW}{a:Addr}{kvs:List (bq×V)}{k:bq}{u:Value}{A:eu}{E:cW}
theorem auc{Q:Unit->aW->Prop}(I:Inv X pins U H s)(e:H a=some (.cv kvs))(m:RelV (dq k) u)(l:(dk kvs k).isSome=true)(h:∀f,Inv X pins U (upd H a (.cv (w7 kvs k))) f->Q () f):
  aT (bg X.prog X.w) A (delItem (.ref a) u) Q E s:=by
 obtain⟨z,o,vs,b,c⟩:=zK I.bo e;refine wpAny_delItem_slot c.typeIs (by decide) afk
  (Eo afk c.typeIs PySem.F.entry_dict_delitem (PySem.F.args_dict_delitem_2 _ _) (meets_dict_delitem_pairs (h9 X.prog X.w) a (tm m)) #[vs,c,by rw[<-b.length];exact z,by rw[<-(b.val k).Ko];exact l,λn d r=>h _ ?_])
 have p:∃q,n.get? a=some q:=let⟨q,_,_,g,_⟩:=d;#[q,g]
 exact Cv I (by rw[e];exact mn) r p (Hm (dX (WE kvs k) z) o (b.drop k) d)
theorem akU{b:dx}{Q:cW}(I:Inv X pins U H s)(e:H a=some (.cv kvs))(f:RelV (dq k) u)(l:dk kvs k=some v)(m:b=[]\/∃x,b=[x])(h:∀d p,Inv X pins U (upd H a (.cv (w7 kvs k))) p->RelV v d->Q d p):aT (bg X.prog X.w) A (call (.builtin "dict.pop") (.ref a::u::b)) Q E s:=by
 obtain⟨z,L,vs,c,g⟩:=zK I.bo e;obtain⟨d,B,C⟩:=jP.LD (v:=v) (o:=w4 vs k) (by rw[<-l];exact c.val k);have r:(keyPart u).isSome=true:=by
  cases k with
  |inl i=>obtain⟨t,q⟩:=(show∃t,u=so i t from f);subst q;rfl
  |inr x=>obtain⟨t,q⟩:=(show∃t,u=sq x t from f);subst q;rfl
 have w:argsOk "dict.pop" #[.ref a::u::b,[]]:=by
  rcases m with q|⟨x,q⟩
  .subst q;exact PySem.F.args_dict_pop_2 _ _
  subst q;exact afh _ _ _
 refine Eo YI g.typeIs afj w (meets_dict_pop_there (h9 X.prog X.w) a (tm f) b m r)
  #[vs,d,g,by rw[<-c.length];exact z,B,λK n j=>h d _ ?_ C]
 have N:∃q,K.get? a=some q:=let⟨q,_,_,y,_⟩:=n;#[q,y]
 exact Cv I (by rw[e];exact mn) j N (Hm (dX (WE kvs k) z) L (c.drop k) n)
theorem ajj{Q:cW}(I:Inv X pins U H s)(e:H a=some (.cv kvs))(b:RelV (dq k) u)(l:dk kvs k=none)(h:∀f,Inv X pins U H f->Q r f):
  aT (bg X.prog X.w) A (call (.builtin "dict.pop") [.ref a,u,r]) Q E s:=by
 obtain⟨z,n,vs,c,d⟩:=zK I.bo e;have m:w4 vs k=none:=jP.none_of (by rw[<-l];exact c.val k);have g:(keyPart u).isSome=true:=by
  cases k with
  |inl i=>obtain⟨t,q⟩:=(show∃t,u=so i t from b);subst q;rfl
  |inr x=>obtain⟨t,q⟩:=(show∃t,u=sq x t from b);subst q;rfl
 exact Eo YI d.typeIs afj (afh _ _ _) (meets_dict_pop_default (h9 X.prog X.w) a (tm b) n g r) #[vs,d,m,h _ (I.tok _)]
end
noncomputable def OX(i:Expr):Prop:=∀a b,Uj i false a b=operate [a,b] (ED a b)
theorem Xi{w:bf}{E:cW}{a:Env}{id:String}{Q:cW}(n:typeLookup (.type T) "__getitem__"=pure (some (.builtin id)))(p:OX slice)(h:aT (bg prog w) A (eval value a) (λo k=>aT (bg prog w) A (eval slice a) (λi d=>d.TypeIs o T/\aT (bg prog w) A (ED o i) Q E d) E k) E s):
  aT (bg prog w) A (eval (.Subscript value slice pos) a) Q E s:=by
 refine Zt (ih h (λo k m=>ih m (λi d f=>?_) λ_ _ x=>x) λ_ _ x=>x);obtain⟨l,f⟩:=f;unfold aal;refine aE ?_;rw[getitemInPython_of_ne l.not_modules];refine aE (wpAny_specialOf l n ?_);have b:aT (bg prog w) A (Uj slice false o i) (λr c=>aT (bg prog w) A (letTemporaryGo value o r >>=λ_=>pure r) Q E c) E d:=by rw[p o i];exact wpAny_operating (ih f (λr c g=>aE (wpAny_letTemporaryGo (bW g))) λ_ _ x=>x)
 first
  |exact bW (aE b)
  |exact aE (bW (aE b))
  |exact aE b
theorem abY{s:aW}{o:Option V}(I:Inv X pins U H s)(g:j9 H a y o):s.TypeIs (.ref a) "dict":=by
 rcases g with⟨d,k,e,_,_⟩|⟨d,k,b,e,_,_,_⟩
 .obtain⟨_,_,vs,_,c⟩:=zS I.bo e;exact c.typeIs
 obtain⟨_,_,f,_,c⟩:=zT I.bo e;exact c.typeIs
noncomputable def akV(d ty:TE):TE:=λU H Q=>d U H λx c=>ty U c λy b=>∃a v,x=.ref a/\j9 b a y (some v)/\Q v b
noncomputable def ahL(ty d:TE):TE:=λU H Q=>ty U H λy c=>d U c λx b=>∃a o,x=.ref a/\j9 b a y o/\Q (.aV (!o.isSome)) b
noncomputable def akW(g ty h:TE):fO:=λD U H=>h U H λv c=>g U c λx d=>ty U d λy f=>∃a b,x=.ref a/\tD f a y v b/\D.di U b
section
variable{X:bH}{o i e value:Expr}{pos pos' zk:Pos}{eZ ty lS:TE}
theorem wK(w:X.A.units+1<cLine)(aX:bA X o eZ)(A:bA X i ty)(K:OX i):bA X (.Subscript o i pos) (akV eZ ty):=by intro b s U H Q I h;refine Xi afl.lookup K (bU (aX b s U H _ I h) λu N⟨x,d,k,n,m⟩=>bU (A b N U d _ k m) λq B f=>?_);obtain⟨y,l,c,p,a,v,z,g,r⟩:=f;subst z;obtain rfl:u=cX a:=n;show#[abY c g,aef w c g p λj V t L=>#[v,l,t,L,r]]
theorem US(w:X.A.units+1<cLine)(A:bA X i ty)(aX:bA X o eZ):DS X .NotIn i o (ahL ty eZ):=by intro b s U H Q I h;refine bU (A b s U H _ I h) λV L⟨y,c,f,p,l⟩=>bU (aX b L U c _ f l) λu j d=>?_;obtain⟨x,k,m,n,a,K,z,g,r⟩:=d;subst z;obtain rfl:u=cX a:=n;exact ahK w m g p λN t=>#[.aV (!K.isSome),k,t,rfl,r]
theorem Me(L:X.A.units+1<cLine)(aX:bA X o eZ)(V:bA X i ty)(n:bA X value lS)(j:Cr value (some (.Subscript o i pos')) pos.line X.env=pure false):
  h2 X (.Assign [.Subscript o i pos'] value pos) (akW eZ ty lS):=by intro b s U H D I h;refine wpAny_Assign_Subscript (bU (n b s U H _ I h) λr C⟨v,c,f,t,l⟩=>bU (aX b C U c _ f l) λu E⟨x,k,m,p,z⟩=>bU (V b E U k _ m z) λM F d=>?_) j;obtain⟨y,G,A,w,a,K,N,g,q⟩:=d;subst N;obtain rfl:u=cX a:=p;exact adP L A g w t λJ B=>#[U,K,B,q]
theorem WG{w:bf}(h:Heap)(a:lh<h.objs.size):fk P w H (h.push {cls:=.type "dict",data:=.dict #[]}) h.objs.size (.cv []):=
 #[e4 _,AO.mpr (dY (eT a)),[],.nil,Heap.DictOf.new h]
theorem af3{w:bf}(h:Heap)(a:lh<h.objs.size):fk P w H (h.push {cls:=.type "dict",data:=.dict #[]}) h.objs.size (.dB []):=
 #[e4 _,AO.mpr (dY (eT a)),[],.nil,_,#[],0,gG _ rfl,#[rfl,rfl,rfl],rfl,rfl,sd]
noncomputable def ajk:TE:=λ_ H Q=>∀p,H p=none->Q (.ref p) (upd H p (.cv []))
noncomputable def ajl:TE:=λ_ H Q=>∀p,H p=none->Q (.ref p) (upd H p (.dB []))
end
section
variable{X:bH}{pos:Pos}
theorem VD:bA X (.Dict [] [] pos) ajk:=λb s U H Q I h=>
 asX #[.ref s.heap.objs.size,_,I.laid (a:=s.heap.objs.size) (o:=.cv []) (t':=s.toks) (λ_ _ q=>d0 _ q) (cB _) (WG s.heap I.big),rfl,h _ (I.bo.fresh (cB _))]
theorem af4:bA X (.Dict [] [] pos) ajl:=λb s U H Q I h=>
 asX #[.ref s.heap.objs.size,_,I.laid (a:=s.heap.objs.size) (o:=.dB []) (t':=s.toks) (λ_ _ q=>d0 _ q) (cB _) (af3 s.heap I.big),rfl,h _ (I.bo.fresh (cB _))]
noncomputable def Nd:List (TE×TE)->St->af->(List (V×V)->af->Prop)->Prop
 |[],_,H,Q=>Q [] H
 | (bC,e)::r,U,H,Q=>bC U H λx a=>e U a λy b=>Nd r U b λd c=>Q ((x,y)::d) c
noncomputable abbrev ZC:List (V×V)->List (Value×Value)->Prop:=b2 λp q=>RelV p.1 q.1/\RelV p.2 q.2
end
noncomputable def IJ(X:bH)(d:Pos)(c:List (Option Expr))(a:h3)(h:List (TE×TE)):Prop:=
 ∀(b:ee)(s:aW)(U:St)(H:af)(Q:List (V×V)->af->Prop),Inv X b U H s->Nd h U H Q->
  aT (bg X.prog X.w) X.A (evalPairs (pairTrees c a X.env d)) (λvs g=>∃f H',Inv X b U H' g/\ZC f vs/\Q f H') X.er s
theorem ahM:IJ X pos [] [] []:=λa s U H Q I h=>pairTrees_nil_walk #[[],H,I,.nil,h]
theorem af5{k v:Expr}{c:List (Option Expr)}{vs:h3}{d:List (TE×TE)}(g:bA X k bC)(r:bA X v e)(n:IJ X pos c vs d):
  IJ X pos (some k::c) (v::vs) ((bC,e)::d):=λa s U H Q I h=>
 pairTrees_cons_walk (bU (g a s U H _ I h) λu V⟨x,f,l,t,o⟩=>bU (r a V U f _ l o) λq i⟨y,m,p,z,A⟩=>
  bU (n a i U m _ p A) λB j⟨N,w,K,b,L⟩=>#[(x,y)::N,w,K,.cons #[t,z] b,L])
noncomputable def CJ(c a:List (bq×V)):List (bq×V):=a.foldl (λb d=>fw b d.1 d.2) c
theorem gR.merge:∀{b:List (bq×V)}{rs:List (bq×Value)}{a:List (bq×V)}{vs:List (bq×Value)},gR b rs->gR a vs->gR (CJ a b) (merged vs rs):=by
 intro b rs a vs r;unfold gR at r
 induction r generalizing a vs with
 |nil=>intro q;exact q
 |@cons p q s j h t i=>
  intro r0;have e:gR (fw a p.1 p.2) (stored vs q.1 q.2):=by have:=r0.put p.1 h.2;rw[<-h.1];exact this
  exact i e
theorem aao:∀(b a:List (bq×V)),(CJ a b).length<=a.length+b.length
 |[],a=>by show a.length<=a.length+0;omega
 |p::r,a=>by have c:=aao r (fw a p.1 p.2);have d:=K8 a p.1 p.2;show(CJ (fw a p.1 p.2) r).length<=_;rw[gC];omega
theorem aa8{w:bf}:∀{d:List (bq×V)}{g:List (Value×Value)},ZC (d.map λf=>(dq f.1,f.2)) g->∃rs,Carries (h9 P w) g rs/\gR d rs
 |[],_,r=>by rw[Iy]at r;cases r;show#[[],mn,.nil]
 |p::d,_,r=>by
  rw[jd]at r;cases r with
  |@cons a b as bs h t=>
   obtain⟨rs,c,q⟩:=aa8 (P:=P) (w:=w) t;obtain⟨l,k⟩:=b;show#[(p.1,k)::rs,#[tm h.1,rfl,c],.cons #[rfl,h.2] q]
noncomputable def akX(f:List (TE×TE)):TE:=λU H Q=>∀p,H p=none->Nd f U (upd H p (.cv [])) λd b=>b p=some (.cv [])/\∃a:List (bq×V),d=a.map (λc=>(dq c.1,c.2))/\a.length<=15/\Q (.ref p) (upd b p (.cv (CJ [] a)))
theorem ahN{b:List (Option Expr)}{d:h3}{r:List (TE×TE)}(h:IJ X pos b d r)(D:b.all (·.isSome)=true)(K:b.length=d.length)(N:b≠[])(l:b.length<=15):bA X (.Dict b d pos) (akX r):=by
 intro g s U H Q I q;have t:=I.bo.fresh (cB s.heap.objs.size);have y:=I.laid (a:=s.heap.objs.size) (o:=.cv []) (h':=s.heap.push {cls:=.type "dict",data:=.dict #[]}) (t':=s.toks) (λ_ _ q=>d0 _ q) (cB _) (WG s.heap I.big);refine wpAny_Dict_walk (knd:=h9 X.prog X.w) D K N l (bU (h g _ U _ _ y (q _ t)) λM J k=>?_);obtain⟨G,F,n,m,e,f,u,lk,i⟩:=k;subst u;obtain⟨rs,c,E⟩:=aa8 (P:=X.prog) (w:=X.w) m;obtain⟨z,x,L,r0,j⟩:=zK n.bo e;cases r0;show#[rs,c,j,λh' p C=>#[.ref s.heap.objs.size,_,?_,rfl,i]];have k:(CJ [] f).length<=sizeLine:=by have A:=aao f [];rw[vB]at A;rw[u3];omega
 have B:∃q,h'.get? s.heap.objs.size=some q:=let⟨q,_,_,V,_⟩:=p;#[q,V]
 exact Cv n (by rw[e];exact mn) C B (Hm k x (E.merge .nil) p)
structure cw(X:bH)(o:Expr)(m:Str)(gr:Pos)(e:Expr)(gg:Pos):Prop where
 base:AM o m X.env (eval o X.env)=eval o X.env
 c3:((hJ gg (d2 [e] X.env)).all (λx=>!x.1)&&(n' gg (ox [] X.env)).all (λx=>x.1.isSome)
  && decide (([e]:h3).length+([]:List xy).length+(if([]:List xy).isEmpty then 0 else 1)<30))=true
 line:(gr.endLine==gg.line)=true
 trees:hJ gg (d2 [e] X.env)=[(false,eval e X.env)]
structure M2(X:bH)(o:Expr)(m:Str)(gr:Pos)(e f:Expr)(gg:Pos):Prop where
 base:AM o m X.env (eval o X.env)=eval o X.env
 c3:((hJ gg (d2 [e,f] X.env)).all (λx=>!x.1)&&(n' gg (ox [] X.env)).all (λx=>x.1.isSome)
  && decide (([e,f]:h3).length+([]:List xy).length+(if([]:List xy).isEmpty then 0 else 1)<30))=true
 line:(gr.endLine==gg.line)=true
 trees:hJ gg (d2 [e,f] X.env)=[(false,eval e X.env),(false,eval f X.env)]
noncomputable def Ds(H:af)(a:Addr):Prop:=(∃b,fD H a (.cv b))\/∃b,fD H a (.dB b)
theorem Nf{s:aW}(I:Inv X pins U H s)(d:Ds H a):
  s.TypeIs (.ref a) "dict"/\(∀b,cX a=.ref b->∃c,s.heap.get? b=some c/\c.dict=none)/\(a==lh)=false:=by
 rcases d with⟨l,e⟩|⟨l,e⟩
 .obtain⟨_,k,vs,_,f⟩:=zS I.bo e;show#[f.typeIs,λb q=>?_,k];cases q;obtain⟨c,_,_,g,h,_⟩:=f;show#[c,g,h.2.1]
 obtain⟨_,k,m,_,f⟩:=zT I.bo e;show#[f.typeIs,λb q=>?_,k];cases q;obtain⟨c,_,_,g,h,_⟩:=f;show#[c,g,h.2.1]
section
variable{X:bH}{pins:ee}{U:St}{H:af}{s:aW}{a:Addr}{y d:V}{u r:Value}{o:Option V}{A:eu}{E:cW}
theorem ajm{Q:cW}(L:A.units+1<cLine)(I:Inv X pins U H s)(g:j9 H a y o)(t:RelV y u)(h:∀w K,Inv X pins U H K->RelV (o.getD .b3) w->Q w K):
  aT (bg X.prog X.w) A (call (.builtin "dict.get") [.ref a,u]) Q E s:=by
 rcases g with⟨p,k,e,m,l⟩|⟨p,k,b,e,m,i,l⟩
 .subst m;obtain⟨z,n,vs,c,f⟩:=zS I.bo e;refine Eo YH f.typeIs afi (afg _ _) (meets_dict_get (h9 X.prog X.w) a (tm t) n) #[_,f.mapOf,h _ _ (I.tok _) ?_];rw[l];exact(c.val k).getD rfl
 subst m;cases(show u=cX b from t);obtain⟨z,n,N,c,f⟩:=zT I.bo e;refine Eo YH f.typeIs afi (afg _ _) (meetsH_dict_get (zo (h9 X.prog X.w)) a b n) #[Uq L,k,N,Hl I.bo i,f,h _ _ (I.tok _) ?_];rw[l];exact(c.val k).getD rfl
end
noncomputable def ajn(d ty:TE):TE:=λU H Q=>d U H λx b=>∃a,x=.ref a/\Ds b a/\ty U b λy c=>∃o,j9 c a y o/\Q (o.getD .b3) c
noncomputable def ajo(g ty h:TE):TE:=λU H Q=>g U H λx d=>∃a,x=.ref a/\Ds d a/\ty U d λy f=>h U f λz c=>∃b k,c a=some (.cv b)/\y=dq k/\
 (∀v,dk b k=some v->Q v (upd c a (.cv (w7 b k))))/\(dk b k=none->Q z c)
section
variable{X:bH}{o e f:Expr}{gr gg:Pos}{eZ ty qs:TE}
theorem WH(K:X.A.units+1<cLine)(aX:bA X o eZ)(V:bA X e ty)(m:cw X o "get" gr e gg):bA X (.Call (.Attribute o "get" gr) [e] [] gg) (ajn eZ ty):=by intro b s U H Q I h;refine aaI m.base m.c3 m.line N9 YH PySem.F.type_dict_get (bU (aX b s U H _ I h) λu j l=>?_);obtain⟨x,k,c,t,a,L,d,p⟩:=l;subst L;obtain rfl:u=cX a:=t;obtain⟨q,N,_⟩:=Nf c d;show#[q,N,?_];rw[m.trees];refine HD rfl (HE (C5 (bU (V b j U k _ c p) λE F⟨y,n,r,w,D,g,z⟩=>MF ?_)));exact ajm K r g w λC B A i=>#[_,n,A,i,z]
theorem af6(aX:bA X o eZ)(J:bA X e ty)(i:bA X f qs)(m:M2 X o "pop" gr e f gg):bA X (.Call (.Attribute o "pop" gr) [e,f] [] gg) (ajo eZ ty qs):=by
 intro b s U H Q I h;refine aaI m.base m.c3 m.line N9 YI PySem.F.type_dict_pop (bU (aX b s U H _ I h) λu P K=>?_);obtain⟨x,A,p,j,a,E,d,N⟩:=K;subst E;obtain rfl:u=cX a:=j;obtain⟨T,F,_⟩:=Nf p d;show#[T,F,?_];rw[m.trees];refine HD rfl (HE (C5 (bU (J b P U A _ p N) λnD R⟨y,L,V,r,C⟩=>
  C5 (bU (i b R U L _ V C) λG Z⟨z,q,t,w,g,k,n,D,O,Y⟩=>MF ?_))))
 subst D;cases l:dk g k with
 |some v=>exact akU t n r l (.inr #[G,rfl]) λfK B c M=>#[v,_,c,M,O v l]
 |none=>exact ajj t n r l λB c=>#[z,q,c,w,Y l]
end
section
variable{κ:Type}[DecidableEq κ]
theorem af7{a:List (κ×V)}{k:κ}(h:dk a k=none):¬k∈a.map (·.1):=by intro m;obtain⟨p,b,e⟩:=cm.mp m;have q:(a.any λc=>decide (c.1=k))=true:=pM.mpr #[p,b,cE e];rw[rt,h]at q;exact bG q (by simp)
theorem UT{a:List (κ×V)}{k:κ}(h:dk a k=some v):k∈a.map (·.1):=by
 have q:(a.any λc=>decide (c.1=k))=true:=by
  rw[rt,h]
  all_goals rfl
 obtain⟨p,b,e⟩:=pM.mp q;exact cm.mpr #[p,b,nK e]
theorem Xj:∀{l:List κ}{k:κ},l.Nodup->¬k∈l->(l++[k]).Nodup
 |[],k,_,_=>by simp
 |a::r,k,h,e=>by
  obtain⟨b,c⟩:=jw.mp h;show(a::(r++[k])).Nodup;refine jw.mpr #[λm=>?_,Xj c λm=>e (dr.mpr (NZ m))];rcases hy.mp m with q|q
  .exact b q
  exact e (dr.mpr (IH (gp.mp q).symm))
theorem ahO{a:List (κ×V)}{k:κ}(v:V)(b:(a.map (·.1)).Nodup)(h:dk a k=none):((fw a k v).map (·.1)).Nodup:=by rw[Ca v h,eK];exact Xj b (af7 h)
end
end ao
namespace b_
section
open PySem PySem.Spec PyProof.Rows
open PySem.Builtin PySem.Builtin.Getset_descriptor
structure px(K:aN)(C:Addr):Prop where
 ga:cD K (.ref C) "__getattribute__"=some (some (.builtin "BaseException.__getattribute__"))
 no:cD K (.ref C) "__getattr__"=some none
 az:cD K (.ref C) "__class__"=some (some (.builtin "object.__class__"))
 aM:uc K (.builtin "object.__class__") "__get__"=some (some (.builtin "getset_descriptor.__get__"))
 Kk:Ay K (.builtin "object.__class__")=some true
 hm:n8 K C (.type "object")=some true
 aa:n8 K C (.type "BaseException")=some true
noncomputable def vp(h:Heap)(x C:Addr):Prop:=∃o,h.get? x=some o/\o.cls=.ref C
theorem vp.type{M:n7}(I:vp h x C):pS M h (typeOf (.ref x)) (.ref C):=by obtain⟨o,e,c⟩:=I;rw[<-c];exact(Oa e).andThen .now
section
variable{prog:cx}{w:bf}{A:eu}{E:cW}{s:aW}{K:aN}{x C:Addr}{name:Str}
theorem adQ{M:n7}{b:Value}{Q:Unit->aW->Prop}(X:K.In s.heap)(c:px K C)(I:vp s.heap x C)(m:Q () s):
  aT M A (anB "BaseException.__getattribute__" #[[.ref x,b],[]]) Q E s:=by
 have f:builtinKind "BaseException.__getattribute__"=some .slot:=by decide+kernel
 have a:splitId "BaseException.__getattribute__"=some ("BaseException","__getattribute__"):=by decide+kernel
 have l:=F.args_bexc_ga (.ref x) b;have k:pS M s.heap (E5 (.ref x) (.type "BaseException")) true:=I.type.andThen (afD X c.aa);obtain⟨h,g,d,t,os⟩:=s;simp only[anB,f,a];refine aE (k.at ?_)
 repeat (first|assumption|wp_step)
theorem aiU{fill:Bool}{Q:cW}(X:K.In s.heap)(c:px K C)(I:vp s.heap x C)(h:∀n:eu,ni (bg prog w) n (.call (.builtin "BaseException.__getattribute__") #[[.ref x,.str name bC],[]]) (λr k=>match r with|.ok (.ret v)=>aT (bg prog w) A (handedOut v) Q E k|_=>False) s):
  aT (bg prog w) A (ó (.ref x) (.str name bC) fill expr) Q E s:=by
 have m:=I.type (M:=bg prog w);have p:=ub (M:=bg prog w) X c.ga;have ao:=ub (M:=bg prog w) X c.no;have o:=F.excAttr_ValueError.ga.bind (.ref x);have a:(expr&&ū (xX "BaseException.__getattribute__"))=false:=by cases expr<;>rfl
 have b:(xX "BaseException.__getattribute__"==xX "object.__getattribute__")=false:=by decide+kernel
 have l:(ū (cX C)&&xX "BaseException.__getattribute__"==xX "object.__getattribute__")=false:=by rw[b];rfl
 obtain⟨y,g,d,t,os⟩:=s;unfold ó;refine oH (aE (m.at (aE (p.at ?_))));dsimp only;rw[bx (by rw[l];exact ha)];unfold getAttrByItsOwn hookBefore;rw[bS (show ū (cX C)=true from rfl)];refine aE (ao.at ?_);refine aE (zw (oH ?_));unfold callGetattribute;rw[bx (by rw[a];exact ha)];unfold boundAndCalled;rw[o];refine aE (bW ?_);refine rV (q6 (h _) λr k f=>?_);rcases r with e|(_|_|_|v)<;>first|exact f|exact f.elim
theorem af8{R:vR->aW->Prop}{b:Value}(X:K.In s.heap)(I:vp s.heap x C)(c:n8 K C (.type "object")=some true)(h:R (.ok (.ret (.ref C))) s):
  ni (bg prog w) A (.call (.builtin "getset_descriptor.__get__") #[[.builtin "object.__class__",.ref x,b],[]]) R s:=by
 have f:=I.type (M:=bg prog w);have a:=afD (M:=bg prog w) X c;obtain⟨k,g,d,t,os⟩:=s;refine AV afs.plain at4 ?_;refine afs.check _ _ _ _ _ _ _ _ at6 (at1 _ _ _) ?_;unfold Builtin.«getset_descriptor.__get__» descrGet;rw[PySem.W.dga_obj];refine aE (bW ?_);unfold descrGetter descrCheckInstance descrNameAndClass E5;simp only[at5]
 repeat lk
 show#[MJ _ (by decide+kernel),AU at3 ?_];unfold Builtin.«object.__class__» shownTypeOf
 repeat lk
 exact h
theorem adR{M:n7}(X:K.In h)(c:cD K (.ref C) name=some (some a))(d:uc K a "__get__"=some (some g))(f:Ay K a=some true):
  pS M h (abp (.ref x) (.ref C) name) (.bind g a):=by
 have k:=ub (M:=M) X c;have ao:pS M h (atI (some a)) (some g):=PySem.W.looks_specialIn X d;have b_:=PySem.W.looks_takesIn (M:=M) X f;unfold abp;refine k.andThen (ao.andThen ?_);have b:pS M h (abo (some a) (some g)) (some (g,a)):=by unfold abo;refine b_.andThen ?_;exact .now
 exact b.andThen (PySem.W.Looks.tag .now)
theorem px.some(c:px K C):(vQ K C).isSome=true:=by have h:=c.hm;unfold n8 at h;obtain⟨b,a,_⟩:=Option.bind_eq_some_iff.mp h;rw[a];rfl
theorem adS{fill:Bool}{a:Tok}{Q:cW}(X:K.In s.heap)(c:px K C)(I:vp s.heap x C)(h:Q (.ref C) s):
  aT (bg prog w) A (ó (.ref x) (.str "__class__" a) fill expr) Q E s:=by refine aiU X c I λm=>AV F.excAttr_ValueError.ga.plain F.entry_bexc_ga (adQ X c I ?_);have b:=I.type (M:=bg prog w);have k:=adR (M:=bg prog w) (x:=x) X c.az c.aM c.Kk;obtain⟨n,g,d,t,os⟩:=s;unfold Builtin.«object.__getattribute__»;have l:slotArgs "__getattribute__" 1 #[[.ref x,.str (bc "__class__") a],[]]=pure (.ref x,[.str (bc "__class__") a]):=rfl;rw[l];refine aE (bW ?_);dsimp only;have f:atG (.str (bc "__class__") a)=pure (bc "__class__"):=rfl;rw[f];refine aE (bW (aE (b.at (aE (k.at ?_)))));dsimp only;unfold atH;show aT _ _ (uK [xX "object.__class__"] (call (xX "getset_descriptor.__get__") [xX "object.__class__",cX x,cX C]) >>=ret) _ _ _;refine aE (oH (rV (af8 X I c.hm ?_)));refine bW ?_;show aT _ _ (handedOut (.ref C)) _ _ _;exact bW h
theorem ahP{Q:Option Value->aW->Prop}(X:K.In s.heap)(c:px K C)(I:vp s.heap x C)(h:Q (some (.ref C)) {s with toks:=s.toks+1}):aT (bg prog w) A (getAttr? (.ref x) "__class__") Q E s:=by unfold getAttr? getAttrBy?;refine aE (wpAny_mkText (aE (zw ?_)));refine adS (s:={s with toks:=s.toks+1}) X c I ?_;exact bW h
end
end
open PySem PySem.Spec PyProof.Rows ao
theorem af9{K:aN}{M:n7}(c:px K C)(X:K.In h):pS M h (isType (.ref C)) true:=by
 obtain⟨g,a⟩:=xK.mp c.some;unfold vQ at a;split at a
 .rename_i f d l b aX;intro A Q E s k q;unfold isType loadHead;exact aE (as2 (k _ _ (X _ _ aX)) (bW q))
 cases a
theorem Vr{K:aN}(c:px K C):PySem.W.KitX K (.ref i) (.ref C) (λh=>vp h i C)where
 ty:=λ_ _ _ I=>I.type
 it:=λ_ _ X _=>af9 c X
 ne:=λh b p d n l X f=>by
  refine r4.mpr λq=>?_;have e:C=b:=Value.ref.inj (qS.mp q);subst e;obtain⟨r,a⟩:=xK.mp c.some;unfold vQ at a;split at a
  .rename_i o m t g aX;have z:=(X _ _ aX).symm.trans f;cases z
  cases a
 ca:=λX I k=>ahP X c I k
section
variable{X:bH}
theorem aud:kt X (.builtin "isinstance") (λw H Q=>∃(a C p:Addr)(d:bL)(b:Bool),w=[.ref a,.ref p]/\H a=some (xp a C)/\H p=some (.tup (d.map V.ref))/\px X.K C/\PySem.W.kitAny X.K (.ref C) (d.map cX)=some b/\Q (.aV b) H):=by
 intro t s U H w O Q I r h;obtain⟨a,C,p,d,b,rfl,B,k,c,g,q⟩:=h;obtain⟨u,F,rfl,K,N⟩:=vals2 r;cases K;cases N;obtain⟨ty,_,_⟩:=(show fk X.prog X.w H s.heap a (xp a C)from I.bo a _ B)
 obtain⟨x,f,m,⟨G,E,y,J⟩,aX,l,n,o⟩:=(show fk X.prog X.w H s.heap p (.tup (d.map V.ref))from I.bo p _ k)
 simp only at l o;subst l o;have L:f=d.map cX:=by
  clear aX k g x
  induction d generalizing f with
  |nil=>cases m;rfl
  |cons M D e=>
   cases m with
   |cons i j=>
    cases i;rw[e _ j];rfl
 rw[L]at aX;exact PySem.W.kia_tup (Vr c) I.eL ty aX g (λz=>nomatch z) λA=>#[.aV b,H,I.tok A,rfl,q]
theorem oW:kt X (.builtin "isinstance") (λl H Q=>∃(a C:Addr)(b:Bool),H a=some (xp a C)/\px X.K C/\((∃R,l=[.ref a,.ref R]/\ml X.K (.ref C) (.ref R)=some b)\/∃T,l=[.ref a,.ty T]/\ml X.K (.ref C) (.type T)=some b)/\Q (.aV b) H):=by
 intro m s U H l t Q I r h;obtain⟨a,C,b,p,c,o,q⟩:=h;obtain⟨ty,_,_⟩:=(show fk X.prog X.w H s.heap a (xp a C)from I.bo a _ p)
 rcases o with⟨R,rfl,d⟩|⟨T,rfl,d⟩
 .obtain⟨u,n,rfl,g,k⟩:=vals2 r;cases g;cases k;exact pT (Vr c) I.eL ty d (λz=>nomatch z) λf=>#[.aV b,H,I.tok f,rfl,q]
 obtain⟨u,n,rfl,g,k⟩:=vals2 r;cases g;cases k;exact pT (Vr c) I.eL ty d (λz=>nomatch z) λf=>#[.aV b,H,I.tok f,rfl,q]
theorem υ{k:Nat}{A:eu}(r:gF k A):A.units+65<cLine:=by have:=r.un;omega
inductive alV(K:aN)(neg:Bool)(x:ao.V)(y:ao.V)(H:af)(Q:a4):Prop where
 |mk(d:_)(ds:_)(_:nX K H x d)(_:nX K H y (.list ds))(_:ud d=true)(_:xM ds=true)(_:Q (.aV (if neg then !(ds.any λz=>jz z d)else ds.any λz=>jz z d)) H)
theorem aga{A:eu}{d:PyData}(a:ud d=true)(f:A.units+65<cLine):A.units+1+min (qI ds) d.depth<cLine:=by have b:=SeqAt.depth_of_shaped a;have c:min (qI ds) d.depth<=d.depth:=DP _ _;omega
theorem Y_(k:X.A.units+65<cLine):hf X (ki .In) (alV X.K false):=by intro b s U H x y v u Q I c g h;obtain⟨d,ds,l,m,a,f,q⟩:=h;obtain⟨p,n⟩:=yW I l c;obtain⟨r,o⟩:=yW I m g;exact SeqAt.in_list_reads o n f (SeqAt.canLay_of_shaped a) (aga a k) #[.aV _,H,I,rfl,q]
end
end b_
namespace dR
open PySem ao b_
theorem jI:iX "len"=some (.builtin "len"):=by decide+kernel
theorem kh:iX "isinstance"=some (.builtin "isinstance"):=by decide+kernel
theorem HG:iX "all"=some (.builtin "all"):=by decide+kernel
theorem HH:iX "int"=some (.type "int"):=by decide+kernel
theorem ahQ:iX "bool"=some (.type "bool"):=by decide+kernel
theorem j1:iX "str"=some (.type "str"):=by decide+kernel
theorem wL:iX "list"=some (.type "list"):=by decide+kernel
theorem Vs:iX "tuple"=some (.type "tuple"):=by decide+kernel
theorem aiV:iX "set"=some (.type "set"):=by decide+kernel
theorem atq:iX "ValueError"=some (.type "ValueError"):=by decide+kernel
structure ft(mg:cb):Prop where
 len:mg "len"=none
 range:mg "range"=none
 isinstance:mg "isinstance"=none
 Jr:mg "all"=none
 int:mg "int"=none
 bool:mg "bool"=none
 str:mg "str"=none
 list:mg "list"=none
 tuple:mg "tuple"=none
 ar4:mg "set"=none
 ValueError:mg "ValueError"=none
 enumerate:mg "enumerate"=none
 max:mg "max"=none
 min:mg "min"=none
 sum:mg "sum"=none
 auh:mg "any"=none
 dict:mg "dict"=none
 sorted:mg "sorted"=none
 zip:mg "zip"=none
structure cu(K:aN)(mg:cb)(x:Str)(st:Stmt)(ps:cK)(f:Addr)(fd:nY):Prop where
 fn:cj K x x st f fd
 at_:mg x=some (.ref f)
 bd:Binds K fd ps []
structure cH(K:aN)(C:Addr)(m qual:Str)(st:Stmt)(ps:cK)(f:Addr)(fd:nY):Prop where
 fn:cj K m qual st f fd
 dQ:Meth K C m f
 bd:Binds K fd ps []
structure jc(K:aN)(C:Addr)(qual:Str)(st:Stmt)(ps:cK)(f:Addr)(fd:nY):Prop where
 fn:cj K "__init__" qual st f fd
 made:lq K C f
 bd:Binds K fd ps []
theorem d9{X:bH}{k:Nat}{f:Addr}{st:Stmt}{e:Expr}{a:h3}{t:gf}(F:aD X.prog X.w X.K X.mg X.base i k f fd j sp)(D:cu X.K X.mg x st j f fd)(b:gF k X.A)(c:ou i X E)(d:hg X (e::a) t)(g:jb X x:=by rfl)(l:(x==("__debug__":Str))=false:=by decide)(h:d2 (e::a) X.env=(false,eval e X.env)::d2 a X.env:=by rfl)(fI:(hJ pos (d2 a X.env)).any (·.1)=false:=by rfl):bA X (.Call (.Name x p) (e::a) [] pos) (ZE sp [] E t):=ag2 F b g D.at_ D.fn.eJ D.bd .nil c d l h fI
noncomputable def tT(a:cb)(x:Str)(i:Int):Prop:=∃t,a x=some (.int i t)
theorem uP{X:bH}{i:Int}(a:jb X x)(h:tT X.mg x i)(b:(x==("__debug__":Str))=false:=by decide):bA X (.Name x pos) (tk (.int i)):=by obtain⟨t,e⟩:=h;exact Xq a e #[t,rfl] b
theorem wR{X:bH}(b:jb X x)(f:X.mg x=none)(c:iX x=some (.type T))(a:x≠"__name__":=by decide)(d:(x==("__debug__":Str))=false:=by decide):bA X (.Name x pos) (tk (.ty T)):=
 aha (v:=.ty T) b f c rfl a d
theorem km{X:bH}(c:X.mg x=some (.ref C))(a:jb X x:=by rfl)(b:(x==("__debug__":Str))=false:=by decide):bA X (.Name x pos) (tk (.ref C)):=
 Xq (v:=.ref C) a c rfl b
theorem Cw{h:fi}{g:TE}{rest:ao.St}{H1:af}{Q:a4}{J:gB}{xs:aO}(n:∀R:gB->af->Prop,R J H1->h U H R)(m:iN cs U=none::rest)(l:pW J H1 xs)(k:xs.length<sizeLine)(f:ao.V->ao.V)(b:∀(i:Nat)(x:ao.V)(a:af)(R:a4),xs[i]?=some x->aB H1 a->(∀d,aB a d->R (f x) d)->g (some x::rest) a R)(c:∀(D:Addr)(H':af),H1 D=none->H' D=some (.lst (xs.map f))->aB H1 H'->Q (.ref D) H'):pq h cs (iL 0) tS g U H Q:=n _ (aje m l k f b c)
theorem Dc{X:bH}:ou (fg X.prog X.w) X kC:=by rintro a U H s e b I ⟨_,_,_,_,_,_,_,z⟩;exact z.elim
theorem lE{f a:List (Str×Addr)}(h:∀p∈f,a.lookup p.1=some p.2)(x:Str)(c:Addr)(e:f.lookup x=some c):a.lookup x=some c:=by
 induction f with
 |nil=>cases e
 |cons p r i=>
  obtain⟨y,d⟩:=p;rw[List.lookup_cons]at e;by_cases b:(x==y)=true
  .rw[b]at e;cases e;have:=h (y,c) (vD ..);rw[show x=y from eq_of_beq b];exact this
  rw[Bool.not_eq_true]at b;rw[b]at e;exact i (λp g=>h p (n3 _ g)) e
end dR
namespace cw
open PySem
noncomputable def m7(l:b7):Prop:=1<=l.length/\l.length<=8/\∀x∈l,97<=x/\x<=122
structure fD where
 a:Nat
 b:Nat
 t:Int
 m:Int
abbrev cC:= List fD
structure fD.Ok(r:fD)(n:Nat):Prop where
 a:r.a<n
 b:r.b<n
 ne:r.a≠r.b
 t:1<=r.t/\r.t<=9
 m:1<=r.m/\r.m<=1000000000
end cw
namespace dR
open PySem ao b_ cw
section
variable{P:cx}{w:bf}{K:aN}{mg:cb}{base:Heap}
noncomputable abbrev S(l:b7):Str:=⟨l.toArray⟩
theorem ahR{a:hA}{k:Int}(d:0<=k)(c:k<(a.map V.int).length):gT (a.map V.int) k=some (V.int (a.getD k.toNat 0)):=by
 have b:k.toNat < a.length:=by rw[bP]at c;omega
 have e:(a.map V.int)[k.toNat]?=some (V.int (a.getD k.toNat 0)):=by rw[dV,dw b];simp[ea,b]
 have:=iH e
 rwa [xt d]at this
inductive φ(K:aN)(vs:aO)(H:af)(Q:a4)(f':bY):Prop where
 |mk(a:Addr)(ns:hA)(k:Int)(_:vs=[.ref a,.int k])(_:aQ K H a (ns.map V.int))(_:0<=k)(_:Q (.int (ns.getD k.toNat 0)) H)
theorem abZ:(bc "abcdefghijklmnopqrstuvwxyz").cps.toList=(eB 26).map (97+·):=by decide+kernel
theorem agb{i:Int}(a:0<=i)(b:i<26):gT (bc "abcdefghijklmnopqrstuvwxyz").cps.toList i=some (97+i.toNat):=by
 have e:(bc "abcdefghijklmnopqrstuvwxyz").cps.toList[i.toNat]?=some (97+i.toNat):=by rw[abZ,dV,adu (by omega)];rfl
 have:=iH e
 rwa [xt a]at this
theorem mM(a b:b7):S a++S b=S (a++b):=by show Om _ _=_;simp[Om,S]
theorem d6(a:b7):(S a).length=a.length:=by simp[S,Oq]
noncomputable def cN(a:bt):List ao.V:=a.map λl=>V.str (S l)
theorem MK(a:bt):cN a=(a.map S).map V.str:=by simp[cN]
theorem Xk(l:b7):signs (S l)=l.map λc=>V.str (S [c]):=by simp[signs,S]
noncomputable def gY(a:bt)(r:cw.fD):List ao.V:=[.str (S (a.getD r.a [])),.str (S (a.getD r.b [])),.int r.t,.int r.m]
noncomputable def eE(H:af):List Addr->List aO->Prop:=b2 λr d=>H r=some (.tup d)
theorem eE.same(a:aB H H'){rs ds}(h:eE H rs ds):eE H' rs ds:=b2.fT h λ_ _ e=>a _ _ e
noncomputable def aS(rs:bL):List ao.V:=rs.map V.ref
theorem Paired.snoc{a b:Type}{F:a->b->Prop}{x:a}{y:b}(q:F x y):∀{l:List a}{m:List b},b2 F l m->b2 F (l++[x]) (m++[y])
 |_,_,.nil=>.cons q .nil
 |_,_,.cons r t=>.cons r (Paired.snoc q t)
theorem Za{a:bt}{k:Int}(c:0<=k)(d:k<a.length):gT (cN a) k=some (V.str (S (a.getD k.toNat []))):=by
 have b:k.toNat < a.length:=by omega
 have e:(cN a)[k.toNat]?=some (V.str (S (a.getD k.toNat []))):=by unfold cN;rw[dV,dw b];simp[ea,b]
 have:=iH e
 rwa [xt c]at this
theorem o6(a:bt):(cN a).length=a.length:=bP ..
theorem gJ{H:af}(a:H p=none)(c:aB H H'):aB H (upd H' p o):=λb u e=>by rw[aJ (b1 e a)];exact c b u e
theorem eE.upd{H:af}{rs ds}(h:eE H rs ds)(e:H p=some u)(a:∀d,u≠.tup d):eE (upd H p o) rs ds:=b2.fT h λr d q=>by
 rw[aJ]
 .exact q
 rintro rfl;rw[e]at q;exact a d (hI q)
theorem yP(rs:bL)(t:Addr):aS rs++[V.ref t]=aS (rs++[t]):=by simp[aS]
theorem fo(rs:bL):(aS rs).length=rs.length:=bP ..
theorem eE.len{H rs ds}(h:eE H rs ds):rs.length=ds.length:=jy h
theorem bF{H:af}{t:Addr}(a:H t=none):aB H (upd H t o):=λb u e=>by rw[aJ (b1 e a)];exact e
theorem eQ{A B:Prop}(h:b=true)(q:A):if b=true then A else B:=by rw[bS h];exact q
theorem dA{A B:Prop}(h:b=false)(q:B):if b=true then A else B:=by subst h;exact q
theorem ZZ{R:a4}(e:b=true)(h:R (.aV true) H):R (.aV b) H:=by rw[e];exact h
theorem agc(a:aO):a.map (λ_=>V.aV true)=(m5 a.length true).map V.aV:=by
 induction a with
 |nil=>rfl
 |cons x r e=>simp[Yb,e]
theorem agd(n:Nat):(m5 n true).all id=true:=by rw[r_];intro x a;exact(List.mem_replicate.mp a).2
theorem U'(b:cK):(b.map V.str).all qm=true:=by rw[r_];intro x a;obtain⟨y,_,rfl⟩:=cm.mp a;rfl
theorem Xl{a:cK}{x:Str}(h:x∈a):oq (.str x) (a.map V.str)=true:=by unfold oq;rw[pM];show#[.str x,cm.mpr #[x,h,rfl],by show(x==x)=true;exact beq_self_eq_true x]
structure D2(mg:cb):Prop where
 adU:tT mg "MOST_HOUSES" 12
 adW:tT mg "MOST_ROADS" 40
 adY:tT mg "MOST_SIGNS" 8
 adZ:tT mg "MOST_TURNS" 9
 adX:tT mg "MOST_ROOM" 1000000000
theorem zU{b:b7}(h:S a=S b):a=b:=by have:=fa (λx=>x.cps.toList) h;simpa[S]using this
structure Good(hs:bt):Prop where
 nm:∀x∈hs,m7 x
 aI:hs.Nodup
 c3:hs.length<=12
theorem b2.get{a b:Type}{F:a->b->Prop}:∀{l:List a}{m:List b}{i:Nat}{x:a},b2 F l m->l[i]?=some x->∃y,m[i]?=some y/\F x y
 |_,_,_,_,.nil,e=>by simp at e
 |_,_,0,_,.cons r _,e=>by simp at e;subst e;show#[_,rfl,r]
 |_,_,i+1,x,.cons _ t,e=>by obtain⟨y,c,d⟩:=b2.get (i:=i) (x:=x) t (by simpa using e);show#[y,by simpa using c,d]
structure gs(H:af)(hs:bt)(rs:bL)(ds:cC):Prop where
 gz:eE H rs (ds.map (gY hs))
 ok:∀d∈ds,d.Ok hs.length
theorem gs.same{hs rs ds}(r:gs H hs rs ds)(a:aB H H'):gs H' hs rs ds:=#[r.gz.same a,r.ok]
theorem gs.get{H:af}{hs rs ds}{i:Nat}(q:gs H hs rs ds)(e:rs[i]?=some r):∃d,ds[i]?=some d/\d.Ok hs.length/\H r=some (.tup (gY hs d)):=by obtain⟨y,a,c⟩:=b2.get q.gz e;rw[dV]at a;obtain⟨d,b,rfl⟩:=gS.mp a;show#[d,b,q.ok d (fC b),c]
theorem gs.len{hs rs ds}(q:gs H hs rs ds):rs.length=ds.length:=by
 have:=q.gz.len
 rwa [bP]at this
theorem HI{b:bt}{a:Nat}(h:a<b.length):S (b.getD a [])∈b.map S:=by refine cm.mpr #[b.getD a [],?_,rfl];rw[ea,dw h];exact m3 h
noncomputable def SameBut(x:Addr)(H H':af):Prop:=∀b o,b≠x->H b=some o->H' b=some o
noncomputable def Ae(a b:Addr):List (Str×ao.V):=[("kept_houses",.ref a),("kept_roads",.ref b)]
structure tU(K:aN)(C:Addr):Prop where
 cl:dM K C
 s8:wQ K C "kept_houses"
 iP:wQ K C "kept_roads"
inductive Hd(K:aN)(C:Addr)(vs:aO)(H:af)(Q:a4)(f':bY):Prop where
 |mk(x ag a b:Addr)(hs:bt)(rs:bL)(ds:cC)(_:vs=[.ref x,.ref a,.ref b])(_:H x=some (.ins C ag []))(_:H a=some (.lst (cN hs)))(_:Good hs)(_:H b=some (.lst (aS rs)))(_:gs H hs rs ds)(_:rs.length<=40)(_:∀(H':af)(a' b':Addr),SameBut x H H'->H' x=some (.ins C ag (Ae a' b'))->H' a'=some (.lst (cN hs))->H' b'=some (.lst (aS rs))->H a'=none->H b'=none->Q .b3 H')
structure hL(C:Addr)(H:af)(x a' b':Addr)(xs ys:aO):Prop where
 ins:∃ag,H x=some (.ins C ag (Ae a' b'))
 jL:H a'=some (.lst xs)
 ky:H b'=some (.lst ys)
theorem hL.same(n:hL C H x a' b' xs e)(a:aB H H'):hL C H' x a' b' xs e:=
 let⟨b,h⟩:=n.ins
 #[#[b,a _ _ h],a _ _ n.jL,a _ _ n.ky]
inductive BS(C:Addr)(vs:aO)(H:af)(Q:a4)(f':bY):Prop where
 |mk(x a' b':Addr)(xs ys:aO)(_:vs=[.ref x])(_:hL C H x a' b' xs ys)(_:∀l,H l=none->Q (.ref l) (upd H l (.lst xs)))
inductive LW(C:Addr)(vs:aO)(H:af)(Q:a4)(f':bY):Prop where
 |mk(x a' b':Addr)(xs ys:aO)(_:vs=[.ref x])(_:hL C H x a' b' xs ys)(_:∀l,H l=none->Q (.ref l) (upd H l (.lst ys)))
inductive Xm(C R:Addr)(vs:aO)(H:af)(Q:a4)(E:bY):Prop where
 |mk(x a' b':Addr)(xs ys:aO)(k:Int)(_:vs=[.ref x,.int k])(_:hL C H x a' b' xs ys)(_:(0<=k/\k<ys.length->∃v,gT ys k=some v/\Q v H))(_:(¬(0<=k/\k<ys.length)->E (.ref R) none H))
noncomputable def bI(a:bt):List PyData:=(a.map S).map PyData.str
noncomputable def tc(a:bt)(d:cw.fD):PyData:=.tuple [.str (S (a.getD d.a [])),.str (S (a.getD d.b [])),.int d.t,.int d.m]
theorem LX(h:m7 l):DU (.str (S l))=true:=by simp only[DU,lr,S];rw[VZ];intro x a;have:=h.2.2 x (by simpa using a);exact cE (by omega)
theorem LI{ds:fW}{n:Nat}(h:∀d∈ds,d.depth<=n):qI ds<=n:=by
 induction ds with
 |nil=>exact e4 _
 |cons d r i=>
  simp only[qI];exact Nat.max_le.mpr #[h d (vD ..),i λe a=>h e (n3 _ a)]
theorem Good.at{b:bt}(G:Good b){a:Nat}(h:a<b.length):m7 (b.getD a []):=by refine G.nm _ ?_;rw[ea,dw h];exact m3 h
theorem WI(a:bt)(d:cw.fD):(tc a d).depth<=1:=by
 unfold tc;simp only[DV];exact NV (LI λe he=>by
  rcases dr.mp he with rfl|he
  .exact cB _
  rcases dr.mp he with rfl|he
  .exact cB _
  rcases dr.mp he with rfl|he
  .exact cB _
  rcases dr.mp he with rfl|he
  .exact cB _
  exact bG he e3)
theorem V2(a:bt)(ds:cC):(YF (ds.map (tc a))).depth<=2:=by
 simp only[DV];exact NV (LI λe b=>by
  obtain⟨x,_,rfl⟩:=cm.mp b;exact WI a x)
theorem V3{d:PyData}{n:Nat}(a:d.canLay0=true)(b:d.depth<=n)(c:n<=64):ud d=true:=by unfold ud;rw[a,cE (dX b c)];rfl
theorem WJ(a:bt):gs H a [] []:=#[.nil,λ_ h=>bG h e3]
inductive H_(K:aN)(vs:aO)(H:af)(Q:a4)(f':bY):Prop where
 |mk(a:Addr)(ns:hA)(_:vs=[.ref a])(_:aQ K H a (ns.map V.int))(_:ns.length<=63)(_:∀H',Q (.aV true) H')
noncomputable def CR(a:z2)(b:mr)(C R:Addr):Bool:=match a.mro,b.toList with
  |.ref e::bm,[_,_,_,_,some (.builtin _),_]=>e==C&&!a.hasDel&&bm.contains (.type "BaseException")&&(cX C::bm).contains (.ref R)
  |_,_=>false
theorem FT{K:aN}{b:Option Addr}{a:z2}(l:K.lookup C=some #[.type "type",b,.cls a,bM])(h:CR a bM C R=true):qh K C R=true:=by unfold qh;rw[l];exact h
theorem ne_int{i j:Int}(h:i≠j):decide (V.int i=V.int j)=false:=dt λz=>h (V.int.inj z)
theorem acq{n m:Option Addr}{a b:z2}{h p:mr}(r:K.lookup C=some #[.type "type",n,.cls a,h])(lo:K.lookup o=some #[.type "type",m,.cls b,p])(k:a.mro.isEmpty=false)(f:(cX C==cX o)=false)(g:a.mro.contains (.ref o)=false):ml K (.ref C) (.ref o)=some false:=by
 unfold ml YP;rw[bx (by rw[f];exact ha)];have d:vQ K o=some b:=by unfold vQ;rw[lo]
 have c:Az K (.ref o)=some (.type "type"):=by show(K.lookup o).map (·.cls)=some (.type "type");rw[lo];rfl
 have l:vQ K C=some a:=by unfold vQ;rw[r]
 dsimp only;rw[d,c,bS (by simp)];show n8 K C (.ref o)=some false;unfold n8;rw[l];show(if a.mro.isEmpty=true then none else some (a.mro.contains (.ref o)))=some false;rw[k,g];rfl
end
end dR
namespace ao
open PySem
section
variable{CX:nV}{P:cx}{w:bf}{K:aN}{mg:cb}{base:Heap}{N:cK}{qual:Str}{scope:Scope}{f:Addr}{eP:Value}{A:eu}{outer:List Env}{s:aW}{H:af}{E:bY}
theorem cT:(j8 CX P w K mg base N qual scope f eP A outer s H E).K=K:=rfl
theorem cS:(j8 CX P w K mg base N qual scope f eP A outer s H E).wI.K=K:=rfl
end
theorem cut{b:fO}{D:Ends}(h:∀R:fO,R=b->gN a R D U H):gN a b D U H:=h b rfl
theorem f3(c:fO){b:fO}{D:Ends}(e:c=gN a b)(h:∀R:fO,R=b->gN a R D U H):c D U H:=by subst e;exact h b rfl
end ao
namespace dR
open PySem ao b_ cw
section
variable{P:cx}{w:bf}{K:aN}{mg:cb}{base:Heap}
noncomputable def top(i:Nat):Stmt:=atX.main.body.getD i (.Pass #[0,0,0,0])
mutual
inductive c7(H:af):ao.V->PyData->Prop
 |b3:c7 H .b3 .none
 |aV(b:Bool):c7 H (.aV b) (.bool b)
 |int(i:Int):c7 H (.int i) (.int i)
 |str(x:Str)(_:x.length<=100)(_:lr x=true):c7 H (.str x) (.str x)
 |lst{a:Addr}{xs:aO}{ds:fW}:H a=some (.lst xs)->xs.length<=100->eC H xs ds->c7 H (.ref a) (.list ds)
 |tup{a:Addr}{xs:aO}{ds:fW}:H a=some (.tup xs)->xs.length<=100->eC H xs ds->c7 H (.ref a) (.tuple ds)
inductive eC(H:af):List ao.V->List PyData->Prop
 |nil:eC H [] []
 |cons{v:ao.V}{d:PyData}{vs:aO}{ds:fW}:c7 H v d->eC H vs ds->eC H (v::vs) (d::ds)
end
mutual
theorem c7.same(au:aB H H'):∀{v:ao.V}{d:PyData},c7 H v d->c7 H' v d
 |_,_,.b3=>.b3
 |_,_,.aV b=>.aV b
 |_,_,.int i=>.int i
 |_,_,.str x z ok=>.str x z ok
 |_,_,.lst h z t=>.lst (au _ _ h) z (eC.same au t)
 |_,_,.tup h z t=>.tup (au _ _ h) z (eC.same au t)
theorem eC.same(au:aB H H'):∀{vs:aO}{ds:fW},eC H vs ds->eC H' vs ds
 |_,_,.nil=>.nil
 |_,_,.cons a b=>.cons (c7.same au a) (eC.same au b)
end
end
mutual
theorem c7.oT{K:aN}:∀{v:ao.V}{d:PyData},c7 H v d->nX K H v d
 |_,_,.b3=>.b3
 |_,_,.aV b=>.aV b
 |_,_,.int i=>.int i
 |_,_,.str x z ok=>.str x
 |_,_,.lst h z t=>.lst (aQ.of h) (eC.oT t)
 |_,_,.tup h z t=>.tup (cV.of h) (eC.oT t)
theorem eC.oT{K:aN}:∀{vs:aO}{ds:fW},eC H vs ds->xe K H vs ds
 |_,_,.nil=>.nil
 |_,_,.cons a b=>.cons (c7.oT a) (eC.oT b)
end
mutual
theorem c7.q4:∀{v:ao.V}{d:PyData},c7 H v d->d.canLay0=true
 |_,_,.b3=>rfl
 |_,_,.aV b=>rfl
 |_,_,.int i=>rfl
 |_,_,.str x z ok=>ok
 |_,_,.lst h z t=>eC.q4 t
 |_,_,.tup h z t=>eC.q4 t
theorem eC.q4:∀{vs:aO}{ds:fW},eC H vs ds->xM ds=true
 |_,_,.nil=>rfl
 |_,_,.cons a b=>by simp only[xM,i'];show#[c7.q4 a,eC.q4 b]
end
mutual
theorem c7.inj:∀{v:ao.V}{d e:PyData},c7 H v d->c7 H v e->d=e
 |_,_,_,.b3,.b3=>rfl
 |_,_,_,.aV b,.aV _=>rfl
 |_,_,_,.int i,.int _=>rfl
 |_,_,_,.str x _ _,.str _ _ _=>rfl
 |_,_,_,.lst h _ t,.lst h' _ t'=>by rw[h]at h';cases h';rw[eC.inj t t']
 |_,_,_,.tup h _ t,.tup h' _ t'=>by rw[h]at h';cases h';rw[eC.inj t t']
 |_,_,_,.lst h _ _,.tup h' _ _=>by rw[h]at h';cases h'
 |_,_,_,.tup h _ _,.lst h' _ _=>by rw[h]at h';cases h'
theorem eC.inj:∀{vs:aO}{ds es:fW},eC H vs ds->eC H vs es->ds=es
 |_,_,_,.nil,.nil=>rfl
 |_,_,_,.cons a b,.cons a' b'=>by rw[c7.inj a a',eC.inj b b']
end
theorem eC.len:∀{vs:aO}{ds:fW},eC H vs ds->vs.length=ds.length
 |_,_,.nil=>rfl
 |_,_,.cons _ b=>by simp[eC.len b]
theorem eC.get:∀{vs:aO}{ds:fW}{i:Nat}{v:ao.V},eC H vs ds->vs[i]?=some v->∃d,ds[i]?=some d/\c7 H v d
 |_,_,_,_,.nil,e=>by simp at e
 |_,_,0,_,.cons a _,e=>by simp at e;subst e;show#[_,rfl,a]
 |_,_,i+1,v,.cons _ b,e=>by obtain⟨d,c,f⟩:=eC.get (i:=i) (v:=v) b (by simpa using e);show#[d,by simpa using c,f]
theorem eC.append:∀{vs d:aO}{ds c:fW},eC H vs ds->eC H d c->eC H (vs++d) (ds++c)
 |_,_,_,_,.nil,h=>h
 |_,_,_,_,.cons a b,h=>.cons a (eC.append b h)
open Classical in
noncomputable def um(H:af)(v:ao.V):PyData:=if h:∃d,c7 H v d then abG h else .none
theorem Gh{d:PyData}(h:c7 H v d):um H v=d:=by
 have q:∃d,c7 H v d:=#[d,h]
 unfold um;rw[dif_pos q];exact c7.inj (MI q) h
theorem ww(f:PyData->Bool):∀{vs:aO}{ds:fW},eC H vs ds->vs.map (λv=>V.aV (f (um H v)))=(ds.map f).map V.aV
 |_,_,.nil=>rfl
 |_,_,.cons a b=>by simp only[jd];rw[Gh a,ww f b]
noncomputable def rS:PyData->String
 |.none=>"NoneType"
 |.bool _=>"bool"
 |.int _=>"int"
 |.str _=>"str"
 |.list _=>"list"
 |.tuple _=>"tuple"
 |.dict _=>"dict"
theorem c7.ty{K:aN}{d:PyData}(h:c7 H v d):oC K H v (.type (rS d)):=by
 cases h with
 |b3=>exact .b3
 |aV b=>exact .aV b
 |int i=>exact .int i
 |str x _ _=>exact .str x
 |lst h _ _=>exact .lst h
 |tup h _ _=>exact .tup h
noncomputable def qw(t c:String):Option Bool:=if(AI t==AI c)=true then some true else if YQ c=true then(fastBuiltinMro t).map (·.contains (.type c))else none
theorem w8(K:aN){t:String}(h:qw t c=some b):ml K (.type t) (.type c)=some b:=h
noncomputable def isStr:PyData->Bool|.str _=>true|_=>false
noncomputable def isList:PyData->Bool|.list _=>true|_=>false
noncomputable def isTup:PyData->Bool|.tuple _=>true|_=>false
noncomputable def isBool:PyData->Bool|.bool _=>true|_=>false
noncomputable def Zb:PyData->Bool|.int _=>true|.bool _=>true|_=>false
theorem aiW(d:PyData):qw (rS d) "str"=some (isStr d):=by cases d<;>(show qw _ _=some _;simp only[rS,isStr];decide+kernel)
theorem Xn(d:PyData):qw (rS d) "list"=some (isList d):=by cases d<;>(show qw _ _=some _;simp only[rS,isList];decide+kernel)
theorem afM(d:PyData):qw (rS d) "tuple"=some (isTup d):=by cases d<;>(show qw _ _=some _;simp only[rS,isTup];decide+kernel)
theorem Xo(d:PyData):qw (rS d) "bool"=some (isBool d):=by cases d<;>(show qw _ _=some _;simp only[rS,isBool];decide+kernel)
theorem aiX(d:PyData):qw (rS d) "int"=some (Zb d):=by cases d<;>(show qw _ _=some _;simp only[rS,Zb];decide+kernel)
noncomputable def xq(c:Nat):Bool:=decide (97<=c)&&decide (c<=122)
noncomputable def o7:PyData->Bool
 |.str x=>decide (1<=x.length)&&decide (x.length<=8)&&x.cps.toList.all xq
 |_=>false
noncomputable def jJ:List PyData->List Str
 |[]=>[]
 |.str x::r=>x::jJ r
 |_::r=>jJ r
noncomputable def wq:PyData->Bool
 |.list ds=>decide (ds.length<=12)&&ds.all o7&&decide (jJ ds).Nodup
 |_=>false
noncomputable def afN:PyData->Bool
 |.int _=>true
 |_=>false
noncomputable def s5(lo a:Int):PyData->Bool
 |.int i=>decide (lo<=i)&&decide (i<=a)
 |_=>false
noncomputable def inD(d:PyData)(ds:fW):Bool:=ds.any λz=>jz z d
noncomputable def iI(c:fW)(a b:PyData):Bool:=inD a c&&inD b c&&!jz a b
noncomputable def rr(c:fW):PyData->Bool
 |.tuple [a,b,t,m]=>iI c a b&&s5 1 9 t&&s5 1 1000000000 m
 |_=>false
noncomputable def LY(a:fW):PyData->Bool
 |.list ds=>decide (ds.length<=40)&&ds.all (rr a)
 |_=>false
end dR
namespace b_
open PySem PySem.Spec PyProof.Rows ao
section
variable{X:bH}{e:Expr}{es:h3}{pos p:Pos}{k:Nat}{f C:Addr}{fd:nY}{ps:cK}{sp:fu}{t:gf}{x:Str}
noncomputable def aiY(sp:fu)(t:gf):Eb:=λE U H Q=>t U H λvs a=>sp vs a Q E
theorem ahS(F:aD X.prog X.w X.K X.mg X.base (fg X.prog X.w) k f fd ps sp)(d:gF k X.A)(l:jb X x)(n:X.mg x=some (.ref f))(b:mj X.K (.ref f)=true)(c:Binds X.K fd ps [])(g:hg X.wI (e::es) t)(o:(x==("__debug__":Str))=false:=by decide)(m:d2 (e::es) X.env=(false,eval e X.env)::d2 es X.env:=by rfl)(fI:(hJ pos (d2 es X.env)).any (·.1)=false:=by rfl):
  N0 X (.Call (.Name x p) (e::es) [] pos) (aiY sp t):=by intro pins s U H Q E I h;refine w9 (s3 I l n ?_ o);refine Ax (h₀:=X.base) I.ok.mod.sY b (SW (X:=X) (pins:=pins) (bU (g pos pins s U H _ (I.nR _) h) λz y⟨vs,w,a,r,q⟩=>#[a.pw.eL,?_])) m fI;exact Xs F d c a.pw r q
end
end b_
namespace dR
open PySem PySem.Spec PyProof.Rows ao b_ cw
structure N3 where
 p:af->ao.V->Prop
 up:∀{H H':af}{v:ao.V},aB H H'->p H v->p H' v
noncomputable def anJ(d:PyData):N3:=#[λH v=>c7 H v d,λa h=>h.same a]
section
variable{X:bH}{e a b:Expr}{es:h3}{pos en:Pos}{zN:List (Option N3)}{A B R:N3}
theorem aiZ{H v i}(h:c7 H v (.int i)):v=.int i:=by cases h;rfl
theorem Ng{H v ds}(h:c7 H v (.list ds)):∃a c,v=.ref a/\H a=some (.lst c)/\c.length<=100/\eC H c ds:=by cases h;show#[_,_,rfl,by assumption,by assumption,by assumption]
theorem Y3{H v ds}(h:c7 H v (.tuple ds)):∃a c,v=.ref a/\H a=some (.tup c)/\c.length<=100/\eC H c ds:=by cases h;show#[_,_,rfl,by assumption,by assumption,by assumption]
end
theorem ahT{b:cK}:∀{a:dx},de (b.map V.str) a->StrsAre a b:=by
 induction b with
 |nil=>intro a r;rw[Iy]at r;cases r;exact .nil
 |cons n ns i=>
  intro a r;rw[jd]at r;cases r with
  |cons j q=>
   obtain⟨t,e⟩:=j;subst e;exact .cons n t (i q)
inductive rJoin(K:aN)(x:ao.V)(xs:aO)(H:af)(Q:a4):Prop where
 |mk(z:_)(a:_)(ys:_)(_:x=.str z)(_:xs=[.ref a])(_:aQ K H a (ys.map V.str))(_:(ys.map (·.length)).sum+ys.length*z.length<=16777216)(_:Q (.str (Txt.join z ys)) H)
theorem XF{X:bH}:DN X "str.join" (rJoin X.K):=by intro b s U H x p v o Q I f rs h;obtain⟨z,a,w,rfl,rfl,d,c,q⟩:=h;obtain⟨t,rfl⟩:=f;obtain⟨u,rfl,g⟩:=vals1 rs;cases g;obtain⟨l,r,m,_⟩:=I.list d;exact join_list m.isList (ahT r) c λn k=>#[.str _,H,I.tok k,#[n,rfl],q]
end dR
namespace b_
open PySem PySem.Spec PyProof.Rows ao Builtin Builtin.Str
theorem V4:∀l:List (Str×Tok),de ((l.map (·.1)).map V.str) (strValues l)
 |[]=>.nil
 | (x,t)::r=>.cons #[t,rfl] (V4 r)
section
variable{X:bH}
noncomputable def ai0:ao.V->List ao.V->af->a4->Prop:=λx a H Q=>∃z y,x=.str z/\a=[.str y]/\(y.length==0)=false/\z.length+2<=sizeLine/\∀p,H p=none->Q (.ref p) (upd H p (.lst ((Eh z y).map V.str)))
theorem afO:DN X "str.split" ai0:=by
 intro c s U H x w v r Q I n rs h;obtain⟨z,y,rfl,rfl,f,o,q⟩:=h;obtain⟨t,rfl⟩:=n;obtain⟨u,rfl,d,rfl⟩:=vals1 rs;have b:∀{l:List (Str×Tok)}{k:Nat},l.map (·.1)=Eh z y->l.length<=sizeLine->iT X c U Q (.ref s.heap.objs.size) {s with heap:=s.heap.push {cls:=.type "list",data:=.seq (strValues l).toArray},toks:=k}:=λ{l k}e m=>by show#[.ref _,_,I.R3 (ys:=(Eh z y).map V.str) (by rw[<-e];exact V4 l) ?_,rfl,q _ I.fresh];rw[bP,<-e,bP];exact m
 have one:∀{a:Str×Tok},[a].length<=sizeLine:=λ{a}=>by show 1<=sizeLine;decide
 cases ah:(decide (z.length<y.length)||decide (strKind z<strKind y))
 .cases i:(occurrences z y 0 z.length (z.length+1)).isEmpty
  .have g:(partsBetween z (occurrences z y 0 z.length (z.length+1)) y.length).length<=sizeLine:=by rw[length_partsBetween];have p:=StrLaws.occ_length_le_len z y 0 z.length (z.length+1);omega
   refine En F.slot_str_split (GK _ _ _) F.entry_str_split (F.args_str_split_2 _ _) (meets_str_split_sep z y t d ah f i (by omega) g) ?_;show wants _ _ _ {s with toks:=_,heap:=s.heap.push {cls:=.type "list",data:=.seq (strsFrom s.toks (partsBetween z (occurrences z y 0 z.length (z.length+1)) y.length)).toArray}};rw[strsFrom_eq];refine b ((arj _ _).trans ((bx (ne_true_of_eq_false ah)).trans (bx (ne_true_of_eq_false i))).symm) ?_;have:=fa sb (arj s.toks (partsBetween z (occurrences z y 0 z.length (z.length+1)) y.length));rw[bP]at this;omega
  exact En F.slot_str_split (GK _ _ _) F.entry_str_split (F.args_str_split_2 _ _) (meets_str_split_not_found z y t d ah f i)
   (b (l:=[(z,t)]) ((bx (ne_true_of_eq_false ah)).trans (bS i)).symm one)
 exact En F.slot_str_split (GK _ _ _) F.entry_str_split (F.args_str_split_2 _ _) (meets_str_split_cannot_occur z y t d ah)
  (b (l:=[(z,t)]) (bS ah).symm one)
theorem adJ:kt X (.type "int") (λb H Q=>∃z n,b=[.str z]/\afJ z=some n/\z.length<=640/\Q (.int n) H):=by intro a s U H b f Q I r h;obtain⟨z,n,rfl,c,d,q⟩:=h;obtain⟨u,rfl,t,rfl⟩:=vals1 r;exact at7 c d #[.int n,H,I.tok _,#[_,rfl],q]
end
end b_
namespace dR
open PySem ao b_ Builtin Builtin.Str StrLaws
noncomputable def d1(y:b7):List b7->List Nat
 |[]=>[]
 |[p]=>p
 |p::r=>p++y++d1 y r
noncomputable def zC(w:Nat):Nat->List b7->List Nat
 |_,[]=>[]
 |_,[_]=>[]
 |a,p::r=>(a+p.length)::zC w (a+p.length+w) r
section
variable{x y:b7}{c:Nat}
theorem LZ{sub:Str}{hi limit:Nat}:∀(l:b7)(st:Array Nat×Nat),(∀i∈l,st.2<=i->i+sub.length<=hi->subAt s sub i=false)->∀r,(forIn (l++r) st (occBody s sub hi limit)).run=(forIn r st (occBody s sub hi limit)).run
 |[],_,_,_=>rfl
 |a::l,st,h,r=>by
  rw[adk,NH];unfold occBody;rw[bx (λz=>by
   have:=h a (.head _) z.1.1.2 z.1.2;rw[this]at z;exact ha z.2)]
  exact LZ l st (λi b=>h i (.tail _ b)) r
theorem ahU{sub:Str}{d b a:Nat}{r:b7}{st:Array Nat×Nat}(f:st.1.size<b)(g:st.2<=a)(h:a+sub.length<=d)(k:subAt s sub a=true):
  (forIn (a::r) st (occBody s sub d b)).run=(forIn r (st.1.push a,a+sub.length) (occBody s sub d b)).run:=by rw[NH];unfold occBody;rw[bS #[#[#[f,g],h],k]];rfl
theorem Vt(x y:b7)(i:Nat):subAt (S x) (S y) i=((x.drop i).take y.length==y):=by rw[subAt_eq];simp[S,Oq]
theorem V5{d:Nat}{y:b7}:∀(m:bt),m≠[]->(∀p∈m,d∉p)->∀(x:b7)(a:Nat)(st:Array Nat×Nat)(limit:Nat),a<=x.length->x.drop a=d1 (d::y) m->st.2<=a->st.1.size+x.length+1-a<=limit->
  (forIn (DC a (x.length+1-a)) st (occBody (S x) (S (d::y)) x.length limit)).run.1.toList=st.1.toList++zC (y.length+1) a m
 |[],h,_,_,_,_,_,_,_,_,_=>bG rfl h
 |[p],_,j,x,a,st,limit,az,e,hs,B=>by
  have K:=LZ (s:=S x) (sub:=S (d::y)) (hi:=x.length) (limit:=limit) (DC a (x.length+1-a)) st (λi b f k=>?_) []
  .rw[sa]at K;rw[K];show st.1.toList=st.1.toList++[];rw[sa]
  rw[d6,gC]at k;rw[X']at b;rw[Vt];refine r4.mpr λz=>?_;have o:=eq_of_beq z;have n:x[i]?=some d:=by have:=fa (λl=>l[0]?) o;simpa using this
  have g:(x.drop a)[i-a]?=some d:=by rw[adt];rw[show a+(i-a)=i by omega];exact n
  rw[e]at g;exact j p (.head _) (fC g)
 |p::q::r,_,j,x,a,st,limit,az,e,hs,B=>by
  have A:x.drop a=p++(d::y)++d1 (d::y) (q::r):=e;have F:x.length-a=p.length+(y.length+1)+(d1 (d::y) (q::r)).length:=by have:=fa sb A;simp only[X7,eM,gC]at this;exact this
  have w:DC a (x.length+1-a)=DC a p.length++(a+p.length)::(DC (a+p.length+1) y.length++DC (a+p.length+(y.length+1)) (x.length+1-(a+p.length+(y.length+1)))):=by
   have u:x.length+1-a=p.length+((y.length+(x.length+1-(a+p.length+(y.length+1))))+1):=by omega
   rw[u,<-adD,List.range'_succ,<-adD];congr 4;omega
  have t:∀i,a<=i->i<a+p.length->x[i]?≠some d:=λi f k z=>by
   have g:(x.drop a)[i-a]?=some d:=by rw[adt];rw[show a+(i-a)=i by omega];exact z
   rw[A,oN,Iu (by omega)]at g;exact j p (.head _) (fC g)
  have L:x.drop (a+p.length)=(d::y)++d1 (d::y) (q::r):=by rw[<-ND,A,oN,NF]
  have N:x.drop (a+p.length+(y.length+1))=d1 (d::y) (q::r):=by rw[<-ND,L];exact NF
  rw[w,LZ _ _ (λi b f k=>?_),ahU (by omega) (by omega) (by rw[d6,gC];omega) ?_,LZ _ _ (λi b f k=>?_)]
  .rw[d6,gC];have V:=V5 (d:=d) (y:=y) (q::r) (by simp) (λE D=>j E (.tail _ D)) x (a+p.length+(y.length+1)) (st.1.push (a+p.length),a+p.length+(y.length+1)) limit (by omega) N (cB _) (by simp;omega);rw[V];show(st.1.push (a+p.length)).toList++_=st.1.toList++(a+p.length)::zC (y.length+1) (a+p.length+(y.length+1)) (q::r);rw[Array.toList_push,oN];rfl
  .-- within C glue
   rw[d6,gC]at f;rw[X']at b;exfalso;have f:a+p.length+(y.length+1)<=i:=f;omega
  .rw[Vt,L];simp
  rw[X']at b;rw[Vt];refine r4.mpr λz=>?_;have o:=eq_of_beq z;have n:x[i]?=some d:=by have:=fa (λl=>l[0]?) o;simpa using this
  exact t i b.1 b.2 n
theorem aaG{d:Nat}{y:b7}:∀(b:bt),b≠[]->∀(x:b7)(a:Nat),a<=x.length->x.drop a=d1 (d::y) b->partsFrom (S x) (y.length+1) a (zC (y.length+1) a b)=b.map S
 |[],h,_,_,_,_=>bG rfl h
 |[p],_,x,a,az,e=>by have e:x.drop a=p:=e;show[strSub (S x) a (S x).length]=[S p];congr 1;apply Oo;apply C0.mp;rw[strSub_toList,d6];show(x.drop a).take (x.length-a)=p;rw[Yd (by simp),e]
 |p::q::r,_,x,a,az,e=>by
  have f:x.drop a=p++(d::y)++d1 (d::y) (q::r):=e;have l:x.length-a=p.length+(y.length+1)+(d1 (d::y) (q::r)).length:=by have:=fa sb f;simp only[X7,eM,gC]at this;exact this
  have g:x.drop (a+p.length+(y.length+1))=d1 (d::y) (q::r):=by
   have k:x.drop (a+p.length)=(d::y)++d1 (d::y) (q::r):=by rw[<-ND,f,oN,NF]
   rw[<-ND,k];exact NF
  show strSub (S x) a (a+p.length)::partsFrom (S x) (y.length+1) (a+p.length+(y.length+1)) (zC (y.length+1) (a+p.length+(y.length+1)) (q::r))=S p::(q::r).map S;rw[aaG (q::r) (by simp) x _ (by omega) g];congr 1;apply Oo;apply C0.mp;rw[strSub_toList];show(x.drop a).take (a+p.length-a)=p;rw[show a+p.length-a=p.length by omega,f,oN];exact List.take_left
theorem ahV{d:Nat}{y:b7}{p q:b7}{r:bt}:y.length+1<=(d1 (d::y) (p::q::r)).length:=by show _<=(p++(d::y)++d1 (d::y) (q::r)).length;rw[eM,eM,gC];omega
theorem Z0{l:b7}(h:∀c∈l,c<256):Str.strKind (S l)=1:=by
 unfold Str.strKind;rw[bS];show l.toArray.all (λc=>decide (c<256))=true;rw[List.all_toArray,r_]
 exactλc a=>cE (h c a)
theorem abT{d:Nat}{y:b7}{a:bt}(f:a≠[])(g:∀p∈a,d∉p)(b:∀c∈d1 (d::y) a,c<256)(l:∀c∈d::y,c<256):Eh (S (d1 (d::y) a)) (S (d::y))=a.map S:=by
 have m:=V5 (d:=d) (y:=y) a f g (d1 (d::y) a) 0 (#[],0) ((d1 (d::y) a).length+1) (e4 _) rfl (cB _) (by simp);have k:=aaG (d:=d) (y:=y) a f (d1 (d::y) a) 0 (e4 _) rfl;have h:occurrences (S (d1 (d::y) a)) (S (d::y)) 0 (S (d1 (d::y) a)).length ((S (d1 (d::y) a)).length+1)=zC (y.length+1) 0 a:=by rw[occ_eq,d6];exact m
 unfold Eh;rw[h,partsBetween_eq,d6,d6];cases a with
 |nil=>exact bG rfl f
 |cons p r=>
  cases r with
  |nil=>
   split
   .rfl
   rfl
  |cons q r=>
   have:=ahV (d:=d) (y:=y) (p:=p) (q:=q) (r:=r);rw[bx,bx]
   .exact k
   .show¬(zC (y.length+1) 0 (p::q::r)).isEmpty=true;exact ha
   rw[Z0 b,Z0 l,gC];simp;omega
theorem Wy(y:b7):∀a:List b7,Txt.join (S y) (a.map S)=S (d1 y a):=by
 have h:∀a:List b7,Str.join (S y) (a.map S)=S (d1 y a):=λa=>by
  induction a with
  |nil=>rfl
  |cons p r e=>
   cases r with
   |nil=>rfl
   |cons q r=>
    show S p++S y++Str.join (S y) ((q::r).map S)=S (p++y++d1 y (q::r));rw[e];apply Oo;apply C0.mp;simp only[Str.cps_append,Array.toList_append]
 exactλa=>(glued_eq_join _ _).trans (h a)
noncomputable def df(m:Nat):List Nat:=(xJ 10 m).map abD
theorem kn(m:Nat):bc (toString ((m:Nat):Int))=S (df m):=by apply Oo;apply C0.mp;exact at9 m
theorem CS{m c:Nat}(h:c∈df m):48<=c/\c<=57:=by obtain⟨a,jl,rfl⟩:=cm.mp h;have:=Nat.isDigit_of_mem_toDigits (b:=10) (by decide) (by decide) jl;unfold Char.isDigit at this;simp only[ge_iff_le,i',decide_eq_true_eq]at this;show#[this.1,this.2]
theorem Ig(m:Nat):df m≠[]:=λe=>by
 have h:=List.map_eq_nil_iff.mp e;by_cases a:m<10
 .rw[Yt a]at h;cases h
 have t:xJ 10 (m/10)++xJ 10 (m%10)=xJ 10 (10*(m/10)+m%10):=aex (by decide) (by omega) (by omega);rw[aep,h]at t;have:=fa sb t;rw[Yt (Nat.mod_lt m (by decide)),eM]at this;simp at this
theorem lF{m:Nat}(h:m<10 ^ 10):(df m).length<=10:=by have:=aua (n:=(m:Int)) (by omega) (by omega);rw[kn,d6]at this;exact this
theorem ahW(m:Nat):∀r,df m=48::r->m=0:=by
 induction m using aev with
 |_ m i=>
  intro r e;by_cases g:m<10
  .have:m=0\/m=1\/m=2\/m=3\/m=4\/m=5\/m=6\/m=7\/m=8\/m=9:=by omega
   unfold df at e;rw[Yt g]at e;rcases this with rfl|rfl|rfl|rfl|rfl|rfl|rfl|rfl|rfl|rfl
   .rfl
   all_goals (simp at e)
   all_goals (exact bG e.1 (by decide))
  have t:xJ 10 (m/10)++xJ 10 (m%10)=xJ 10 (10*(m/10)+m%10):=aex (by decide) (by omega) (by omega);rw[aep]at t;unfold df at e;rw[<-t,eK]at e;have d:=Ig (m/10);have b:df (m/10)++(xJ 10 (m%10)).map abD=48::r:=e;cases hd:df (m/10)with
  |nil=>exact bG hd d
  |cons a s=>
   rw[hd]at b;have f:a=48:=(adj b).1;subst f;have:=i (m/10) (by omega) s hd;omega
theorem ahX:df 0=[48]:=by decide
theorem afP{m:Nat}(h:m<10 ^ 10):afJ (S (df m))=some (m:Int):=by rw[<-kn];exact at8 (by omega) (by omega)
end
end dR
namespace b_
open PySem PySem.Spec PyProof.Rows ao
theorem ai1{K:aN}(h:cV K H1 a xs)(k:∀H',aB H1 H'->cV K H' a xs):pW (Dw K a) H1 xs:=λH' b=>
 #[#[xs,k H' b,cB _],λi c=>#[xs,xs[i],k H' b,by simp[c]],λi x d _ y=>#[y.1,y.2 xs (k H' b)]]
section
variable{X:bH}{e:Expr}{cM:TE}{pos en:Pos}{lo hi:Option Expr}{d_ tn:fN}
theorem K9(a:hA):∀j,Ld (λi=>a.getD i 0) j=(a.take j).sum
 |0=>rfl
 |j+1=>by
  show Ld _ j+a.getD j 0=_;rw[K9 a j,pO,adE];congr 1;rw[ea];cases a[j]? with
  |none=>rfl
  |some x=>show x=x+0;omega
theorem ai2:iX "sum"=some (.builtin "sum"):=by decide+kernel
theorem akY:iX "min"=some (.builtin "min"):=by decide+kernel
theorem afQ(J:X.calm=true):kt X (.builtin "sum") (λE H Q=>∃(p:Addr)(c:hA),E=[.ref p]/\aQ X.K H p (c.map V.int)/\(∀x∈c,0<=x)/\c.sum<2 ^ 63/\Q (.int c.sum) H):=by
 intro D s U H E us Q I r h;obtain⟨p,c,rfl,M,y,hm,q⟩:=h;obtain⟨u,rfl,T⟩:=vals1 r;cases T;obtain⟨d,C,A,aC⟩:=I.list M;have f:c.length=d.length:=by have:=C.length;rwa [bP]at this
 obtain⟨o,n,K,_⟩:=id A;have mH:p≠s.heap.objs.size:=eT (dN K);have P:X.A.in1.handled=none:=I.ok.hd J;have F:∀(l:hA),(∀x∈l,0<=x)->0<=l.sum:=λl=>by
  induction l with
  |nil=>intro _;exact vy _
  |cons a r G=>
   intro h;rw[NO];have:=h a (.head _);have:=G λx m=>h x (.tail _ m);omega
 have g:∀j,0<=(c.take j).sum/\(c.take j).sum<=c.sum:=λj=>by
  have e:c.sum=(c.take j).sum+(c.drop j).sum:=by rw[<-adE,Yc]
  have:=F (c.take j) λx m=>y x (t5 m);have:=F (c.drop j) λx m=>y x (adB m);omega
 refine call_sum_walk (CQ A.isList ?_);show#[s.heap.objs.size,[s.heap.objs.size,p],[s.heap.objs.size],d.toArray.size,_,_,λi=>c.getD i 0,rfl,I1 P _ p mH d.toArray,#[#[_,gG _ rfl,rfl,rfl],A.isList.push _],?_,?_,?_,λh' bC t' k=>?_]
 .intro b t;have R:p<s.heap.objs.size:=dN K;have dG:(s.heap.push ({cls:=.type "list_iterator",data:=.fields (List.toArray [cX p,nO 0])}:Obj)).objs.size=s.heap.objs.size+1:=by simp[Heap.push]
  simp only[dr,e3,or_false]at t;have Z:b<s.heap.objs.size+1:=by
   rcases t with h|h<;>rw[h]
   .exact xI _
   exact vM R
  refine Nat.lt_of_lt_of_eq Z ?_;simp[Heap.push]
 .intro i v Y;have L:d[i]?=some v:=by simpa using Y
  have hi:i<d.length:=(gn.mp L).1;have t:(c.map V.int)[i]?=some (V.int (c.getD i 0)):=by rw[dV,dw (by omega:i<c.length)];simp[ea,f▸hi]
  obtain⟨u',B,O⟩:=C.get t;rw[L]at B;cases B;exact O
 .intro j w;rw[hz,<-f]at w;have t1:=g j;have gP:=g (j+1);have aH:=K9 c j;have N:=K9 c (j+1);have c6:Ld (λi=>c.getD i 0) (j+1)=Ld (λi=>c.getD i 0) j+c.getD j 0:=rfl;have ah:0<=c.getD j 0:=by rw[ea,dw w];exact y _ (m3 w)
  show#[#[?_,?_],?_,?_]
  .show -(2 ^ 63)<=c.getD j 0;omega
  .show c.getD j 0<2 ^ 63;omega
  .rw[N];omega
  rw[N];omega
 have e:Ld (λi=>c.getD i 0) d.toArray.size=c.sum:=by rw[K9,hz,<-f,n4]
 rw[e];show#[.int c.sum,H,I.kept λb ob z=>k b ob (by simpa using eT (dN z)) (d0 _ z),#[_,rfl],q]
noncomputable abbrev tC(n:Nat):List Addr:=[n+4,n+2,n+3,n,n+1]
theorem He{n b:Nat}:b∈tC n↔b=n+4\/b=n+2\/b=n+3\/b=n\/b=n+1:=by simp[tC]
theorem ahY:iX "zip"=some (.type "zip"):=by decide+kernel
end
structure r'(prog:cx)(w:bf)(i l:Addr)(S:Nat->Heap->Prop)(xs:mu):Prop where
 ext:∀{k:Nat}{h h':Heap},S k h->(∀o,h.get? i=some o->h'.get? i=some o)->(∀o,h.get? l=some o->h'.get? l=some o)->S k h'
 lt:∀{k:Nat}{h:Heap},S k h->i<h.objs.size
 item:∀{A:eu}{E:cW}{s:aW}{k:Nat}{x:Value}{Q:cW},S k s.heap->xs[k]?=some x->(∀h',S (k+1) h'->kE i s.heap h'->Q x {s with heap:=h'})->aT (bg prog w) A (vl (.ref i)) Q E s
 stop:∀{A:eu}{E:cW}{s:aW}{k:Nat}{Q:cW},A.handled=none->S k s.heap->xs[k]?=none->(∀h' e,M_ i s.heap h'->(∃o,h'.get? e=some o/\o.cls=.type "StopIteration")->E (.ref e) {s with heap:=h'})->aT (bg prog w) A (vl (.ref i)) Q E s
theorem afR{w:bf}(t:l≠i):r' prog w i l (λk h=>h.IsListIter i l k/\h.IsList l xs) xs where
 ext:=λ⟨a,b⟩g m=>#[a.at λo e=>g o e,let⟨o,e,r⟩:=b;#[o,m o e,r]]
 lt:=λ⟨⟨_,e,_⟩,_⟩=>dN e
 item:=λ⟨a,b⟩c q=>wpAny_nextOf_list_item a b c λp f d=>q p #[f,b.extBut d.extBut t] d
 stop:=λn⟨a,b⟩c q=>wpAny_nextOf_list_end n a b c q
section
variable{prog:cx}{w:bf}
theorem ai3{E:cW}{s:aW}{t:Addr}{i:Nat}{a:mu}{Q:cW}(b:Dt s.heap it t i)(h:vz s.heap t a)(f:a[i]?=some x)(k:∀d,Dt d it t (i+1)->kE it s.heap d->Q x {s with heap:=d}):aT (bg prog w) A (vl (.ref it)) Q E s:=by obtain⟨o,aX,g,c⟩:=id b;obtain⟨ol,l,_,n,m⟩:=h;unfold vl;refine aE (zx (name:=bc "__next__") b.typeIs T9 (pB T9 b.typeIs an4 ?_ (anu _)));change aT _ _ (uv (.ref it) 0 >>=_) _ _ s;refine aE (nS aX c (x:=.ref t) rfl ?_);change aT _ _ (if(cX t==fP)=true then _ else _) _ _ s;rw[bx (λz:(cX t==fP)=true=>ha z)];change aT _ _ (uv (.ref it) 1 >>=_) _ _ s;refine aE (nS aX c (x:=.int i 0) rfl ?_);change aT _ _ (LB (.ref t) >>=_) _ _ s;refine aE (vf l m ?_);simp only[mZ,f];refine aE (L' aX c (by simp) (bW #[x,rfl,bW (k _ #[_,Dn _ aX (aeP (NW c _)),(aeO ..).trans g,?_] (H7 ..))]));rw[NW c];simp[nO]
theorem ahZ{A:eu}{E:cW}{s:aW}{t:Addr}{i:Nat}{b:mu}{Q:cW}(g:A.handled=none)(c:Dt s.heap it t i)(k:vz s.heap t b)(h:b[i]?=none)(l:∀d e,M_ it s.heap d->(∃o,d.get? e=some o/\o.cls=.type "StopIteration")->E (.ref e) {s with heap:=d}):aT (bg prog w) A (vl (.ref it)) Q E s:=by
 obtain⟨o,aX,r,f⟩:=id c;obtain⟨ol,n,_,y,p⟩:=k;unfold vl;refine aE (zx (name:=bc "__next__") c.typeIs T9 (pB T9 c.typeIs an4 ?_ (anu _)));change aT _ _ (uv (.ref it) 0 >>=_) _ _ s;refine aE (nS aX f (x:=.ref t) rfl ?_);change aT _ _ (if(cX t==fP)=true then _ else _) _ _ s;rw[bx (λz:(cX t==fP)=true=>ha z)];change aT _ _ (uv (.ref it) 1 >>=_) _ _ s;refine aE (nS aX f (x:=.int i 0) rfl ?_);change aT _ _ (LB (.ref t) >>=_) _ _ s;refine aE (vf n p ?_);simp only[mZ,h];refine aE (Vb (aE (L' aX f (by simp) ?_)));change aT _ _ (Fx (.type "StopIteration") [] >>=_) _ _ _;refine aE ?_;simp only[Fx,newTuple];refine aE (tA (aE (m:=EB _ _) (G7 (a:=fP) (by first|rfl|(simp only[EB];rfl)) (tA ?_ (by size_fits)))) (by size_fits));simp only[raiseNew];refine aE (aaL ?_)
 first|rw[show A.in1.handled=none from g]|rw[g]
 exact aE (bW (aaS (l _ _ (((H7 ..).extBut.push _).push _) #[_,gG _ rfl,rfl])))
theorem XG{t:Addr}(A:t≠i):r' prog w i t (λk h=>Dt h i t k/\vz h t xs) xs where
 ext:=λ⟨⟨o,e,r⟩,⟨f,l,y⟩⟩m n=>#[#[o,m o e,r],#[f,n f l,y]]
 lt:=λ⟨⟨_,e,_⟩,_⟩=>dN e
 item:=λ⟨a,b⟩c q=>ai3 a b c λz g d=>q z #[g,let⟨o,e,r⟩:=b;#[o,d.extBut _ _ A e,r]] d
 stop:=λp⟨a,b⟩c q=>ahZ p a b c q
variable{A:eu}{E:cW}{s:aW}{z fi fN hn ia dZ dG:Addr}{eF xS:Nat->Heap->Prop}{xs ys:mu}{k1 k2:Nat}{a b:Value}
theorem r'.out{S:Nat->Heap->Prop}{m:mu}{k:Nat}(D:r' prog w i l S m)(st:S k h)(d:kE c h j)(g:i≠c)(f:l≠c):S k j:=D.ext st (λo e=>d.extBut _ _ g e) λo e=>d.extBut _ _ f e
theorem ahs{Q:cW}(Z:OW z fi fN hn ia dZ dG)(h:r' prog w hn dZ eF xs)(g:r' prog w ia dG xS ys)(l:n1 s.heap z fi fN .none)(lB:kd s.heap fi (.ref hn) (.ref ia))(mG:kd s.heap fN a b)(ah:eF k1 s.heap)(aj:xS k2 s.heap)(ar:xs[k1]?=some x)(b6:ys[k2]?=some y)(ef:∀f,n1 f z fi fN (nO s.heap.objs.size)->kd f fN x y->eF (k1+1) f->xS (k2+1) f->kd f s.heap.objs.size x y->(∀c o,c≠z->c≠fN->c≠hn->c≠ia->s.heap.get? c=some o->f.get? c=some o)->Q (.ref s.heap.objs.size) {s with heap:=f}):
  aT (bg prog w) A (Builtin.«zip.__next__» #[[.ref z],[]]) (λC s'=>∃v,C=.done (.ret v)/\Q v s') E s:=by
 change aT _ _ (uv (.ref z) 2 >>=_) _ _ _;refine aE (nS l rfl (x:=.bool false) rfl ?_);change aT _ _ (uv (.ref z) 3 >>=_) _ _ _;refine aE (nS l rfl (x:=.ref fi) rfl (aE (vf lB rfl ?_)));change aT _ _ (MB (.ref z) >>=_) _ _ _;refine aE ?_;unfold MB;refine aE (nS l rfl (x:=.none) rfl (bW ?_));simp only[if_true];refine aE (Vb (aE (nS l rfl (x:=.ref fN) rfl (aE (vg l (by simp) λg1 u t=>aE ?_)))));have u:n1 g1 z fi fN .ellipsis:=u;simp only[adF,adG,NH,adr];refine aE (aE (aaQ ?_));change aT _ _ (vl (.ref hn) >>=_) _ _ _;refine aE (h.item (h.out ah t Z.i1z Z.l1z) ar λg2 cy K=>bW ?_);have O:kd g2 fN a b:=K.extBut _ _ Z.TOi1 (t.extBut _ _ Z.TOz mG);refine aE (vf O rfl (aE (as9 O λg3 H m=>aE (CO (bW ?_)))));have H:kd g3 fN x b:=H;refine aE (aE (aaQ ?_));change aT _ _ (vl (.ref ia) >>=_) _ _ _;refine aE (g.item (g.out (g.out (g.out aj t Z.i2z Z.l2z) K Z.i12.symm Z.l2i1) m Z.TOi2.symm Z.l2TO) b6 λp7 c9 r=>bW ?_);have I:kd p7 fN x b:=r.extBut _ _ Z.TOi2 H;refine aE (vf I rfl (aE (as9 I λd j p=>aE (CO (bW (bW ?_))))));have j:kd d fN x y:=j;refine aE (vf j rfl (aE (aaP ?_)));have T:d.objs.size=s.heap.objs.size:=by rw[p.1,r.1,m.1,K.1,t.1]
 have M:n1 d z fi fN .ellipsis:=p.extBut _ _ Z.TOz.symm (r.extBut _ _ Z.i2z.symm (m.extBut _ _ Z.TOz.symm (K.extBut _ _ Z.i1z.symm u)));have F:∀c o,c≠z->c≠fN->c≠hn->c≠ia->s.heap.get? c=some o->d.get? c=some o:=λc o N V G q e=>p.extBut _ _ V (r.extBut _ _ q (m.extBut _ _ V (K.extBut _ _ G (t.extBut _ _ N e))));have Y:eF (k1+1) d:=h.out (h.out (h.out cy m Z.TOi1.symm Z.l1TO) r Z.i12 Z.l1i2) p Z.TOi1.symm Z.l1TO;have X:xS (k2+1) d:=g.out c9 p Z.TOi2.symm Z.l2TO;have U:z<d.objs.size:=dN M;change aT _ _ (abr (.ref z) (.ref d.objs.size) >>=_) _ _ _;refine aE ?_;unfold abr;have e1:n1 (d.push {cls:=.type "tuple",data:=.seq (List.toArray [x,y])}) z fi fN .ellipsis:=d0 _ M;refine aE (vg e1 (by simp) λB D R=>?_);have D:n1 B z fi fN (nO d.objs.size):=D;refine vg D (by simp) λL i P=>?_;have i:n1 L z fi fN (nO d.objs.size):=i;have k:∀c o,c≠z->d.get? c=some o->L.get? c=some o:=λc o n e=>P.extBut _ _ n (R.extBut _ _ n (d0 _ e));have J:kd L d.objs.size x y:=P.extBut _ _ (vN U) (R.extBut _ _ (vN U) (gG _ rfl));rw[T]at i J;refine bW #[_,rfl,?_];change Q (.ref d.objs.size) _;rw[T];exact ef L i (k _ _ Z.TOz j) (h.ext Y (λo e=>k _ o Z.i1z e) λo e=>k _ o Z.l1z e) (g.ext X (λo e=>k _ o Z.i2z e) λo e=>k _ o Z.l2z e) J λc o N V G q e=>k c o N (F c o N V G q e)
theorem ai4{Q:Fin->aW->Prop}(L:A.handled=none)(Z:OW z fi fN hn ia dZ dG)(n:r' prog w hn dZ eF xs)(d:n1 s.heap z fi fN .none)(u:kd s.heap fi (.ref hn) (.ref ia))(F:kd s.heap fN a b)(y:eF k1 s.heap)(K:xs[k1]?=none)(N:∀h e,(∀c o,c≠z->c≠hn->s.heap.get? c=some o->h.get? c=some o)->(∃o,h.get? e=some o/\o.cls=.type "StopIteration")->E (.ref e) {s with heap:=h}):
  aT (bg prog w) A (Builtin.«zip.__next__» #[[.ref z],[]]) Q E s:=by
 change aT _ _ (uv (.ref z) 2 >>=_) _ _ _;refine aE (nS d rfl (x:=.bool false) rfl ?_);change aT _ _ (uv (.ref z) 3 >>=_) _ _ _;refine aE (nS d rfl (x:=.ref fi) rfl (aE (vf u rfl ?_)));change aT _ _ (MB (.ref z) >>=_) _ _ _;refine aE ?_;unfold MB;refine aE (nS d rfl (x:=.none) rfl (bW ?_));simp only[if_true];refine aE (Vb (aE (nS d rfl (x:=.ref fN) rfl (aE (vg d (by simp) λV g p=>aE ?_)))));have g:n1 V z fi fN .ellipsis:=g;simp only[adF,adG,NH,adr];refine aE (aE (aaQ ?_));change aT _ _ (vl (.ref hn) >>=_) _ _ _;refine aE (n.stop L (n.out y p Z.i1z Z.l1z) K λi e r q=>?_);obtain⟨C,f,t⟩:=q;have k:n1 i z fi fN .ellipsis:=r _ _ Z.i1z.symm g;have D:e≠z:=λx=>by subst x;rw[k]at f;cases f;simp at t
 exact vg k (by simp) λj _ l=>N j e (λc o m B x=>l.extBut _ _ m (r _ _ B (p.extBut _ _ m x))) #[C,l.extBut _ _ D f,t]
theorem aht{Q:Option Value->aW->Prop}(Z:OW z fi fN hn ia dZ dG)(V:r' prog w hn dZ eF xs)(L:r' prog w ia dG xS ys)(g:n1 s.heap z fi fN .none)(i:kd s.heap fi (.ref hn) (.ref ia))(j:kd s.heap fN a b)(n:eF k1 s.heap)(p:xS k2 s.heap)(r:xs[k1]?=some x)(t:ys[k2]?=some y)(K:∀d,n1 d z fi fN (nO s.heap.objs.size)->kd d fN x y->eF (k1+1) d->xS (k2+1) d->kd d s.heap.objs.size x y->(∀c o,c≠z->c≠fN->c≠hn->c≠ia->s.heap.get? c=some o->d.get? c=some o)->Q (some (.ref s.heap.objs.size)) {s with heap:=d}):
  aT (bg prog w) A (kx (.ref z)) Q E s:=by
 have h:s.TypeIs (.ref z) "zip":=#[_,g,rfl]
 unfold kx;exact aE (zw (zx (name:=bc "__next__") h F.slot_zip_next (pB F.slot_zip_next h F.entry_zip_next
   (ahs Z V L g i j n p r t λd l m N e k f=>bW (K d l m N e k f)) (F.args_zip_next_1 _))))
theorem ahu{Q:Option Value->aW->Prop}(n:A.handled=none)(Z:OW z fi fN hn ia dZ dG)(t:r' prog w hn dZ eF xs)(f:n1 s.heap z fi fN .none)(y:kd s.heap fi (.ref hn) (.ref ia))(K:kd s.heap fN a b)(k:eF k1 s.heap)(l:xs[k1]?=none)(p:∀d,(∀c o,c≠z->c≠hn->s.heap.get? c=some o->d.get? c=some o)->Q none {s with heap:=d}):aT (bg prog w) A (kx (.ref z)) Q E s:=by
 have g:s.TypeIs (.ref z) "zip":=#[_,f,rfl]
 unfold kx;refine aE (zw (zx (name:=bc "__next__") g F.slot_zip_next (pB F.slot_zip_next g F.entry_zip_next (ai4 n Z t f y K k l λd e h r=>?_) (F.args_zip_next_1 _))));obtain⟨o,aX,m⟩:=r;exact aE (aaM (T:="StopIteration") (b:=true) #[o,aX,m] ķ (bW (p _ h)))
noncomputable abbrev Hv(t:Addr):Obj:={cls:=.type "tuple_iterator",data:=.fields (List.toArray [.ref t,.int 0 0])}
noncomputable abbrev atx(l:Addr):Obj:={cls:=.type "list_iterator",data:=.fields (List.toArray [.ref l,.int 0 0])}
noncomputable abbrev Hs(h:Heap)(t l:Addr):Heap:=(h.push (Hv t)).push (atx l)
noncomputable abbrev Ht(h:Heap)(t l:Addr):Heap:=(Hs h t l).push {cls:=.type "tuple",data:=.seq (List.toArray [.ref h.objs.size,.ref (h.push (Hv t)).objs.size])}
noncomputable abbrev Hu(h:Heap)(t l:Addr):Heap:=(Ht h t l).push {cls:=.type "tuple",data:=.seq (List.toArray [.none,.none])}
noncomputable abbrev CY(h:Heap)(t l:Addr):Heap:=(Hu h t l).push {cls:=.type "zip",data:=.fields (List.toArray [.none,.bool false,.bool false,.ref (Hs h t l).objs.size,.ref (Ht h t l).objs.size])}
end
theorem ai5(t l:Addr)(m n:mu):
  Meets (Builtin.«zip.__new__» #[[.type "zip",.ref t,.ref l],[]]) (λ_ R s=>vz s.heap t m/\s.heap.IsList l n/\R (.ok (.ret (.ref (Hu s.heap t l).objs.size))) {s with heap:=CY s.heap t l}):=
 .of_wp λk w A R s h=>by
  obtain⟨c,g,d,f,os⟩:=s;obtain⟨o,p,h⟩:=h;have r:=sub_zip;have a:vz (Shared.heap #[c,g,d,f,os]) t m:=o;have b:Heap.IsList (Shared.heap #[c.push (Hv t),g,d,f,os]) l n:=Heap.IsList.push p _
  wp_walk using iter_tuple a,CQ b
  show#[_,rfl,h]
section
variable{prog:cx}{w:bf}{A:eu}{E:cW}{s:aW}
theorem adK{t:Addr}{Q:cW}(K:vz s.heap t xs)(L:s.heap.IsList l i)(h:∀a,n1 a (s.heap.objs.size+4) (s.heap.objs.size+2) (s.heap.objs.size+3) .none->kd a (s.heap.objs.size+2) (.ref s.heap.objs.size) (.ref (s.heap.objs.size+1))->
   kd a (s.heap.objs.size+3) .none .none->Dt a s.heap.objs.size t 0->a.IsListIter (s.heap.objs.size+1) l 0->(∀c o,s.heap.get? c=some o->a.get? c=some o)->Q (.ref (s.heap.objs.size+4)) {s with heap:=a}):
  aT (bg prog w) A (call (.type "zip") [.ref t,.ref l]) Q E s:=by
 refine callType_new F.called_zip (by decide) (F.typeCall_zip_2 _ _) (F.newCall_zip_2 _ _) (λm=>F.args_object_init_3 m _ _) F.entry_zip_new (ai5 t l xs i) #[K,L,?_];have f:(s.heap.push (Hv t)).objs.size=s.heap.objs.size+1:=tW ..;have d:(Hs s.heap t l).objs.size=s.heap.objs.size+2:=by rw[tW,f]
 have g:(Ht s.heap t l).objs.size=s.heap.objs.size+3:=by rw[tW,d]
 have n:(Hu s.heap t l).objs.size=s.heap.objs.size+4:=by rw[tW,g]
 have b:=λ{c:Addr}{o:Obj}(e:(Hu s.heap t l).get? c=some o)=>d0 {cls:=.type "zip",data:=.fields (List.toArray [.none,.bool false,.bool false,.ref (Hs s.heap t l).objs.size,.ref (Ht s.heap t l).objs.size])} e;have k:(CY s.heap t l).get? (Hu s.heap t l).objs.size=some _:=gG _ rfl;have y:(CY s.heap t l).get? (Ht s.heap t l).objs.size=some _:=b (gG _ rfl);have r:(CY s.heap t l).get? (Hs s.heap t l).objs.size=some _:=b (d0 _ (gG _ rfl));have p:(CY s.heap t l).get? (s.heap.push (Hv t)).objs.size=some _:=b (d0 _ (d0 _ (gG _ rfl)));have z:(CY s.heap t l).get? s.heap.objs.size=some _:=b (d0 _ (d0 _ (d0 _ (gG _ rfl))));show _/\_;rw[d,g,n]at k;rw[f,d]at r;rw[g]at y;rw[f]at p;rw[n];show#[#[_,k,rfl],h _ k r y #[_,z,rfl,rfl] #[_,p,rfl,rfl] λc o x=>b (d0 _ (d0 _ (d0 _ (d0 _ x))))]
structure Em(n dZ dG:Nat)(i:Nat)(f0:Value)(h:Heap):Prop where
 aC:n1 h (n+4) (n+2) (n+3) f0
 lB:kd h (n+2) (.ref n) (.ref (n+1))
 mG:∃a b,kd h (n+3) a b
 ah:Dt h n dZ i
 aj:h.IsListIter (n+1) dG i
theorem Em.keep{n d c:Nat}{i:Nat}{h f:Heap}(z:Em n d c i f0 h)(k:∀b∈tC n,∀o,h.get? b=some o->f.get? b=some o):Em n d c i f0 f:=by obtain⟨g,p,⟨a,b,t⟩,l,m⟩:=z;show#[k _ (by simp) _ g,k _ (by simp) _ p,#[a,b,k _ (by simp) _ t],(let⟨o,e,r⟩:=l;#[o,k _ (by simp) o e,r]),m.at λo e=>k _ (by simp) o e]
noncomputable def Du(K:aN)(a b:Nat):gB:=
 #[λi H=>∃c d x y,cV K H a c/\aQ K H b d/\c[i]?=some x/\d[i]?=some y,
 λi H u H'=>∃p x y,H p=none/\u=.ref p/\(∀c,cV K H a c->c[i]?=some x)/\(∀d,aQ K H b d->d[i]?=some y)/\H'=upd H p (.tup [x,y]),
 λi H=>∃c d,cV K H a c/\aQ K H b d/\c.length<=i]
end
theorem adL{w:bf}{K:aN}{k:Nat}(n a b:Nat)(J:a<n)(R:b<n):
  Turn P w K (.Tuple elts k pos) (Du K a b) (tC n) (n+4) (λi h=>Em n a b i .none h)where
 mem:=by simp
 obj:=λi h st d g=>by
  obtain⟨B,L,⟨cq,bj,j⟩,⟨i3,aH,h4,cy⟩,⟨l9,aF,ik,c9⟩⟩:=st;rcases He.mp g with rfl|rfl|rfl|rfl|rfl
  .show#[_,B,λv z=>by
    have F:MS _=C6 v:=z;cases F]
  .show#[_,L,λv z=>by
    have F:Data.seq _=C6 v:=z;cases F]
  .show#[_,j,λv z=>by
    have F:Data.seq _=C6 v:=z;cases F]
  .show#[i3,aH,λv z=>by rw[cy]at z;cases z]
  show#[l9,aF,λv z=>by rw[c9]at z;cases z]
 keep:=λi h h' st cQ=>st.keep cQ
 item:=by
  intro X gw hw fZ f i l s U H E I t st bJ;subst gw hw fZ;obtain⟨xs,u,x,y,Kf,Q,ar,M⟩:=bJ;obtain⟨aqe,Ż,gy,_⟩:=I.tuple Kf;obtain⟨sV,TP,en,_⟩:=I.list Q;obtain⟨zp,Rm,arR⟩:=Ż.get ar;obtain⟨tq,EZ,arS⟩:=TP.get M;obtain⟨B,L,⟨cq,bj,j⟩,O,g2⟩:=id st;refine aht (zipApart_new J R) (XG (eT J)) (afR (eT (vM R))) B L j #[O,gy] #[g2,en.isList] (x:=zp) (y:=tq) (by simpa using Rm) (by simpa using EZ) λah hB fF pX ug iJ aP=>#[_,rfl,?_]
  have pX:=pX.1;have ug:=ug.1;refine wpAny_letOwnedTupleGo_zip (s:={s with heap:=ah}) hB λV Ĵ A=>?_;have A:kE (n+4) ah V:=A;have N:H s.heap.objs.size=none:=I.fresh;have G:∀d o,d∉tC n->s.heap.get? d=some o->V.get? d=some o:=λd o g q=>by have g:=λz=>g (He.mpr z);exact(A.2 d (λz=>g (.inl z))).trans (aP d o (λz=>g (.inl z)) (λz=>g (.inr (.inr (.inl z)))) (λz=>g (.inr (.inr (.inr (.inl z))))) (λz=>g (.inr (.inr (.inr (.inr z))))) q)
  have C:n+4<s.heap.objs.size:=dN B;have EI:V.get? s.heap.objs.size=some {cls:=.type "tuple",data:=.seq (List.toArray [zp,tq])}:=(A.2 _ (vN C)).trans iJ;have Cq:Em n a b (i+1) .none V:=#[Ĵ,(A.2 _ (by show @Ne Nat _ _;omega)).trans (aP _ _ (by show @Ne Nat _ _;omega) (by show @Ne Nat _ _;omega) (by show @Ne Nat _ _;omega) (by show @Ne Nat _ _;omega) L),#[_,_,(A.2 _ (by show @Ne Nat _ _;omega)).trans fF],(let⟨o,e,r⟩:=pX;#[o,(A.2 _ (by show @Ne Nat _ _;omega)).trans e,r]),ug.at λo q=>(A.2 _ (by show @Ne Nat _ _;omega)).trans q]
  have oy:∀d q,H d=some q->d∉tC n:=λd q g z=>by have:=(t d z).1;rw[this]at g;cases g
  show#[.ref s.heap.objs.size,upd H s.heap.objs.size (.tup [x,y]),?_,rfl,#[s.heap.objs.size,x,y,N,rfl,(λu M=>by rw[I.aav M Kf];exact ar),(λHk Rt=>by rw[I.R2 Rt Q];exact M),rfl],Cq,λd g=>?_]
  .show Inv X l U (upd H s.heap.objs.size (.tup [x,y])) {s with heap:=V,gens:=s.gens,drawn:=s.drawn,toks:=s.toks};refine I.step (g':=s.gens) (d':=s.drawn) (t':=s.toks) (h':=V) (ch:=tC n) (λd g=>?_) (λd o _ _ f q _=>G d o f q) (λd o _ _ f q _=>#[o.slots,G d o f q]) (λd o f q nn=>?_)
    (λd o f q=>#[o,G d o f q]) (λd u q=>?_) (λd o v q=>?_) (λd ps q=>#[#[],?_]) (λm hm=>?_) (λd v q=>?_) I.bare
   .obtain⟨f0,f1,f2,cP,f4,fz⟩:=t d g;show#[cP,f1,f4,fz]
   .rw[aJ (eT (dN q))];exact nn
   .rw[aJ (b1 q N)];exact q
   .rw[aJ (b1 q N)];exact q
   .rw[aJ (b1 q N),q];simp
   .obtain⟨o,es,ep,j5,r⟩:=hm;show#[o,es,ep,G _ o (λz=>(t _ z).2.1 rfl) j5,r]
   by_cases aa:d=s.heap.objs.size
   .subst aa;rw[aK]at q;cases q;show#[(by show 2<=sizeLine;decide),[zp,tq],.cons arR (.cons arS .nil),_,EI,rfl,_,rfl]
   rw[aJ aa]at q;refine(I.bo d v q).nP (λc y f z=>G c y ?_ z) (λc z=>by rw[aJ (b1 z N)];exact z) λc u z=>by rw[aJ (b1 z N)];exact z
   rcases f with rfl|f
   .exact oy _ _ q
   exact oy _ _ f
  have dl:d≠s.heap.objs.size:=λz=>by
   have T:d<s.heap.objs.size:=by
    rcases He.mp g with rfl|rfl|rfl|rfl|rfl
    .exact C
    .exact dN L
    .exact dN j
    .obtain⟨_,q,_⟩:=O;exact dN q
    obtain⟨_,q,_⟩:=g2;exact dN q
   exact bG z (eT T)
  rw[aJ dl];exact(t d g).1
 done:=by
  intro X gw hw fZ f i l s U H E I t st bJ;subst gw hw fZ;obtain⟨xs,u,bk,Q,ar⟩:=bJ;obtain⟨its,cJ,p,B⟩:=I.tuple bk;obtain⟨sV,TP,en,_⟩:=I.list Q;have ax:=cJ.length;obtain⟨Z,L,⟨cq,bj,j⟩,O,g2⟩:=id st;refine ahu (I.ok.hd f) (zipApart_new J R) (XG (eT J)) Z L j #[O,p] (by simp;omega) λh' Y=>#[rfl,?_]
  have D:∀c o,c∉tC n->s.heap.get? c=some o->h'.get? c=some o:=λc o f e=>by have f:=λz=>f (He.mpr z);exact Y c o (λz=>f (.inl z)) (λz=>f (.inr (.inr (.inr (.inl z))))) e
  show Inv X l U H {s with heap:=h',gens:=s.gens,drawn:=s.drawn,toks:=s.toks};refine I.step (g':=s.gens) (d':=s.drawn) (t':=s.toks) (h':=h') (ch:=tC n) (λd g=>?_) (λd o _ _ f q _=>D d o f q) (λd o _ _ f q _=>#[o.slots,D d o f q]) (λd o f q nn=>nn)
    (λd o f q=>#[o,D d o f q]) (λd u q=>q) (λd o v q=>q) (λd ps q=>#[#[],?_]) (λm hm=>?_) (λd v q=>?_) I.bare
  .obtain⟨f0,f1,f2,cP,f4,fz⟩:=t d g;show#[cP,f1,f4,fz]
  .rw[q];simp
  .obtain⟨o,es,ep,j5,r⟩:=hm;show#[o,es,ep,D _ o (λz=>(t _ z).2.1 rfl) j5,r]
  refine(I.bo d v q).nP (λc y f z=>D c y (λw=>?_) z) (λc z=>z) λc u z=>z;have:=(t c w).1;rcases f with rfl|f
  .rw[this]at q;cases q
  rw[this]at f;cases f
 self:=λ_ _ _ _ _ st h=>as8 st.aC h
section
variable{X:bH}{elts:h3}{k:Nat}{zk:Pos}
noncomputable def acl(K:aN)(f:gf):fi:=λU H R=>f U H λvs c=>∃a b,vs=[.ref a,.ref b]/\(∃d,cV K c a d)/\(∃d,aQ K c b d)/\R (Du K a b) c
theorem ahv{f:Expr}{n:gf}{p:Pos}(C:jb X "zip")(O:X.mg "zip"=none)(x:hg X [aH,f] n)(M:d2 [aH,f] X.env=(false,eval aH X.env)::d2 [f] X.env:=by rfl)(fI:(hJ pos (d2 [f] X.env)).any (·.1)=false:=by rfl):
  oQ X (.Tuple elts k zk) (.Call (.Name "zip" p) [aH,f] [] pos) (acl X.K n):=by
 intro l s U H R I h;refine Call_ (zq I C O ahY (N8 (bU (x pos l s U H _ I h) λus c V=>?_) M fI));obtain⟨vs,A,g,E,B⟩:=V;obtain⟨a,b,e,⟨xs,K⟩,⟨ys,Q⟩,q⟩:=B;subst e;cases E with
 |cons r i=>
  cases i with
  |cons F i=>
   cases i;cases r;cases F;obtain⟨j,Ż,w,u⟩:=g.tuple K;obtain⟨sV,Y,t,Ĵ⟩:=g.list Q;have L:a<c.heap.objs.size:=by obtain⟨_,e,_⟩:=w;exact dN e
   have N:b<c.heap.objs.size:=by obtain⟨_,e,_⟩:=t.isList;exact dN e
   refine adK w t.isList λZ y G P T m D=>?_;refine as8 y ?_;show#[c.heap.objs.size+4,tC c.heap.objs.size,_,_,A,rfl,g.kept (t':=c.toks) λb o e=>D b o e,adL _ a b L N,#[y,G,#[_,_,P],T,m],λd J=>?_,q];have z:c.heap.objs.size<=d:=by rcases He.mp J with rfl|rfl|rfl|rfl|rfl<;>first|exact cB _|exact NQ _ _
   exact g.sF z (g.bo.fresh z)
end
end b_
namespace dR
open PySem ao b_ cw
noncomputable abbrev L(x:String):Str:=bc x
theorem V9:∀(a b:fW),jJ (a++b)=jJ a++jJ b
 |[],_=>rfl
 |d::a,b=>by cases d<;>simp[jJ,V9 a b]
theorem Vu:∀a:List b7,jJ (bI a)=a.map S
 |[]=>rfl
 |l::a=>by show S l::jJ (bI a)=S l::a.map S;rw[Vu a]
theorem abU{ds:fW}(h:wq (.list ds)=true):ds.length<=12/\(∀d∈ds,o7 d=true)/\(jJ ds).Nodup:=by unfold wq at h;simp only[i',decide_eq_true_eq,r_]at h;show#[h.1.1,h.1.2,h.2]
theorem ai6(a:bt):(bI a).length=a.length:=by simp[bI]
theorem HJ{a:bt}{y:Str}(h:y∉a.map S):inD (.str y) (bI a)=false:=by unfold inD;rw[r4];intro z;obtain⟨v,c,e⟩:=pM.mp z;obtain⟨u,d,rfl⟩:=cm.mp c;have b:(u==y)=true:=e;exact h (eq_of_beq b▸d)
theorem Nh{H:af}:∀{a:bt},(∀x∈a,m7 x)->eC H (cN a) (bI a)
 |[],_=>.nil
 |l::a,h=>.cons (.str (S l) (by rw[d6];have:=(h l (vD ..)).2.1;omega) (LX (h l (vD ..)))) (Nh λx b=>h x (n3 _ b))
theorem C8{H:af}(G:Good hs)(h:H a=some (.lst (cN hs))):c7 H (.ref a) (.list (bI hs)):=.lst h (by rw[o6];have:=G.c3;omega) (Nh G.nm)
theorem akZ{H:af}{a:bt}(G:Good a){d:cw.fD}(ok:d.Ok a.length)(h:H r=some (.tup (gY a d))):c7 H (.ref r) (tc a d):=
 .tup h (by show 4<=100;decide) (.cons (.str _ (by rw[d6];have:=(G.at ok.a).2.1;omega) (LX (G.at ok.a))) (.cons (.str _ (by rw[d6];have:=(G.at ok.b).2.1;omega) (LX (G.at ok.b))) (.cons (.int _) (.cons (.int _) .nil))))
theorem HK{a:bt}(G:Good a):∀{rs:bL}{ds:cC},eE H rs (ds.map (gY a))->(∀d∈ds,d.Ok a.length)->eC H (aS rs) (ds.map (tc a))
 |[],[],_,_=>.nil
 |r::rs,d::ds,.cons h t,ok=>.cons (akZ G (ok d (vD ..)) h) (HK G t λe b=>ok e (n3 _ b))
 |[],d::ds,h,_=>nomatch h
 |r::rs,[],h,_=>nomatch h
end dR
namespace b_
open PySem PySem.Spec PyProof.Rows ao
noncomputable def fL{b:Type}:Sem b->Prop
 |.pure _=>True
 |.raise _=>True
 |.unsupported _=>True
 |.finish _=>True
 |.register _ _=>True
 |.rule _ k=>fL (k ())
 |.at _ k=>fL (k ())
 |.load _ _ k=>∀o,fL (k o)
 |.update _ _ f k=>(∀o,(f o).dict=o.dict)/\fL (k ())
 |.alloc _ k=>∀a,fL (k a)
 |.loadIfAlive _ k=>∀o,fL (k o)
 |.point _ k=>fL (k ())
 |.fresh k=>∀t,fL (k t)
 |.ask k=>∀t,fL (k t)
 |.handled _ k=>∀t,fL (k t)
 |.stack k=>∀t,fL (k t)
 |.thread k=>∀n,fL (k n)
 |_=>False
noncomputable def jM(h a:Heap):Prop:=h.objs.size<=a.objs.size/\∀e,e<h.objs.size->(a.objs[e]?).map (·.dict)=(h.objs[e]?).map (·.dict)
theorem jM.refl(h:Heap):jM h h:=#[cB _,λ_ _=>rfl]
theorem jM.trans(a:jM h ah)(b:jM ah aj):jM h aj:=#[dX a.1 b.1,λe c=>(b.2 e (jx c a.1)).trans (a.2 e c)]
theorem jM.push(h:Heap)(o:Obj):jM h (h.push o):=by
 obtain⟨a,l⟩:=h;show#[?_,λe b=>?_]
 .show a.size<=(a.push o).size;simp
 show((a.push o)[e]?).map _=_;rw[Array.getElem?_push_lt b];simp[b]
theorem jM.update(h:Heap)(a:Addr){f:Obj->Obj}(c:∀o,(f o).dict=o.dict):jM h (h.update a f):=by
 obtain⟨b,l⟩:=h;show#[?_,λe d=>?_]
 .show b.size<=(b.modify a f).size;simp
 show((b.modify a f)[e]?).map _=_;rw[Array.getElem?_modify];split
 .cases b[e]? with
  |none=>rfl
  |some o=>show some (f o).dict=_;rw[c];rfl
 rfl
theorem jM.dict{h d:Heap}(s:jM h d){o c:Obj}(a:h.get? e=some o)(b:d.get? e=some c):c.dict=o.dict:=by have f:=(ach.mp a).1;have g:=(ach.mp b).1;have:=s.2 e (dN a);rw[f,g]at this;exact hI this
theorem ahw{r:Type}{M:n7}{m:PySem.Ctx}{Q:r->Pos->aW->Prop}{E:Value->Pos->aW->Prop}(t:Sem r)(w:fL t)(p:Pos)(s:aW)(h:Sem.wp M m t Q E p s):
  Sem.wp M m t (λa l g=>Q a l g/\jM s.heap g.heap) (λa l g=>E a l g/\jM s.heap g.heap) p s:=by
 have n:∀(t:Sem r),fL t->∀(p:Pos)(s:aW)(b:Heap),jM b s.heap->Sem.wp M m t Q E p s->Sem.wp M m t (λa l g=>Q a l g/\jM b g.heap) (λa l g=>E a l g/\jM b g.heap) p s:=by
  intro t
  induction t with
  |pure a=>exactλ_ p s b d h=>#[h,d]
  |raise e=>exactλ_ p s b d h=>#[h,d]
  |unsupported=>exactλ_ p s b d h=>h
  |finish=>exactλ_ p s b d h=>h
  |register=>exactλ_ p s b d h=>h
  |rule _ k i=>exactλc p s b d h=>i () c p s b d h
  |«at» _ k i=>exactλc p s b d h=>i () c _ s b d h
  |load a _ k i=>exactλc p s b d#[o,e,h]=>#[o,e,i o (c o) p s b d h]
  |update a _ f k i=>exactλc p s b d#[e,h]=>#[e,i () c.2 p _ b (d.trans (jM.update _ _ c.1)) h]
  |alloc o k i=>exactλc p s b d h=>i _ (c _) p _ b (d.trans (jM.push _ _)) h
  |loadIfAlive a k i=>exactλc p s b d h=>i _ (c _) p s b d h
  |point _ k i=>exactλc p s b d h=>i () c p s b d h
  |fresh k i=>exactλc p s b d h=>i _ (c _) p _ b d h
  |ask k i=>exactλc p s b d h=>i _ (c _) p s b d h
  |handled _ k i=>exactλc p s b d h=>i _ (c _) p s b d h
  |stack k i=>exactλc p s b d h=>i _ (c _) p s b d h
  |thread k i=>exactλc p s b d h=>i _ (c _) p s b d h
  |choose=>exactλc=>c.elim
  |os=>exactλc=>c.elim
  |call=>exactλc=>c.elim
  |newGen=>exactλc=>c.elim
  |genState=>exactλc=>c.elim
  |resume=>exactλc=>c.elim
  |yield=>exactλc=>c.elim
  |fork=>exactλc=>c.elim
  |await=>exactλc=>c.elim
 exact n t w p s s.heap (jM.refl _) h
theorem Wz{d:Type}{M:n7}{Q:d->aW->Prop}{E:cW}{t:Sem d}{s:aW}(f:fL t)(h:aT M A t Q E s):aT M A t (λa b=>Q a b/\jM s.heap b.heap) (λa b=>E a b/\jM s.heap b.heap) s:=
 λg p c=>ahw t f p s (h g p c)
theorem iF{b d:Type}{t:Sem b}{f:b->Sem d}(h:fL t)(c:∀a,fL (f a)):fL (t >>=f):=by
 show fL (t.bind f)
 induction t with
 |pure a=>exact c a
 |raise e=>exact h
 |unsupported=>exact h
 |finish=>exact h
 |register=>exact h
 |rule _ k i=>exact i () h
 |«at» _ k i=>exact i () h
 |load a _ k i=>exactλo=>i o (h o)
 |update a _ f k i=>show#[h.1,i () h.2]
 |alloc o k i=>exactλa=>i a (h a)
 |loadIfAlive a k i=>exactλa=>i a (h a)
 |point _ k i=>exact i () h
 |fresh k i=>exactλa=>i a (h a)
 |ask k i=>exactλa=>i a (h a)
 |handled _ k i=>exactλa=>i a (h a)
 |stack k i=>exactλa=>i a (h a)
 |thread k i=>exactλa=>i a (h a)
 |choose=>exact h.elim
 |os=>exact h.elim
 |call=>exact h.elim
 |newGen=>exact h.elim
 |genState=>exact h.elim
 |resume=>exact h.elim
 |yield=>exact h.elim
 |fork=>exact h.elim
 |await=>exact h.elim
theorem lx{b:Type}{a:b}:fL (pure a:Sem b):=trivial
theorem sX{a:Type}:fL (unsupported x:Sem a):=trivial
theorem uQ{d:Type}{c:Prop}[Decidable c]{a b:Sem d}(g:fL a)(f:fL b):fL (if c then a else b):=by split<;>assumption
theorem UY:fL (load a):=λ_=>trivial
theorem atr:fL (fieldsOf v):=by
 unfold fieldsOf;cases v<;>first|exact sX|skip
 refine iF UY λo=>?_;split<;>first|exact lx|exact sX
theorem Lg{i:Nat}:fL (uv v i):=by unfold uv;refine iF atr λo=>?_;split<;>first|exact lx|exact sX
theorem To{i:Nat}:fL (Co v i x):=by
 unfold Co;cases v<;>first|exact sX|skip
 refine iF UY λo=>?_;split
 .refine uQ #[λo=>?_,trivial] sX;obtain⟨c,d,a,b⟩:=o;cases a<;>rfl
 exact sX
theorem ath{f:Option Addr}:fL (setFlight v f):=by unfold setFlight;refine iF Lg λo=>uQ To lx
theorem Uu:fL stack:=λ_=>trivial
theorem ati{ty:String}:fL (newFields ty vs):=by
 have b:fL (newObjAsIs (.type ty) (.fields vs.toArray)):=by unfold newObjAsIs;exact iF (λ_=>trivial) λa=>lx
 unfold newFields newObj;exact uQ (c:=vs.toArray.size>sizeLine+2) (iF sX λ_=>b) b
theorem acx{f:Addr}:fL (ä f b):=by unfold ä;refine iF Uu λo=>?_;split<;>exact lx
theorem abV{a:Env}:fL (anx a outer):=by unfold anx;exact uQ lx (uQ lx (iF Lg λ_=>lx))
theorem adM{a:Env}:fL (keptBack a b l):=by
 unfold keptBack;split
 .refine uQ lx (iF ?_ λ_=>lx);exact iF Uu λ_=>lx
 exact lx
theorem aa2:∀l:List Env,fL (readyFrames l)
 |[]=>trivial
 |env::outer=>by
  unfold readyFrames;split
  .exact iF UY λo=>uQ lx (iF abV λ_=>iF adM λ_=>iF #[λ_=>rfl,trivial] λ_=>aa2 outer)
  exact sX
theorem abH{c:Env}:fL (Y0 c):=by
 unfold Y0 frameEnvs;refine iF (iF Uu λ_=>lx) λl=>iF ?_ λo=>?_
 .generalize List.dropWhile _ l=d;cases d with
  |nil=>exact lx
  |cons a b=>exact iF (aa2 _) λ_=>lx
 split<;>first|exact lx|exact sX
theorem adN{h:Env}:fL (Š e h):=by
 unfold Š;have g:∀(f:Addr)(d:Value),fL (do
   let a <-Y0 h
   let b <-ä f (d !=fP)
   let c <-atN d a fP (nO f) fP b
   Co e 1 c):=λf d=>iF abH λ_=>iF acx λ_=>iF ati λ_=>To
 split
 .exact iF Lg λd=>uQ (iF Lg λ_=>uQ lx (iF To λ_=>g _ _)) (g _ _)
 exact sX
theorem aaz{a:Env}:fL (leaving a e):=iF adN λ_=>ath
noncomputable def HL(a c:z2)(d:mr)(C:Addr)(b:String):Bool:=
 (a.mro==cX C::c.mro)&&!a.hasDel&&(match d.toList with|[_,_,_,_,some (.builtin n),_]=>n==b|_=>false)
theorem afS{K:aN}{mg:cb}{h:Heap}{B:Option Addr}{d f:z2}{D:mr}(X:K.In h)(O:Exc K mg y R bm e)(yO:K.lookup C=some #[.type "type",mD,.cls d,u])(F:K.lookup R=some #[.type "type",B,.cls f,D])(g:HL d f u C e=true):
  ∃j q N o c s sub m a z A L V i,h.get? C=some (A3 j q C N o c d.hasDict s sub m a mD z A L V i e)/\Au h bm c:=by
 obtain⟨c,Yw,j,q,o,r,s,sub,m,a,dd,z,A,L,V,i,mN,p,gv,x,T⟩:=(O.own X).obj;have E:=X _ _ F;have H:=E.symm.trans p;have G:=hI H;have hm:f.mro=cX R::c:=by have k:(Data.cls f)=_:=fa Obj.data G;injection k with k;rw[k]
 unfold HL at g;simp only[i',qS,Wg]at g;obtain⟨⟨l,w⟩,b⟩:=g;split at b
 .rename_i axw axx axy axz n axB t;have b:=qS.mp b;subst b;obtain⟨Q,P,axP,axX,U,Be,Y,Z,J,M,avH⟩:=d;dsimp only at l w;rw[hm]at l;subst l w;obtain⟨I⟩:=u;simp only at t;subst t;show#[_,_,_,_,_,_,_,_,_,_,_,_,_,_,X _ _ yO,.own p gv x T]
 cases b
section
variable{prog:cx}{w:bf}{A:eu}{E:cW}{s:aW}{K:aN}
variable{nm q:Str}{C N oV:Addr}{bs bm d_:dx}{hd:Bool}{sn:cK}{sub:dx}{ab:Bool}{col:Option Bool}{mD:Option Addr}{k0 k1 k2 k3 k5:AH}{B g9 sU:String}
theorem adO(F:vo B g9 sU bm){a:dx}{Q:cW}(T:Au s.heap bm d_)(X:K.In s.heap)(c:s.heap.get? C=some (A3 nm q C N bs d_ hd sn sub ab col mD k0 k1 k2 k3 k5 g9))(D:cD K (.ref C) "__init__"=some (some (.ref oV)))(j:Az K (.ref oV)=some (.type "function"))(G:a.length<=sizeLine)(u:∀p e,s.heap.objs.size<=e->W3 s.heap p e (.ref C) a->aT (bg prog w) (A.under (.builtin "type.__call__" #[.ref C::a,[]])) (call (.ref oV) (.ref e::a)) (λr y=>r=.none/\Q (.ref e) y) E {s with heap:=p}):
  aT (bg prog w) A (call (.ref C) a) Q E s:=by
 obtain⟨h,g,d,t,os⟩:=s;have I:=tc_lookup;have J:=tc_bind (.ref C);have M:(#[h,g,d,t,os]:aW).TypeIs (.ref C) "type":=#[_,c,rfl]
 refine rV (anE (show aT _ _ (callAny (.ref C) _) _ _ _ from ?_))
 repeat (any_goals (first|assumption|with_reducible refine lT c ?_|wp_step))
 show#[rfl,codeAny_call_builtin_at (MJ _ (by decide+kernel)) entry_typeCall (wpAny_check_type_call_sub c ?_)]
 repeat (first|with_reducible refine wpAny_madeBy_exc c ?_|with_reducible refine lT c ?_|wp_step)
 refine codeAny_call_builtin_code (MJ _ F.quiet) (wpAny_check_new_subT F T c (codeAny_exc_new_subT F T c (show aT _ _ _ _ _ _ from ?_) G));have f:((h.push {cls:=.type "tuple",data:=.seq a.toArray}).push {cls:=.ref C,data:=.fields (List.toArray [.ref h.objs.size,.none,.none,.none,.bool false,.none])}).get? (h.objs.size+1)=some {cls:=.ref C,data:=.fields (List.toArray [.ref h.objs.size,.none,.none,.none,.bool false,.none])}:=by heap_get
 have mk:W3 h ((h.push {cls:=.type "tuple",data:=.seq a.toArray}).push {cls:=.ref C,data:=.fields (List.toArray [.ref h.objs.size,.none,.none,.none,.bool false,.none])}) (h.objs.size+1) (.ref C) a:=
  #[λb o V=>d0 _ (d0 _ V),W4 (vL _),h.objs.size,f,W4 (cB _),d0 _ (acg rfl rfl)]
 have n:=u _ _ (vL _) mk;have k:=X.keeps mk.keeps;have l:=mk.keeps _ _ c;have m:(cX C::d_).contains (.ref C)=true:=by simp
 show aT _ _ _ _ _ #[(h.push {cls:=.type "tuple",data:=.seq a.toArray}).push {cls:=.ref C,data:=.fields (List.toArray [.ref h.objs.size,.none,.none,.none,.bool false,.none])},g,d,t,os];dsimp only;generalize(h.push {cls:=.type "tuple",data:=.seq a.toArray}).push {cls:=.ref C,data:=.fields (List.toArray [.ref h.objs.size,.none,.none,.none,.bool false,.none])}=H at f mk n k l⊢;generalize h.objs.size=L at f mk n l⊢;unfold E5
 repeat (first|with_reducible refine lT f ?_|(with_reducible refine Va l ?_;rw[m])|wp_step)
 refine(ub k D).here ?_;refine oH (aE ((afv k _ j).here ?_));show aT _ _ (call (.ref oV) (.ref (L+1)::a) >>=λr=>pure (some r)) _ _ _;refine aE (ih n (λr y i=>?_) λ_ _ z=>z);obtain⟨rfl,x⟩:=i
 wp_walk
 exact x
theorem aey(F:vo B g9 sU bm){R:vR->aW->Prop}{e:Addr}{m:Option Addr}{l:mr}{a:dx}(T:Au s.heap bm d_)(y:s.heap.get? C=some (A3 nm q C N bs d_ hd sn sub ab col mD k0 k1 k2 k3 k5 g9))(k:s.heap.get? e=some #[.ref C,m,.fields (List.toArray [.ref t0,.none,.none,.none,.bool false,.none]),l])(z:a.length<=sizeLine)(r:∀f t,(∀b o,b≠e->s.heap.get? b=some o->f.get? b=some o)->f.get? e=some #[.ref C,m,.fields (List.toArray [.ref t,.none,.none,.none,.bool false,.none]),l]->R (.ok (.ret .none)) {s with heap:=f}):
  ni (bg prog w) A (.call (.builtin sU) #[.ref e::a,[]]) R s:=by
 obtain⟨h,g,d,t,os⟩:=s;refine AV F.init.plain F.initEntry (wpAny_check_init_subT F T y k rfl ?_);dsimp only at k⊢
 wp_walk
 have c:(h.push {cls:=.type "tuple",data:=.seq a.toArray}).get? e=_:=d0 _ k;refine r _ h.objs.size (λb o p n=>?_) ?_
 .show((h.push _).update e _).get? b=some o;rw[vw _ _ (dY p)];exact d0 _ n
 show((h.push _).update e _).get? e=_;rw[Dn _ c rfl];rfl
theorem aaF(T:Au h bm d_)(self:Value)(a:Str):TN self a d_=TN self a bm:=by
 induction T with
 |base=>rfl
 |own _ _ _ _ e=>rw[Ź,e]
theorem XH{M:n7}{mA:cb}{name:Str}{ns:cK}{Q:Fin->aW->Prop}(h:s.heap.Ns1 d mA)(p:AA mA ns)(t:ns.length<=1000)(n:∀a r,a.Ns1 d (λy=>if y=name then some v else mA y)->kE d s.heap a->Q (.done (.ret .none)) {s with heap:=a,toks:=r}):
  aT M A (abq d (.str name bC) name v) Q E s:=by unfold abq atJ;refine aE (bW (aE (wpAny_nsSet1 h λa b o=>?_)));obtain⟨m,l,k,g,f,c⟩:=b.count (YY name v p);refine aE (as3 g (by rw[f];exact arz (dX c (by rw[gC,u3];omega))) ?_);exact bW (n _ _ b o)
theorem ahx{name:Str}{L:mr}{Q:Unit->aW->Prop}(X:K.In s.heap)(c:StoreFacts B bm lb owner)(T:Au s.heap bm d_)(k:s.heap.get? C=some (A3 nm q C N bs d_ hd sn sub ab col mD k0 k1 k2 k3 k5 g9))(R:cD K (.ref C) "__setattr__"=some (some (.builtin lb)))(I:cD K (.ref C) name=some none)(aX:oR K (.ref C) (.type owner)=some true)(a:s.heap.get? x=some #[.ref C,none,.fields vs,L])(G:hd=true)(M:∀f V,f.get? x=some #[.ref C,some s.heap.objs.size,.fields vs,L]->f.Ns1 s.heap.objs.size (λy=>if y=name then some v else none)->(∀b o,b≠x->s.heap.get? b=some o->f.get? b=some o)->Q () {s with heap:=f,toks:=V}):
  aT (bg prog w) A (Gy (.ref x) name v) Q E s:=by
 obtain⟨h,g,d,t,os⟩:=s;dsimp only at X T k a;have ty:pS (bg prog w) h (typeOf (.ref x)) (.ref C):=(Oa a).andThen .now;have Y:pS (bg prog w) h (E5 (.ref x) (.type owner)) true:=ty.andThen (afE X aX);unfold Gy callSpecial? specialOf;have O:=c.slot.bind (.ref x)
 repeat (any_goals (first|assumption|with_reducible refine lT a ?_|wp_step))
 refine(ub X R).here (oH (aE (G7 O (aE (rV (AV c.slot.plain c.entry (YL c.kind c.split Y (c.args _ _ _) ?_)))))));have m:=c.passes (.ref x);have Z:TN (.ref x) "__setattr__" d_=pure ():=(aaF T _ _).trans m;unfold Builtin.«object.__setattr__»
 repeat (first|rw[refuse_eq]|(rw[Ź,Z])|with_reducible refine lT a ?_|with_reducible refine as4 k ?_|wp_step)
 refine(ub X I).here (aE (bW ?_));show aT _ _ (MA _ _ _ _ _ _) _ _ _;unfold MA;refine aE (ih (Q:=λ_ i=>i=#[h,g,d,t+1,os]) (E:=λ_ _=>False) ?_ (λ_ _ l=>?_) (λ_ _ z=>z.elim))
 .repeat (first|with_reducible refine lT a ?_|with_reducible refine lT k ?_|wp_step)
  exact rfl
 subst l;have D:x≠h.objs.size:=eT (dN a);have F:(h.push {cls:=.type "dict",data:=.dict #[]}).get? x=_:=d0 _ a;refine aE (ih (Q:=λr i=>r=some h.objs.size/\i=#[(h.push {cls:=.type "dict",data:=.dict #[]}).update x λo=>{o with dict:=some h.objs.size},g,d,t+1,os]) (E:=λ_ _=>False) ?_ (λ_ _ l=>?_) (λ_ _ z=>z.elim))
 .show aT _ _ (Rz x true) _ _ _;subst G;unfold Rz
  repeat (first|with_reducible refine lT a ?_|with_reducible refine lT k ?_|wp_step)
  show#[rfl,rfl]
 obtain⟨rfl,rfl⟩:=l;have n:((h.push {cls:=.type "dict",data:=.dict #[]}).update x λo=>{o with dict:=some h.objs.size}).get? x=some #[.ref C,some h.objs.size,.fields vs,L]:=by rw[Dn _ F rfl]
 have H:((h.push {cls:=.type "dict",data:=.dict #[]}).update x λo=>{o with dict:=some h.objs.size}).get? h.objs.size=some {cls:=.type "dict",data:=.dict #[]}:=
  (vw _ _ D).trans (acg rfl rfl)
 have p:((h.push {cls:=.type "dict",data:=.dict #[]}).update x λo=>{o with dict:=some h.objs.size}).Ns h.objs.size (λ_=>none):=#[_,#[],_,H,rfl,λe P=>bG P (by simp),λ_=>rfl]
 refine XH (mA:=λ_=>none) (ns:=[]) (ace p) afI (by decide) λf V U u=>?_;refine bW (bW (M f V ?_ U λb o J j=>?_))
 .exact(u.2 x D).trans n
 refine(u.2 b (eT (dN j))).trans ((vw _ _ (dY J)).trans (d0 _ j))
theorem afT{name:Str}{i:mr}{l:cb}{p:cK}{Q:Unit->aW->Prop}(X:K.In s.heap)(a:StoreFacts B bm lb owner)(T:Au s.heap bm d_)(f:s.heap.get? C=some (A3 nm q C N bs d_ hd sn sub ab col mD k0 k1 k2 k3 k5 g9))(F:cD K (.ref C) "__setattr__"=some (some (.builtin lb)))(e:cD K (.ref C) name=some none)(aX:oR K (.ref C) (.type owner)=some true)(b:s.heap.get? x=some #[.ref C,some ag,.fields vs,i])(L:hd=true)(o:s.heap.Ns1 ag l)(G:AA l p)(V:p.length<=1000)(j:∀c m,c.Ns1 ag (λy=>if y=name then some v else l y)->kE ag s.heap c->Q () {s with heap:=c,toks:=m}):
  aT (bg prog w) A (Gy (.ref x) name v) Q E s:=by
 obtain⟨h,g,d,t,os⟩:=s;dsimp only at X T f b o;have ty:pS (bg prog w) h (typeOf (.ref x)) (.ref C):=(Oa b).andThen .now;have I:pS (bg prog w) h (E5 (.ref x) (.type owner)) true:=ty.andThen (afE X aX);unfold Gy callSpecial? specialOf;have D:=a.slot.bind (.ref x)
 repeat (any_goals (first|assumption|with_reducible refine lT b ?_|wp_step))
 refine(ub X F).here (oH (aE (G7 D (aE (rV (AV a.slot.plain a.entry (YL a.kind a.split I (a.args _ _ _) ?_)))))));have J:TN (.ref x) "__setattr__" d_=pure ():=(aaF T _ _).trans (a.passes (.ref x));unfold Builtin.«object.__setattr__»
 repeat (first|rw[refuse_eq]|(rw[Ź,J])|with_reducible refine lT b ?_|with_reducible refine as4 f ?_|wp_step)
 refine(ub X e).here (aE (bW ?_));show aT _ _ (MA _ _ _ _ _ _) _ _ _;unfold MA;refine aE (ih (Q:=λ_ n=>n=#[h,g,d,t+1,os]) (E:=λ_ _=>False) ?_ (λ_ _ k=>?_) (λ_ _ z=>z.elim))
 .repeat (first|with_reducible refine lT b ?_|with_reducible refine lT f ?_|wp_step)
  exact rfl
 subst k;refine aE (ih (Q:=λr n=>r=some ag/\n=#[h,g,d,t+1,os]) (E:=λ_ _=>False) ?_ (λ_ _ k=>?_) (λ_ _ z=>z.elim))
 .show aT _ _ (Rz x true) _ _ _;subst L;unfold Rz
  repeat (first|with_reducible refine lT b ?_|with_reducible refine lT f ?_|wp_step)
  show#[rfl,rfl]
 obtain⟨rfl,rfl⟩:=k;refine XH o G V λc m H u=>?_;exact bW (bW (j c m H u))
end
noncomputable def nw(e C:Addr):gQ:=.ext λh=>∃t a,h.get? e=some #[.ref C,none,.fields (List.toArray [.ref t,.none,.none,.none,.bool false,.none]),a]
noncomputable def nv(e C a:Addr):gQ:=.ext λh=>∃t b,h.get? e=some #[.ref C,some a,.fields (List.toArray [.ref t,.none,.none,.none,.bool false,.none]),b]
noncomputable def oI(d:Addr)(a:List (Str×V)):gQ:=.ext λh=>a.length<=100/\∃b,h.Ns1 d b/\(∀f,jP (a.lookup f) (b f))/\AA b (a.map (·.1))
section
variable{P:cx}{w:bf}{H:af}{h:Heap}{e C ag d:Addr}
theorem Y4{t:Addr}{a:mr}(q:h.get? e=some #[.ref C,none,.fields (List.toArray [.ref t,.none,.none,.none,.bool false,.none]),a]):fk P w H h e (nw e C):=
 #[#[t,a,q],#[_,q],λ_ _⟨t,a,z⟩k=>#[t,a,k _ z]]
theorem ai7{t:Addr}{a:mr}(q:h.get? e=some #[.ref C,some ag,.fields (List.toArray [.ref t,.none,.none,.none,.bool false,.none]),a]):fk P w H h e (nv e C ag):=
 #[#[t,a,q],#[_,q],λ_ _⟨t,a,z⟩k=>#[t,a,k _ z]]
theorem Y5{fs:List (Str×V)}{a:cb}(z:fs.length<=100)(n:h.Ns1 d a)(r:∀f,jP (fs.lookup f) (a f))(b:AA a (fs.map (·.1))):fk P w H h d (oI d fs):=by
 obtain⟨o,q⟩:∃o,h.get? d=some o:=by obtain⟨o,_,_,q,_⟩:=n.ns;show#[o,q]
 show#[#[z,a,n,r,b],#[o,q],λ_ _⟨z,a,n,r,b⟩k=>#[z,a,n.at k,r,b]]
end
section
variable{X:bH}{pins:ee}{U:ao.St}{H:af}{s:aW}
theorem Inv.put2{l:Heap}{x:Nat}{d:Addr}{L:Heap->Prop}(I:Inv X pins U H s)(A:H e=some (.ext L))(y:s.heap.objs.size<=d)(k:∀b o,b≠e->s.heap.get? b=some o->l.get? b=some o)(p:∃o,l.get? e=some o)(j:fk X.prog X.w (upd (upd H d dj) e i) l e i)(V:fk X.prog X.w (upd (upd H d dj) e i) l d dj):Inv X pins U (upd (upd H d dj) e i) {s with heap:=l,toks:=x}:=by
 have t:H d=none:=I.bo.fresh y;have N:∀o,s.heap.get? d≠some o:=λo z=>t7 _ (jx (dN z) y);have m:∀b,H b=none->b≠e:=λb n z=>by rw[z,A]at n;cases n
 have a:∀{b:Addr}{u:gQ},H b=some u->b≠e->upd (upd H d dj) e i b=some u:=λ{b u}q n=>by rw[aJ n,aJ (b1 q t)];exact q
 have h:∀{b:Addr}{u:gQ},H b=some u->(∀f,u≠.ext f)->b≠e:=λ{b u}q n z=>by subst z;rw[A]at q;exact n L (hI q).symm
 refine I.un #[λb o q n _ _=>k b o (m b n) q,λb o q n _ _=>#[o.slots,k b o (m b n) q],λb o q n _=>?_,λb o q _=>?_,λb B q=>a q (h q (by intro f z;cases z)),λb o u q=>a q (h q (by intro f z;cases z)),λb C q=>#[#[],by rw[a q (h q (by intro f z;cases z))];simp]] λb u q=>?_
 .rw[aJ (m b n),aJ (show b≠d fromλz=>N o (by rw[<-z];exact q))];exact n
 .by_cases g:b=e
  .subst g;exact p
  show#[o,k b o g q]
 by_cases g:b=e
 .subst g;rw[aK]at q;cases q;exact j
 rw[aJ g]at q;by_cases K:b=d
 .subst K;rw[aK]at q;cases q;exact V
 rw[aJ K]at q;refine(I.bo b u q).nP (λc v w r=>k c v ?_ r) (λc r=>a r (h r (by intro f z;cases z))) λc B r=>a r (h r (by intro f z;cases z));rcases w with rfl|w
 .exact g
 exact h w (by intro f z;cases z)
theorem aiO{H:af}(h:H a=some o):upd H a o=H:=by
 funext b;by_cases c:b=a
 .subst c;rw[aK,h]
 rw[aJ c]
structure qN(K:aN)(mg:cb)(y:Str)(C R:Addr):Prop where
 base:Exc K mg y R [.type "ValueError",.type "Exception",.type "BaseException",.type "object"] "ValueError.__new__"
 lk:∃mD pZ te JB sv Lx,K.lookup C=some #[.type "type",mD,.cls pZ,te]/\K.lookup R=some #[.type "type",JB,.cls sv,Lx]/\HL pZ sv te C "ValueError.__new__"=true/\pZ.hasDict=true
 lb:cD K (.ref C) "__setattr__"=some (some (.builtin "object.__setattr__"))
 ob:oR K (.ref C) (.type "object")=some true
 a_:YW K R (.type "type")=true
 PT:YM K (.ref R) (.type "type") "__init__"=some (.val (.builtin "ValueError.__init__"))
 T5:uc K (.ref R) "__getattribute__"=some (some (.builtin "type.__getattribute__"))
 hS:px K C
 hd:IK K C=true
end
theorem qN.obj{K:aN}{A:cb}{h:Heap}(x:qN K A y C R)(X:K.In h):
  ∃o q N d b p sub c a n f g k l m,h.get? C=some (A3 o q C N d b true p sub c a n f g k l m "ValueError.__new__")/\Au h [.type "ValueError",.type "Exception",.type "BaseException",.type "object"] b:=by obtain⟨n,i,s,V,j,e,L,w,t,z⟩:=x.lk;obtain⟨o,q,N,d,b,p,sub,c,a,f,g,k,l,m,r,T⟩:=afS X x.base L w t;rw[z]at r;show#[o,q,N,d,b,p,sub,c,a,n,f,g,k,l,m,r,T]
section
variable{X:bH}{o e value:Expr}{es:h3}{f y:Str}{pos pos' gr np:Pos}{cq lS:TE}{t:gf}{R:Addr}
noncomputable def asn(K:aN)(c:cb)(y:Str)(R:Addr)(t:gf):TE:=λU H Q=>t U H λvs b=>∃e C a,vs=.ref e::a/\b e=some (nw e C)/\qN K c y C R/\a.length<=sizeLine/\Q .b3 b
theorem afU{pl:Sem Bool}(V:jb X y)(J:X.mg y=some (.ref R))(A:YW X.K R (.type "type")=true)(w:YM X.K (.ref R) (.type "type") "__init__"=some (.val (.builtin "ValueError.__init__")))(z:uc X.K (.ref R) "__getattribute__"=some (some (.builtin "type.__getattribute__")))(L:hg X (e::es) t)(M:(y==("__debug__":Str))=false:=by decide)(P:d2 (e::es) X.env=(false,eval e X.env)::d2 es X.env:=by rfl)(fI:(hJ pos (d2 es X.env)).any (·.1)=false:=by rfl)(D:eval (.Call (.Attribute (.Name y np) "__init__" gr) (e::es) [] pos) X.env=(do
   let m <-eval (.Name y np) X.env
   wZ gr.atName
   let(f,first) <-uK [m] (A9 m "__init__" pl)
   AR pos f first (hJ pos (d2 (e::es) X.env)) (n' pos (ox [] X.env))):=by rfl):
  bA X (.Call (.Attribute (.Name y np) "__init__" gr) (e::es) [] pos) (asn X.K X.mg y R t):=by
 intro c s U H Q I h;refine IL (pl:=pl) (s3 I V J ?_ M) D;refine PySem.W.method_cls I.eL z (PySem.W.cls_value I.eL A w (by decide+kernel) ?_);refine afe (bU (L pos c _ U H _ (I.tok _) h) λus p d=>?_) P fI;obtain⟨vs,k,g,j,a,C,n,F,hex,O,d,q⟩:=d;subst F;cases j with
 |cons Y Z=>
  cases Y;obtain⟨⟨t0,bM,G⟩,_,_⟩:=(show fk X.prog X.w k p.heap a (nw a C)from g.bo a _ hex)
  obtain⟨nm,hW,N,bs,d_,sn,sub,ab,B,mD,k0,k1,k2,k3,k5,E,T⟩:=O.obj g.eL;refine rV (aey xN T E G (by rw[<-Z.length];exact d) λh' t1 i r=>?_);have l:=g.write (t':=p.toks) (x:=a) (e:=a) (o:=nw a C) (by rw[hex];exact trivial) (.inl rfl) (λb u K q=>i b u K q) #[_,r] (Y4 r);rw[aiO hex]at l;show#[.b3,k,l,rfl,q]
noncomputable def ak0(K:aN)(g:cb)(y:Str)(R:Addr)(h lS:TE)(f:Str):fO:=λD U H=>lS U H λv d=>h U d λx b=>∃e C,x=.ref e/\qN K g y C R/\cD K (.ref C) f=some none/\
 ((b e=some (nw e C)/\∀a,b a=none->a≠e->D.di U (upd (upd b a (oI a [(f,v)])) e (nv e C a)))\/
 ∃a c,b e=some (nv e C a)/\b a=some (oI a c)/\c.length<100/\D.di U (upd b a (oI a (k' f v c))))
theorem ahy(P:bA X o cq)(Y:bA X value lS)(hs:Cr value (some (.Attribute o f pos')) pos.line X.env=pure false):h2 X (.Assign [.Attribute o f pos'] value pos) (ak0 X.K X.mg y R cq lS f):=by
 intro c s U H D I h;refine arC (bU (Y c s U H _ I h) λu s1⟨v,G,J,i,q⟩=>bU (P c s1 U G _ J q) λho r L=>?_) hs;obtain⟨x,A,a,Z,e,C,ex,m,V,l⟩:=L;subst ex;obtain rfl:ho=cX e:=Z;obtain⟨nm,hW,N,bs,d_,sn,sub,ab,col,mD,k0,k1,k2,k3,k5,j,T⟩:=m.obj a.eL;rcases l with⟨p,l⟩|⟨ag,fs,p,E,L,l⟩
 .obtain⟨⟨t0,Q,w⟩,_,_⟩:=(show fk X.prog X.w A r.heap e (nw e C)from a.bo e _ p)
  refine ahx a.eL afp T j m.lb V m.ob w rfl λh' rR B n cQ=>?_;have wD:r.heap.objs.size≠e:=vN (dN w);show#[U,_,Inv.put2 a p (cB _) cQ #[_,B] (ai7 B) (Y5 (fs:=[(f,v)]) (show 1<=100 by decide) n (λg=>?_) ?_),l _ (a.bo.fresh (cB _)) wD]
  .by_cases k:g=f
   .subst k;have d:(g==g)=true:=qS.mpr rfl;simp only[vC,d,bS];exact i
   have d:(g==f)=false:=AO.mpr k;simp only[vC,d,bx k];exact trivial
  exact YY f u afI
 obtain⟨⟨t0,Q,w⟩,_,_⟩:=(show fk X.prog X.w A r.heap e (nv e C ag)from a.bo e _ p)
 obtain⟨⟨O,mA,gv,K,F⟩,⟨dj,M⟩,_⟩:=(show fk X.prog X.w A r.heap ag (oI ag fs)from a.bo ag _ E)
 refine afT a.eL afp T j m.lb V m.ob w rfl gv F (by rw[bP];omega) λh' rR n cL=>?_;show#[U,_,a.write (x:=ag) (e:=ag) (o:=oI ag (k' f v fs)) (by rw[E];exact trivial) (.inl rfl) (λb z d q=>(cL.2 b d).trans q) (by obtain⟨cY,_,_,q,_⟩:=n.ns;show#[cY,q]) (Y5 ?_ n (λg=>?_) ?_),l]
 .have:=TH f v fs;omega
 .rw[TG];by_cases q:g=f
  .rw[bS q,bS q];exact i
  rw[bx q,bx q];exact K g
 intro g k;by_cases q:g=f
 .rw[q];exact(FR f v fs).1
 exact(FR f v fs).2 g (F g λz=>k (by show(if g=f then some u else mA g)=none;rw[bx q];exact z))
end
section
variable{X:bH}{k:Nat}{f C R:Addr}{fd:nY}{ps:cK}{sp:fu}{y:Str}
theorem afV{H:af}{s:aW}{b:dx}{vs:aO}{Rr:Addr->Addr->af->Prop}(kA:qN X.K X.mg y C R)(Z:cD X.K (.ref C) "__init__"=some (some (.ref f)))(D:ua X.K (.ref f)=true)(F:aD X.prog X.w X.K X.mg X.base a3 k f fd ps sp)(j:gF (k+1) X.A)(i:Binds X.K fd ps [])(I:Inv X pins U H s)(r:de vs b)(L:vs.length<=sizeLine)(h:∀e,H e=none->sp (.ref e::vs) (upd H e (nw e C)) (λv d=>v=.b3/\∃c,d e=some (nv e C c)/\Rr e c d) kC):
  aT (bg X.prog X.w) X.A (call (.ref C) b) (λu K=>∃e c d,u=.ref e/\s.heap.get? e=none/\Inv X pins U d K/\d e=some (nv e C c)/\Rr e c d) X.er s:=by
 obtain⟨nm,hW,N,bs,d_,sn,sub,ab,M,mD,k0,k1,k2,k3,k5,P,T⟩:=kA.obj I.eL;refine adO xN T I.eL P Z (qS.mp D) (by rw[<-r.length];exact L) λA e g mk=>?_;obtain⟨t,Y,B,dF⟩:=mk.there;have m:Inv X pins U (upd H e (nw e C)) {s with heap:=A}:=I.laid (a:=e) (o:=nw e C) (t':=s.toks) mk.keeps g (Y4 Y);have p:=h e (I.bo.fresh g);have z:de (V.ref e::vs) (cX e::b):=.cons rfl r;have q:(cX e::b++[]).length=ps.length:=by have n:=z.length;rw[F.len _ _ _ _ p]at n;rw[sa];exact n.symm
 have w:=i {s with heap:=A} (cX e::b) m.eL q;rw[sa]at w;refine rV (q6 (F.run _ X.stack _ _ #[cX e::b,[]] (cX e::b) _ _ kC (j.make C b []) (m.JH.make C b []) w z p) λoB K l=>?_);cases oB with
 |error x=>exact ju l
 |ok gi=>
  cases gi with
  |ret u=>
   obtain⟨v,H',O,J,Q,c,E,G⟩:=m.after l;subst Q;show#[J,e,c,H',rfl,mk.new,O,E,G]
  |next=>exact ju l
  |brk=>exact ju l
  |cont=>exact ju l
end
section
variable{prog:cx}{w:bf}{A:eu}{E:cW}{s:aW}{env:Env}{K:aN}{mg:cb}{y:Str}{C R:Addr}
theorem ahz{x:Sem Value}{Q:Flow->aW->Prop}(L:qN K mg y C R)(o:A.handled=none)(h:aT (bg prog w) A x (λv a=>∃e c t f,v=.ref e/\K.In a.heap/\a.heap.get? e=some #[.ref C,some c,.fields (List.toArray [.ref t,.none,.none,.none,.bool false,.none]),f]/\E (.ref e) a) E s):
  aT (bg prog w) A (Ÿ env (some x) none) Q E s:=by
 unfold Ÿ;refine aE (ih h (λv a m=>?_) λ_ _ x=>x);obtain⟨e,c,t,f,rfl,X,z,r⟩:=m;obtain⟨J,u,N,q,p,M,sub,i,n,I,B,D,F,G,H,k,T⟩:=L.obj X;have l:(cX C::p).contains (.type "BaseException")=true:=by rw[adl,T.hasType (b:=true) (by decide),abk]
 obtain⟨V,g,d,j,os⟩:=a
 repeat (first|with_reducible refine lT z ?_|with_reducible refine lT k ?_|(with_reducible refine Va k ?_;rw[l])|wp_step)
 exact wpAny_raiseNew_none o r
noncomputable def adh(h:Heap)(b:Addr)(c:Option Addr):Prop:=∀a,c=some a->∃o,h.get? b=some o/\o.dict=some a
end
noncomputable def iz(P:cx)(w:bf):nV:=λg H s E e d=>∃(b:Addr)(a f:Value)(H':af)(B:Heap)(c:Option Addr),e=.ref b/\o' P w g H s b a f H' B d/\adh d.heap b c/\E a c H'
theorem zD{w:bf}(h:fg P w fr H s E e i):iz P w fr H s E e i:=by obtain⟨c,a,b,H',B,rfl,T,q⟩:=h;show#[c,a,b,H',B,none,rfl,T,(by intro d z;cases z),q]
noncomputable def del(H:af)(a:Addr):af:=λb=>if b=a then none else H b
theorem Vv:del H a a=none:=by unfold del;rw[bS rfl]
theorem uY{H:af}(h:b≠a):del H a b=H b:=by unfold del;rw[bx h]
section
variable{P:cx}{w:bf}{K:aN}{mg:cb}{base:Heap}{N:cK}{qual:Str}{scope:Scope}{f:Addr}{cdv:Value}{A:eu}{outer:List Env}{s:aW}{H:af}{E:bY}
noncomputable abbrev kj(P:cx)(w:bf)(K:aN)(mg:cb)(base:Heap)(N:cK)(qual:Str)(scope:Scope)(f:Addr)(cdv:Value)(A:eu)(outer:List Env)(s:aW)(H:af)(E:bY):bH:=
 j8 (iz P w) P w K mg base N qual scope f cdv A outer s H E
theorem asD(I:Inv (kj P w K mg base N qual scope f cdv A outer s H E) pins U H1 s1):Inv (gK P w K mg base N qual scope f cdv A outer s H E) pins U H1 s1:=I.nR _
theorem abw{d:af}(I:Inv (kj P w K mg base N qual scope f cdv A outer s H E) pins U d s1)(Y:d i=some (nv i C ag))(L:s.heap.get? i=none)(fH:E (.ref C) (some ag) (del d i)):(kj P w K mg base N qual scope f cdv A outer s H E).er (.ref i) s1:=by
 obtain⟨⟨t,bM,uG⟩,_,_⟩:=(show fk P w d s1.heap i (nv i C ag)from I.bo i _ Y)
 obtain⟨S,J⟩:∃S,S=fY (kj P w K mg base N qual scope f cdv A outer s H E).stack:=#[_,rfl]
 have o1:∀g∈(kj P w K mg base N qual scope f cdv A outer s H E).stack,∀b,g.frame=some b->b∈i::S:=λg he b a=>by rw[J];exact n3 _ (NL.mpr #[g,he,a])
 have T:∀b o,d b=some o->b∉S:=λb o e z=>by rw[J]at z;rw[I.LG b z]at e;cases e
 have V:∀b o,s1.heap.get? b=some o->b≠i->b∉S->(xR s1.heap (i::S)).get? b=some o:=λb o e n m=>YO _ e λz=>by
  rcases dr.mp z with z|z
  .exact n z
  exact m z
 have x:∀b o,s.heap.get? b=some o->b≠i:=λb o e z=>by rw[z,L]at e;cases e
 have R:∀b o,s.heap.get? b=some o->b∉fY outer->b∉S:=λb o e a=>by rw[J];exact Cm (asD I) e a
 have l:∀{b:Addr}{u:gQ},d b=some u->(∀k,u≠.ext k)->b≠i:=λ{b u}q n z=>by subst z;rw[Y]at q;exact n _ (hI q).symm
 have ĕ:(xR s1.heap (i::S)).get? i=none:=afz _ (.head _);refine ih (Wz aaz (wpAny_leaving_firstW (base:=xR s1.heap (i::S)) (a0:=.ref t) (Q:=λ_ s'=>∃y,s'={s1 with heap:=y}/\Heap.LeftW (xR s1.heap (i::S)) _ i (.ref C) (.ref t) s1.heap y) (E:=λ_ _=>False)
  I.ok.frames (afx I.stack o1) rfl uG (λb o q=>YU _ q) ĕ rfl rfl rfl λy O=>#[y,rfl,O])) (λ_ s'⟨⟨y,es,O⟩,eh⟩=>?_) λ_ _ z=>z.1.elim
 subst es;obtain⟨k1,⟨_,_,k2⟩,k3,Z⟩:=O;have F:W2 (xR s1.heap (i::S)) outer i (.ref C) (.ref t) y:=#[k1,ĕ,k2,k3]
 show#[i,.ref C,.ref t,del d i,_,some ag,rfl,#[F,I.os,I.bare,λb j e=>?_,#[λb o e n a h=>?_,λb o e n a h=>?_,λb o e n h=>?_,λb o e h=>?_,λb xs q=>?_,λb o u q=>?_,λb ps q=>?_],λb o e a=>?_],?_,fH]
 .have a:b≠i:=λz=>by rw[z,Vv]at e;cases e
  rw[uY a]at e;refine(I.bo b j e).nP (λc u B q=>?_) (λc r=>by rw[uY (l r (by intro k z;cases z))];exact r) λc xs r=>by rw[uY (l r (by intro k z;cases z))];exact r
  rcases B with rfl|B
  .exact V c u q a (T c _ e)
  exact V c u q (l B (by intro k z;cases z)) (T c _ B)
 .exact F.1 b o (V b o (I.base.keep b o e n a h) (x b o e) (R b o e a))
 .obtain⟨pj,z⟩:=I.base.slot b o e n a h;obtain⟨_,j,D,M⟩:=I.lz.mem a;rw[z]at D;cases D;obtain⟨T8,G⟩:=Z b _ z M;show#[T8,G]
 .rw[uY (x b o e)];exact I.base.free b o e n h
 .obtain⟨p,z⟩:=I.base.there b o e h;by_cases a:b∈fY outer
  .obtain⟨_,j,D,M⟩:=I.lz.mem a;obtain⟨pj,G⟩:=Z b _ D M;show#[_,G]
  show#[p,F.1 b p (V b p z (x b o e) (R b o e a))]
 .have r:=I.base.gz b xs q;rw[uY (l r (by intro k z;cases z))];exact r
 .have r:=I.base.jH b o u q;rw[uY (l r (by intro k z;cases z))];exact r
 .obtain⟨m,r⟩:=I.base.kb b ps q;show#[m,by rw[uY (l r (by intro k z;cases z))];exact r]
 .obtain⟨p,z⟩:=I.base.there b o e (by simp[kj,j8]);show#[p,V b p z (x b o e) (R b o e a),λn=>?_];have X:=I.base.keep b o e n a (by simp[kj,j8]);rw[z]at X;exact hI X
 intro kP cF;cases cF;obtain⟨j,yx,_⟩:=F.there;show#[j,yx,eh.dict uG yx]
noncomputable def ahA(C:Addr)(sp:fu)(E:bY)(d:gf):fO:=λ_ U H=>d U H λvs a=>vs.length<=sizeLine/\∀e,a e=none->sp (.ref e::vs) (upd a e (nw e C)) (λv c=>v=.b3/\∃b,c e=some (nv e C b)/\E (.ref C) (some b) (del c e)) kC
theorem UZ{k:Nat}{g:Pos}{b:Expr}{a:h3}{j:gf}(B:qN K mg y C R)(hm:mg x=some (.ref C))(m:mj K (.ref C)=true)(hi:cD K (.ref C) "__init__"=some (some (.ref G)))(Z:ua K (.ref G)=true)(F:aD P w K mg base a3 k G fd ps sp)(O:gF (k+1) (kj P w K mg base N qual scope f cdv A outer s H E).A)(M:Binds K fd ps [])(T:jb (kj P w K mg base N qual scope f cdv A outer s H E) x)(Q:hg (kj P w K mg base N qual scope f cdv A outer s H E) (b::a) j)(jm:(x==("__debug__":Str))=false:=by decide)(he:d2 (b::a) (kj P w K mg base N qual scope f cdv A outer s H E).env=(false,eval b (kj P w K mg base N qual scope f cdv A outer s H E).env)::d2 a (kj P w K mg base N qual scope f cdv A outer s H E).env:=by rfl)(fI:(hJ g (d2 a (kj P w K mg base N qual scope f cdv A outer s H E).env)).any (·.1)=false:=by rfl):
  h2 (kj P w K mg base N qual scope f cdv A outer s H E) (.Raise (some (.Call (.Name x np) (b::a) [] g)) none pos) (ahA C sp E j):=by
 intro c s1 U J D I h;rw[arm_exec_Raise];refine aE (L_ ?_);show aT _ _ (Ÿ _ (some (do
  let v <-eval (.Call (.Name x np) (b::a) [] g) (kj P w K mg base N qual scope f cdv A outer s H E).env
  wZ pos
  pure v)) none) _ _ _
 refine ahz B (I.ok.hd rfl) (aE (w9 (s3 I T hm ?_ jm)));refine Ax (h₀:=base) I.ok.mod.sY m (bU (Q g c s1 U J _ I h) λus s2⟨vs,V,p,r,l,q⟩=>#[p.eL,?_]) he fI;refine bU (afV (X:=kj P w K mg base N qual scope f cdv A outer s H E) (Rr:=λe d V=>E (.ref C) (some d) (del V e)) B hi Z F O M p r l q) λu bp l=>?_;obtain⟨e,d,bz,p5,n,L,i,fH⟩:=l;subst p5;obtain⟨⟨t,Y,uG⟩,_,_⟩:=(show fk P w bz bp.heap e (nv e C d)from L.bo e _ i)
 refine aE (L_ (bW #[e,d,t,Y,rfl,L.eL,uG,abw L i ?_ fH]));cases wM:s.heap.get? e with
 |none=>rfl
 |some o=>
  obtain⟨cY,z⟩:=p.base.there e o wM (by simp[kj,j8]);rw[n]at z;cases z
theorem y3{st:Stmt}{a:cK}{k:Nat}{sp:fu}(F:cj K x qual st f fd)(S:cI N a (b5 st))(l:∀(cdv:Value)(A:eu)(outer:List Env)(s:aW)(H:af)(vs:aO)(Q:a4)(E:bY),gF k (A.deeper (p4 qual (b5 st) s.heap.objs.size f cdv))->sp vs H Q E->
   ∃t,h8 (kj P w K mg base N qual (b5 st) f cdv A outer s H E) (l3 st) t/\t {di:=λ_ H'=>Q .b3 H',u2:=Q} (start N vs) H)(len:∀vs H Q E,sp vs H Q E->vs.length=a.length:=by intro _ _ _ _ h;first|(cases h;subst_vars;rfl)|((repeat obtain⟨_,h⟩:=h);subst_vars;rfl)|(cases h.1;subst_vars;rfl)):aD P w K mg base (iz P w) (k+1) f fd a sp:=by obtain⟨p,n,dq,c,y,m,cdv,o,r,rfl,lk,g⟩:=F.ex;exact N7 lk g S len λA outer s H vs Q E b d=>l cdv A outer s H vs Q E b d
end
theorem afW{K:aN}{xs:aO}{g:lX}{c:fO}{D:Ends}{H:af}(b:Nat->ao.St->af->Prop)(n:b 0 U H)(l:∀i U H,b i U H->aQ K H a xs)(w:∀i x U H p,xs[i]?=some x->b i U H->H p=none->g (.ref p) U (upd H p (.tup [.int i,x])) λz f=>c {D with di:=b (i+1),fv:=b (i+1),hh:=D.di} z f)(t:∀U H,b xs.length U H->D.di U H):
  zH (z4 K a) g c D U H:=by
 show#[λi m U H=>m=xs.length-i/\i<=xs.length/\b i U H,#[xs.length,by simp,e4 _,n],?_];rintro i m U H ⟨rfl,L,p⟩;have q:=l i U H p;by_cases d:i<xs.length
 .refine .inr #[#[xs,xs[i],q,by simp[d]],b (i+1),λA H' o=>#[xs.length-(i+1),by omega,rfl,d,o],λv H' y=>?_];obtain⟨r,x,h,rfl,k,rfl⟩:=y;exact w i x U H r (k xs q) p h
 have e:i=xs.length:=by omega
 subst e;exact .inl #[#[xs,q,cB _],t U H p]
end b_
namespace dR
open PySem ao b_ cw
theorem Z1{w:bf}:ou (iz P w) X kC:=λ_ _ _ _ _ _ _ h=>by obtain⟨_,_,_,_,_,_,_,_,_,h⟩:=h;exact h.elim
theorem ahB{N:fi}{n:TE}{rest:ao.St}{H1:af}{Q:a4}{J:gB}{xs:aO}(E:∀R:gB->af->Prop,R J H1->N U H R)(u:iN cs U=none::rest)(s:pW J H1 xs)(j:xs.length<sizeLine)(f:ao.V->List ao.V)(t:∀(i:Nat)(x:ao.V)(a:af)(R:a4),xs[i]?=some x->aB H1 a->(∀r c,aB a c->c r=some (.tup (f x))->R (.ref r) c)->n (some x::rest) a R)(w:∀(D:Addr)(H':af)(rs:bL),H1 D=none->H' D=some (.lst (aS rs))->eE H' rs (xs.map f)->aB H1 H'->Q (.ref D) H'):pq N cs (iL 0) tS n U H Q:=by
 refine E _ λD bI=>?_;show#[λi m A K H'=>m=xs.length-i/\i<=xs.length/\(∃rs,A=aS rs/\eE H' rs ((xs.take i).map f))/\(∃o,K=o::rest)/\aB H1 H'/\H' D=some (.lst A),#[xs.length,by simp,e4 _,#[[],rfl,.nil],#[none,u],λb o e=>?_,aK],?_]
 .rw[aJ (b1 e bI)];exact e
 rintro i m A K H' ⟨rfl,B,⟨rs,rfl,h⟩,⟨o,rfl⟩,g,l⟩;obtain⟨C,I,G⟩:=s H' g;have M:=h.len;rw[bP,ll,NT B]at M;show#[l,t8 (by rw[fo];omega) j,?_];by_cases p:i<xs.length
 .refine .inr #[I i p,λx a y=>?_];obtain⟨rfl,L⟩:=G i x a p y;have q:xs.take (i+1)=xs.take i++[x]:=by rw[pO,L];rfl
  show n (some x::rest) a _;refine t i x a _ L g λr c k V=>#[k _ _ l,xs.length-(i+1),by omega,rfl,p,#[rs++[r],yP rs r,?_],#[_,rfl],λb O e=>?_,aK]
  .rw[q,eK];exact eE.upd (Paired.snoc (F:=λr d=>c r=some (.tup d)) V (h.same k)) (k _ _ l) (by intro d z;cases z)
  rw[aJ (b1 e bI)];exact k _ _ (g _ _ e)
 have e:i=xs.length:=by omega
 subst e;rw[n4]at h;exact .inl #[C,w D H' rs bI l h g]
theorem ahC(x y:Str):jz (.str x) (.str y)=decide (x=y):=by
 by_cases h:x=y
 .subst h;rw[cE rfl];simp[jz]
 rw[dt h];simp[jz,h]
theorem ahl{a:bt}{k:Nat}(h:k<a.length):inD (.str (S (a.getD k []))) (bI a)=true:=by
 unfold inD bI;rw[pM];have b:a.getD k []∈a:=by rw[ea,dw h];exact m3 h
 show#[_,cm.mpr #[_,cm.mpr #[_,b,rfl],rfl],by rw[ahC];exact cE rfl]
inductive acP(H1:af)(D:Addr)(rest:ao.St)(us:aO)(i m:Nat)(zs:aO)(U:ao.St)(H:af):Prop where
 |mk(o cY:lY)(_:m=us.length-i)(_:i<=us.length)(_:zs=us.take i)(_:U=o::cY::rest)(_:aB H1 H)(_:H D=some (.lst zs))
theorem afX{K:aN}{wi:fi}{a b:Nat}{d g f:aO}{c:ao.St}{w:TE}{Q:a4}{H1:af}(P:∀R:gB->af->Prop,R (Du K a b) H1->wi U H R)(M:iN cs U=none::none::c)(E:cV K H1 a d)(B:aQ K H1 b g)(C:d.length<sizeLine)(Z:g.length=d.length)(T:f.length=d.length)(z:∀(i:Nat)(x y u:ao.V)(k:af)(R:a4),d[i]?=some x->g[i]?=some y->f[i]?=some u->aB H1 k->(∀t,aB k t->R u t)->w (some x::some y::c) k R)(A:∀(D:Addr)(H':af),H1 D=none->H' D=some (.lst f)->aB H1 H'->Q (.ref D) H'):
  pq wi cs (xg K 2 (rJ (iL 0) (rJ (iL 1) Af))) tS w U H Q:=by
 refine P _ λD bI=>?_;show#[acP H1 D c f,#[f.length,#[none,none,by simp,e4 _,by simp,M,bF bI,aK]],?_];rintro i m zs X H' ⟨o,Y,rfl,hi,rfl,rfl,h,l⟩;have L:cV K H' a d:=b_.aB.tup h E;have r:aQ K H' b g:=h.seq B;show#[l,t8 (by rw[ll];omega) C,?_];by_cases G:i<d.length
 .have J:d[i]?=some d[i]:=dw G;have I:g[i]?=some (g[i]'(by omega)):=dw (by omega);have j:f[i]?=some (f[i]'(by omega)):=dw (by omega);refine .inr #[#[d,g,_,_,L,r,J,I],λx k y=>?_];obtain⟨q,p,n,F,rfl,O,s,rfl⟩:=y;have N:aB H' (upd H' q (.tup [p,n])):=bF F;show#[q,_,rfl,cV.of aK,rfl,#[_,_,rfl,#[_,_,rfl,rfl,?_]]];show w (some p::some n::c) _ _;refine z i p n _ _ _ (O d L) (s g r) j (h.trans N) λt V=>#[V _ _ (N _ _ l),f.length-(i+1),by omega,some p,some n,rfl,by omega,?_,rfl,gJ bI ((h.trans N).trans V),aK]
  rw[pO,j];rfl
 have e:i=f.length:=by omega
 subst e;rw[n4]at l;exact .inl #[#[d,g,L,r,by omega],A D H' bI l h]
theorem afY{K:aN}{wi:fi}{a:Nat}{xs ys us:aO}{rest:ao.St}{l:TE}{Q:a4}{H:af}(j:∀R:gB->af->Prop,(∀p H1,H p=none->aB H H1->H1 p=some (.lst ys)->R (Du K a p) H1)->wi U H R)(V:iN cs U=none::none::rest)(w:cV K H a xs)(t:xs.length<sizeLine)(A:ys.length=xs.length)(n:us.length=xs.length)(f:∀(i:Nat)(x y u:ao.V)(b:af)(R:a4),xs[i]?=some x->ys[i]?=some y->us[i]?=some u->aB H b->(∀k,aB b k->R u k)->l (some x::some y::rest) b R)(g:∀(D:Addr)(H':af),H D=none->H' D=some (.lst us)->aB H H'->Q (.ref D) H'):
  pq wi cs (xg K 2 (rJ (iL 0) (rJ (iL 1) Af))) tS l U H Q:=
 j _ λp H1 s c r=>afX (wi:=λ_ _ R=>R (Du K a p) H1) (H:=H) (H1:=H1) (λ_ h=>h) V (b_.aB.tup c w) (aQ.of r) t A n (λi x y u b R N L q d z=>f i x y u b R N L q (c.trans d) z) λD H' m bI d=>g D H' (by
  cases e:H D with
  |none=>rfl
  |some o=>rw[c _ _ e]at m;cases m) bI (c.trans d)
end dR
namespace b_
open PySem PySem.Spec PyProof.Rows ao
inductive aiP(cs:Addr->fu->Prop)(v:V)(R:fu->Prop):Prop where
 |mk(f:Addr)(sp:fu)(_:v=.ref f)(_:cs f sp)(_:R sp)
noncomputable def aiQ(d:Addr->fu->Prop)(E:bY)(b:TE)(t:gf):TE:=λU H Q=>b U H λv a=>aiP d v λsp=>t U a λvs c=>sp (vs++[]) c Q E
inductive Ai(P:cx)(w:bf)(K:aN)(mg:cb)(base:Heap)(CX:nV)(k:Nat)(f:Addr)(sp:fu):Prop where
 |mk(fd:nY)(ps:cK)(_:aD P w K mg base CX k f fd ps sp)(_:Binds K fd ps [])(_:mj K (.ref f)=true)
section
variable{X:bH}{CX:nV}{k:Nat}{cs:Addr->fu->Prop}{E:bY}{uu e:Expr}{es:h3}{LM:TE}{t:gf}{pos:Pos}
theorem Gi(z:bA X uu LM)(N:∀f sp,cs f sp->Ai X.prog X.w X.K X.mg X.base CX k f sp)(o:gF k X.A)(p:ou CX X E)(y:hg X (e::es) t)(w:eval (.Call uu (e::es) [] pos) X.env=(do AR pos (<-eval uu X.env) [] (hJ pos (d2 (e::es) X.env)) (n' pos (ox [] X.env))):=by rfl)(V:d2 (e::es) X.env=(false,eval e X.env)::d2 es X.env:=by rfl)(fI:(hJ pos (d2 es X.env)).any (·.1)=false:=by rfl):
  bA X (.Call uu (e::es) [] pos) (aiQ cs E LM t):=by intro a s U H Q I h;rw[w];refine aE (bU (z a s U H _ I h) λu i b=>?_);obtain⟨v,l,d,A,f,sp,L,c,q⟩:=b;subst L;obtain rfl:u=cX f:=A;obtain⟨x,B,F,n,m⟩:=N f sp c;refine Ax (h₀:=X.base) d.ok.mod.sY m (bU (y pos a i U l _ d q) λD C b=>?_) V fI;obtain⟨vs,j,g,r,K⟩:=b;show#[g.eL,HA F o n .nil p g r K]
end
inductive TopD(w:bf)(K:aN)(a:Addr):Prop where
 |mk(es:Array r9)(n:Nat)(_:K.lookup a=some ⟨.type "dict",none,.dict es n,#[]⟩)(_:aft w.params es.toList)(_:(a==lh)=false)
inductive alW(w:bf)(K:aN)(neg:Bool)(y x:V)(H:af)(Q:a4):Prop where
 |mk(k:Str)(a:Addr)(r:AH)(_:y=.str k)(_:x=.ref a)(_:TopD w K a)(_:e5 K a k=some r)(_:Q (.aV (cond neg (!r.isSome) r.isSome)) H)
inductive ak1(w:bf)(K:aN)(x y:V)(H:af)(Q:a4):Prop where
 |mk(k:Str)(a f:Addr)(_:y=.str k)(_:x=.ref a)(_:TopD w K a)(_:e5 K a k=some (some (.ref f)))(_:Q (.ref f) H)
noncomputable def χ(w:bf)(K:aN)(a:Bool)(ty d:TE):TE:=λU H Q=>ty U H λy b=>d U b λx c=>alW w K a y x c Q
noncomputable def ak2(w:bf)(K:aN)(c ty:TE):TE:=λU H Q=>c U H λx a=>ty U a λy b=>ak1 w K x y b Q
section
variable{X:bH}{o i:Expr}{pos:Pos}{eZ ty:TE}
theorem Y6(V:bA X i ty)(aX:bA X o eZ):DS X .In i o (χ X.w X.K false ty eZ):=by
 intro b s U H Q I h;refine bU (V b s U H _ I h) λj q c=>?_;obtain⟨y,g,m,A,w⟩:=c;refine bU (aX b q U g _ m w) λu C c=>?_;obtain⟨x,p,f,z,k,a,r,L,N,⟨B,n,d,l,lo⟩,e,K⟩:=c;subst L N;obtain rfl:u=cX a:=z;obtain⟨t,rfl⟩:=(show∃t,j=sq k t from A)
 refine wpAny_in_of (aak X.prog X.w k t) lo (YS (prog:=X.prog) f.eL d l) ?_;rw[YN d e];show#[.aV _,p,f.tok _,rfl,K]
theorem aez(V:bA X i ty)(aX:bA X o eZ):DS X .NotIn i o (χ X.w X.K true ty eZ):=by
 intro b s U H Q I h;refine bU (V b s U H _ I h) λj q c=>?_;obtain⟨y,g,m,A,w⟩:=c;refine bU (aX b q U g _ m w) λu C c=>?_;obtain⟨x,p,f,z,k,a,r,L,N,⟨B,n,d,l,lo⟩,e,K⟩:=c;subst L N;obtain rfl:u=cX a:=z;obtain⟨t,rfl⟩:=(show∃t,j=sq k t from A)
 refine as5 (aak X.prog X.w k t) lo (YS (prog:=X.prog) f.eL d l) ?_;rw[YN d e];show#[.aV _,p,f.tok _,rfl,K]
theorem GU(aX:bA X o eZ)(j:bA X i ty)(q:OX i):bA X (.Subscript o i pos) (ak2 X.w X.K eZ ty):=by
 intro b s U H Q I h;refine Xi afl.lookup q (bU (aX b s U H _ I h) λu C c=>?_);obtain⟨x,m,r,A,z⟩:=c;refine bU (j b C U m _ r z) λB E c=>?_;obtain⟨y,w,g,K,k,a,f,N,V,⟨D,n,d,p,lo⟩,e,L⟩:=c;subst N V;obtain rfl:u=cX a:=A;obtain⟨t,rfl⟩:=(show∃t,B=sq k t from K)
 have l:=YS (prog:=X.prog) g.eL d p;show#[l.typeIs,asZ (aak X.prog X.w k t) l (YN d e) #[.ref f,w,g.tok _,rfl,L]]
end
end b_
namespace dR
open PySem ao b_
inductive mm where
 |t|n|r|f
noncomputable def OP:Str:=bc "-"
noncomputable def mm.a_:mm->Str->ao.V->Prop
 |.t,w,v=>v=.str w
 |.n,w,v=>∃m:Nat,m<10 ^ 10/\w=S (df m)/\v=.int (m:Int)
 |.r,w,v=>(w=OP/\v=.b3)\/∃m:Nat,m<10 ^ 10/\w=S (df m)/\v=.int (m:Int)
 |.f,w,v=>∃m:Nat,m<=1000000000/\w=S (df m)/\v=.int (m:Int)
inductive pU:List mm->List Str->List ao.V->Prop
 |nil:pU [] [] []
 |cons{k:mm}{w:Str}{v:ao.V}{dv:List mm}{ws:cK}{vs:aO}(_:k.a_ w v)(_:pU dv ws vs):pU (k::dv) (w::ws) (v::vs)
theorem pU.len{a:List mm}{b:cK}{vs:aO}(h:pU a b vs):b.length=a.length/\vs.length=a.length:=by
 induction h with
 |nil=>show#[rfl,rfl]
 |cons _ _ e=>show#[by rw[gC,gC,e.1],by rw[gC,gC,e.2]]
theorem pU.get{d:List mm}{f:cK}{vs:aO}(h:pU d f vs):∀{i:Nat}{k:mm}{w:Str}{v:ao.V},d[i]?=some k->f[i]?=some w->vs[i]?=some v->k.a_ w v:=by
 induction h with
 |nil=>intro i k w v e;exact nomatch e
 |cons h _ j=>
  intro i k w v b a c;cases i with
  |zero=>cases b;cases a;cases c;exact h
  |succ i=>exact j b a c
section
variable{P:cx}{w:bf}{K:aN}{mg:cb}{base:Heap}
inductive OQ(vs:aO)(H:af)(Q:a4)(E:bY):Prop where
 |mk(v:ao.V)(_:vs=[v])(_:Q v H)
noncomputable abbrev TY:Stmt:=top 88
theorem alX:cI kI kI (b5 TY):={}
theorem aiR{f:Addr}(F:cj K "as_text" "as_text" TY f fd):aD P w K mg base a3 1 f fd kI OQ:=by refine F.ok alX (λ_ A _ s H vs Q E a h=>?_);obtain⟨v,rfl,q⟩:=h;show#[_,(a7 (cd (ae 0))),_,rfl,q]
inductive D0(vs:aO)(H:af)(Q:a4)(E:bY):Prop where
 |mk(m:Nat)(_:vs=[.str (S (df m))])(_:m<10 ^ 10)(_:∀H',aB H H'->Q (.int (m:Int)) H')
noncomputable abbrev Gl:Stmt:=top 89
theorem alY:cI kI kI (b5 Gl):={}
noncomputable def Z2:fu:=λvs H Q _=>∃m:Nat,vs=[.str (S (df m))]/\m<10 ^ 10/\∀H',aB H H'->Q (.aV true) H'
noncomputable abbrev IQ:Stmt:=top 18
theorem aiS{f:Addr}(F:cj K "as_number" "as_number" Gl f fd)(B:ft mg)(c:cu K mg "is_written_number" IQ ["text"] f1 e)(a:aD P w K mg base a3 1 f1 e ["text"] Z2):aD P w K mg base a3 2 f fd kI D0:=by
 refine F.ok alY (λ_ A _ s H vs Q E d h=>?_);obtain⟨m,rfl,b,q⟩:=h;show#[_,(a6 (d8 (j0 (kU (d9 a c d.mono b0 (ak (ae 0) aA)))) (a7 uO) ed)
  (a7 (cd (hC adJ B.int HH (ak (ae 0) aA))))),?_]
 try dsimp only[cT,cS]
 have k:=lF b;show#[_,rfl,m,rfl,b,λH' g=>#[_,rfl,fR #[_,rfl,_,_,rfl,afP b,by rw[d6];omega,q H' g]]]
inductive Od(vs:aO)(H:af)(Q:a4)(E:bY):Prop where
 |mk(z:Str)(v:ao.V)(_:vs=[.str z])(_:mm.r.a_ z v)(_:∀H',aB H H'->Q v H')
noncomputable abbrev OR:Stmt:=top 91
theorem ak3:cI kI kI (b5 OR):={}
theorem acz(m:Nat):S (df m)≠OP:=λz=>by
 have e:OP=S [45]:=by decide+kernel
 rw[e]at z;have a:df m=[45]:=by have:=fa (λx:Str=>x.cps.toList) z;simpa using this
 have:=CS (m:=m) (c:=45) (by rw[a];exact .head _);omega
theorem aiT{f:Addr}(F:cj K "as_road_or_none" "as_road_or_none" OR f fd)(d:cu K mg "as_number" Gl kI f1 e)(a:aD P w K mg base a3 2 f1 e kI D0):aD P w K mg base a3 3 f fd kI Od:=by
 refine F.ok ak3 (λ_ A _ s H vs Q E c h=>?_);obtain⟨z,v,rfl,b,q⟩:=h;show#[_,(a6 (d8 (eN kV (ae 0) cn (ek _)) (a7 (cd kT)) ed)
  (a7 (cd (d9 a d c.mono b0 (ak (ae 0) aA))))),?_]
 try dsimp only[cT,cS]
 rcases b with⟨rfl,rfl⟩|⟨m,hm,rfl,rfl⟩
 .show#[_,rfl,rfl,_,rfl,eQ (cE rfl) (q H (aB.refl _))]
 show#[_,rfl,rfl,_,rfl,dA (dt λy=>acz m (V.str.inj y)) #[_,rfl,m,rfl,hm,q]]
inductive OZ(vs:aO)(H:af)(Q:a4)(E:bY):Prop where
 |mk(m:Nat)(_:vs=[.str (S (df m))])(_:m<=1000000000)(_:∀H',aB H H'->Q (.int (m:Int)) H')
end
inductive h6(K:aN)(cO:Addr)(kw:Str)(fs:bL):Prop where
 |mk(bC:Addr)(dd:Option Addr)(n:Nat)(bM:mr)(_:e5 K cO kw=some (some (.ref bC)))(_:K.lookup bC=some ⟨.type "tuple",dd,.seq (fs.map cX).toArray n,bM⟩)
structure jU where
 (t n r p6:Addr)
noncomputable def jU.f(R:jU):mm->Addr
 |.t=>R.t
 |.n=>R.n
 |.r=>R.r
 |.f=>R.p6
inductive AB(R:jU):Addr->fu->Prop
 |t:AB R R.t OQ
 |n:AB R R.n D0
 |r:AB R R.r Od
 |f:AB R R.p6 OZ
theorem FU:∀a:List Addr,de (aS a) (a.map cX)
 |[]=>.nil
 |_::a=>.cons rfl (FU a)
theorem afK(x:ao.V)(a:aO):lN (x::a) (some 1) none=a:=by unfold lN;have g:gc.hq (x::a).length 0 (some ((1:Nat):Int))=min 1 (x::a).length:=gc.Lu _ _ 1;rw[show(some (1:Int))=some ((1:Nat):Int)from rfl,g,gc.arX,gC,NT (by omega)];show(a.take (a.length+1-1))=a;rw[Nat.add_sub_cancel,n4]
section
variable{P:cx}{w:bf}{K:aN}{mg:cb}{base:Heap}
noncomputable def i2(a:cK):List ao.V:=a.map V.str
inductive Oe(K:aN)(R:jU)(cO:Addr)(vs:aO)(H:af)(Q:a4)(E:bY):Prop where
 |mk(a:Addr)(kw:Str)(ws:cK)(dv:List mm)(us:aO)(_:vs=[.ref a])(_:H a=some (.lst (i2 (kw::ws))))(_:h6 K cO kw (dv.map R.f))(_:pU dv ws us)(_:dv.length<=10)(_:∀l H',H l=none->aB H H'->H' l=some (.lst us)->Q (.ref l) H')
noncomputable abbrev D1:Stmt:=top 94
theorem Z3:cI ["words","form"] ["words"] (b5 D1):={}
theorem ajr{f:Addr}{R:jU}(F:cj K "values_of" "values_of" D1 f fd)(B:ft mg)(T:mg "FORMS"=some (.ref e))(O:TopD w K e)(gM:∀g sp,AB R g sp->Ai P w K mg base a3 3 g sp):aD P w K mg base a3 4 f fd ["words"] (Oe K R e):=by
 refine F.ok Z3 (λ_ A _ s H vs Q E al h=>?_);obtain⟨a,d,N,c,us,rfl,o,⟨l,dd,n,bM,Z,mE⟩,X,Bv,q⟩:=h;show#[_,(a6 (d8 (Hh (aez (b8 eO (ae 0) aZ) (km T))) (a7 uO) ed)
  (a6 (dO 1 Z3.aI (GU (km T) (b8 eO (ae 0) aZ) (λ_ _=>rfl)))
  (a6 (d8 (eN zQ (bO Hj (eD kN B.len jI (ak (ae 0) aA)) aZ) (eD kN B.len jI (ak (ae 1) aA)) (ek _)) (a7 uO) ed)
  (a7 (cd (tl (N':=["read","word"]) (cs:=[none,none]) rfl (ahv rfl B.zip (ak (ae 1) (ak (LU MG (ae 0) (GQ aZ) Mv) aA))) rfl (by decide+kernel) rfl (by decide+kernel) (lE (λp aG=>bG aG (e3))) rfl
   (.own (.own .nil))
   (λC bp bz dc fA=>#[(Md (K:=K) (n:=2) rfl rfl (sW (fG 0 (by show(["read","word"]:cK).Nodup;decide+kernel)) (sW (fG 1 (by show(["read","word"]:cK).Nodup;decide+kernel)) GO))),o5,(Gi (ae 0) gM al.mono b0 (ak (ae 1) aA))]))))))),?_]
 try dsimp only[cT,cS]
 obtain⟨lw,R6⟩:=X.len;have G:∀{U:af},cV K U l (aS (c.map R.f)):=λ{U}=>.inr #[_,_,_,mE,rfl,rfl,by simp;exact dX Bv (by decide),FU _];have kf:ao.gT (i2 (d::N)) 0=some (.str d):=iH (j:=0) rfl;show#[_,rfl,a,_,_,_,rfl,rfl,aQ.of o,kf,d,e,_,rfl,rfl,O,Z,_,rfl,dA rfl ?_];show#[_,rfl,a,_,_,_,rfl,rfl,aQ.of o,kf,d,e,l,rfl,rfl,O,Z,?_];show#[_,rfl,a,_,rfl,.inl (aQ.of o),_,_,rfl,rfl,_,rfl,l,_,rfl,.inr G,rfl,_,rfl,?_];have le:(i2 (d::N)).length=c.length+1:=by unfold i2;rw[bP,gC,lw]
 have lf:(aS (c.map R.f)).length=c.length:=by rw[fo,bP]
 refine dA (show(!decide (V.int (((i2 (d::N)).length:Int)-1)=V.int ((aS (c.map R.f)).length:Int)))=false by rw[le,lf,cE (by congr 1;omega)];rfl) ?_;dsimp only[zG,xm];refine afY (K:=K) (a:=l) (xs:=aS (c.map R.f)) (ys:=i2 N) (us:=us) (rest:=[]) (λRr h=>#[_,rfl,_,rfl,_,rfl,a,_,rfl,aQ.of o,λp np=>#[l,p,rfl,#[_,G],#[_,aQ.of aK],h p _ np (bF np) (by rw[aK];congr 2;exact afK _ _)]]) rfl G (e' (by omega)) (by rw[lf];unfold i2;rw[bP,lw]) (by omega) (λi x y u ai Rr J I p5 Y L=>?_) (λD H' nG bI Y=>q D H' nG Y bI);unfold aS at J;rw[hc,dV]at J;obtain⟨k,e6,rfl⟩:=gS.mp J;unfold i2 at I;rw[dV]at I;obtain⟨z,fQ,rfl⟩:=gS.mp I;have b:=X.get e6 fQ p5;cases k with
 |t=>
  have b:u=.str z:=b;subst b;show#[_,rfl,R.t,OQ,rfl,.t,_,rfl,_,rfl,L ai (aB.refl _)]
 |n=>
  obtain⟨m,M,rfl,rfl⟩:=b;show#[_,rfl,R.n,D0,rfl,.n,_,rfl,m,rfl,M,L]
 |r=>show#[_,rfl,R.r,Od,rfl,.r,_,rfl,z,u,rfl,b,L]
 |f=>
  obtain⟨m,M,rfl,rfl⟩:=b;show#[_,rfl,R.p6,OZ,rfl,.f,_,rfl,m,rfl,M,L]
end
end dR
namespace b_
open PySem PySem.Spec PyProof.Rows ao
inductive afL(x:ao.V)(xs:aO)(H:af)(Q:a4):Prop where
 |mk(z y:Str)(_:x=.str z)(_:xs=[.str y])(_:Q (.aV (Ox z y)) H)
theorem aeA:DN X "str.startswith" afL:=by intro a s U H x f v d Q I b rs h;obtain⟨z,y,rfl,rfl,q⟩:=h;obtain⟨t,rfl⟩:=b;obtain⟨u,rfl,c,rfl⟩:=vals1 rs;exact SC.startswith #[.aV _,H,I,rfl,q]
end b_
namespace dR
open PySem ao b_
structure tN(ps:bt):Prop where
 ne:ps≠[]
 c3:ps.length<=6
 ok:∀p∈ps,32∉p/\p≠[]/\p.length<=20/\∀c∈p,c<256
 qk:Ox (S (d1 [32] ps)) (bc "check ")=false
theorem Ni{y:b7}{c:Nat}:∀{a:bt},c∈d1 y a->c∈y\/∃p∈a,c∈p
 |[],h=>nomatch h
 |[p],h=>.inr #[p,.head _,h]
 |p::q::r,h=>by
  rcases hy.mp h with h|h
  .rcases hy.mp h with h|h
   .exact .inr #[p,.head _,h]
   exact .inl h
  rcases Ni h with h|⟨e,ah,aj⟩
  .exact .inl h
  exact .inr #[e,.tail _ ah,aj]
theorem XI(y:b7)(k:Nat):∀a:List b7,(∀p∈a,p.length<=k)->(d1 y a).length<=a.length*(k+y.length)
 |[],_=>e4 _
 |[p],h=>by have:=h p (.head _);show p.length<=1*(k+y.length);omega
 |p::q::r,h=>by have f:=h p (.head _);have b:=XI y k (q::r) λd c=>h d (.tail _ c);show(p++y++d1 y (q::r)).length<=(r.length+1+1)*(k+y.length);rw[eM,eM,Ys];rw[gC]at b;omega
theorem tN.split{d:bt}(h:tN d):Eh (S (d1 [32] d)) (bc " ")=d.map S:=by
 have e:bc " "=S [32]:=by decide+kernel
 rw[e];refine abT h.ne (λp a=>(h.ok p a).1) (λc b=>?_) (λc b=>?_)
 .rcases Ni b with z|⟨p,a,z⟩
  .rw[gp.mp z];decide
  exact(h.ok p a).2.2.2 c z
 rw[gp.mp b];decide
theorem tN.len(h:tN e):(d1 [32] e).length<=126:=by have c:=XI [32] 20 e λp a=>(h.ok p a).2.2.1;have b:=h.c3;have d:e.length*(20+[32].length)<=6*21:=NU b (cB _);omega
section
variable{P:cx}{w:bf}{K:aN}{mg:cb}{base:Heap}
inductive O0(vs:aO)(H:af)(Q:a4)(E:bY):Prop where
 |mk(ps:bt)(_:vs=[.str (S (d1 [32] ps))])(_:tN ps)(_:∀l,H l=none->Q (.ref l) (upd H l (.lst (i2 (ps.map S)))))
noncomputable abbrev Gx:Stmt:=top 93
theorem ψ:cI ["row","words"] ["row"] (b5 Gx):={}
theorem ak4{f:Addr}(F:cj K "words_of" "words_of" Gx f fd)(B:ft mg):aD P w K mg base a3 1 f fd ["row"] O0:=by
 refine F.ok ψ (λ_ A _ s H vs Q E N h=>?_);obtain⟨a,rfl,ok,q⟩:=h;show#[_,(a6 (d8 (kU (oz N_ PySem.F.slot_str_startswith PySem.F.type_str_startswith aeA (ae 0) (ak cn aA))) (a7 (cd (g7 (ak cn (ak (LU ajf (ae 0) (GQ (eD Tw B.len jI (ak cn aA))) Mv) aA))))) ed)
  (a6 (dO 1 ψ.aI (oz N_ PySem.F.slot_str_split PySem.F.type_str_split afO (ae 0) (ak cn aA)))
  (a6 (d8 (eN UQ cn (ae 1) (by rfl)) (a7 uO) ed)
  (a7 (cd (ae 1)))))),?_]
 try dsimp only[cT,cS]
 have i:=ok.len;have q:=q;show#[_,rfl,rfl,_,_,rfl,rfl,_,rfl,dA ok.qk ?_];show#[_,rfl,rfl,_,_,rfl,rfl,(by decide+kernel),mi (e' (by rw[d6];omega)),λp L=>?_];rw[ok.split];have b:upd H p (.lst (i2 (a.map S))) p=some (.lst (i2 (a.map S))):=aK;have c:=q p L;unfold i2 at b c;have r:((a.map S).map V.str).all qm=true:=U' _;have t:oq (.str (bc "")) ((a.map S).map V.str)=false:=by
  unfold oq;rw[r4];intro z;obtain⟨v,m,e⟩:=pM.mp z;obtain⟨y,k,rfl⟩:=cm.mp m;obtain⟨x,g,rfl⟩:=cm.mp k;have l:(S x==bc "")=true:=e;have d:=eq_of_beq l;have o:(bc "").cps.toList=[]:=by decide+kernel
  have n:x=[]:=by have:=fa (λz:Str=>z.cps.toList) d;rw[o]at this;simpa using this
  exact(ok.ok x g).2.1 n
 show#[_,rfl,p,_,rfl,.inl (aQ.of b),rfl,r,_,rfl,dA t #[_,rfl,c]]
end
open cw
theorem MD{w:fi}{g:TE}{rest:ao.St}{H1:af}{Q:a4}{J:gB}{xs:aO}(V:∀R:gB->af->Prop,R J H1->w U H R)(L:iN cs U=none::rest)(A:pW J H1 xs)(z:xs.length<sizeLine)(f:Nat->ao.V)(k:∀(i:Nat)(x:ao.V)(a:af)(R:a4),xs[i]?=some x->aB H1 a->(∀d,aB a d->R (f i) d)->g (some x::rest) a R)(n:∀(D:Addr)(H':af),H1 D=none->H' D=some (.lst ((eB xs.length).map f))->aB H1 H'->Q (.ref D) H'):pq w cs (iL 0) tS g U H Q:=by
 refine V _ λD bI=>?_;show#[λi m p r H'=>m=xs.length-i/\i<=xs.length/\p=(eB i).map f/\(∃o,r=o::rest)/\aB H1 H'/\H' D=some (.lst p),#[xs.length,by simp,e4 _,rfl,#[none,by rw[L]],λb o e=>?_,aK],?_]
 .rw[aJ (b1 e bI)];exact e
 rintro i m p r H' ⟨rfl,s,rfl,⟨o,rfl⟩,c,l⟩;obtain⟨N,q,j⟩:=A H' c;show#[l,t8 (by rw[bP,oO];omega) z,?_];by_cases h:i<xs.length
 .refine .inr #[q i h,λx a y=>?_];obtain⟨rfl,K⟩:=j i x a h y;show g (some x::rest) a _;refine k i x a _ K c λd t=>#[t _ _ l,xs.length-(i+1),by omega,rfl,h,?_,#[_,rfl],λb u e=>?_,aK]
  .rw[z9,eK];rfl
  rw[aJ (b1 e bI)];exact t _ _ (c _ _ e)
 have e:i=xs.length:=by omega
 subst e;exact .inl #[N,n D H' bI l c]
theorem Y2{N:fi}{t:iW}{K:TE}{rest:ao.St}{H1:af}{Q:a4}{J:gB}{xs:aO}(E:∀R:gB->af->Prop,R J H1->N U H R)(u:iN cs U=none::rest)(s:pW J H1 xs)(V:xs.length<sizeLine)(p:Nat->Bool)(f:Nat->ao.V)(h:∀(i:Nat)(x:ao.V)(a:af)(R:Bool->af->Prop),xs[i]?=some x->aB H1 a->(∀d,aB a d->R (p i) d)->t (some x::rest) a R)(n:∀(i:Nat)(x:ao.V)(a:af)(R:a4),xs[i]?=some x->p i=true->aB H1 a->(∀d,aB a d->R (f i) d)->K (some x::rest) a R)(r:∀(D:Addr)(H':af),H1 D=none->H' D=some (.lst (((eB xs.length).filter p).map f))->aB H1 H'->Q (.ref D) H'):pq N cs (iL 0) t K U H Q:=by
 refine E _ λD bI=>?_;show#[λi m w z H'=>m=xs.length-i/\i<=xs.length/\w=((eB i).filter p).map f/\(∃o,z=o::rest)/\aB H1 H'/\H' D=some (.lst w),#[xs.length,by simp,e4 _,rfl,#[none,by rw[u]],λb o e=>?_,aK],?_]
 .rw[aJ (b1 e bI)];exact e
 rintro i m w z H' ⟨rfl,B,rfl,⟨o,rfl⟩,c,l⟩;obtain⟨C,G,F⟩:=s H' c;show#[l,t8 ?_ V,?_]
 .rw[bP];refine dX (m4 _ _) ?_;rw[oO];exact B
 by_cases k:i<xs.length
 .refine .inr #[G i k,λx a y=>?_];obtain⟨rfl,L⟩:=F i x a k y;show t (some x::rest) a _;refine h i x a _ L c λq g=>?_;cases j:p i with
  |true=>
   refine hU ?_;refine n i x q _ L j (c.trans g) λd A=>#[A _ _ (g _ _ l),xs.length-(i+1),by omega,rfl,k,?_,#[_,rfl],λb I e=>?_,aK]
   .rw[z9,qF,eK];simp[j]
   rw[aJ (b1 e bI)];exact A _ _ (g _ _ (c _ _ e))
  |false=>
   refine fR #[xs.length-(i+1),by omega,rfl,k,?_,#[_,rfl],c.trans g,g _ _ l];rw[z9,qF,eK];simp[j]
 have e:i=xs.length:=by omega
 subst e;exact .inl #[C,r D H' bI l c]
theorem zE{a:Type}{l:List a}{i:Nat}{x d:a}(e:l[i]?=some x):l.getD i d=x:=by rw[ea,e];rfl
theorem asR{b d:Type}(q:b->Bool)(g:b->d)(fp:b)(a:List b):(((eB a.length).filter λi=>q (a.getD i fp)).map λi=>g (a.getD i fp))=(a.filter q).map g:=by
 have h:a=(eB a.length).map λi=>a.getD i fp:=by
  apply Dx
  .simp
  intro i c f;simp[ea,c]
 have e:(a.filter q).map g=(((eB a.length).map λi=>a.getD i fp).filter q).map g:=by rw[<-h]
 rw[e,It,hc];rfl
theorem range_getD{b d:Type}(g:b->d)(fp:b)(a:List b):((eB a.length).map λi=>g (a.getD i fp))=a.map g:=by
 apply Dx
 .simp
 intro i c f;simp only[bP,oO]at c;simp[ea,c]
theorem qb{n:Nat}(h:n<10 ^ 10):((n:Int)).natAbs.log2<1920:=by
 rw[acu];by_cases a:n=0
 .subst a;decide
 have:n.log2<40:=(Yp a).mpr (NS h (by decide));omega
end dR
namespace cw
open PySem
noncomputable def hsz(c:Int):Nat:=(1+c%8).toNat
noncomputable def fI(c:Int):Nat:=(c/8%(1+c%8)).toNat
noncomputable def jl(c:Int)(k j:Nat):Nat:=97+((c/64+5*(j:Int)*(j:Int)+2*(k:Int)*(if j=fI c then 1 else 0))%26).toNat
noncomputable def uI(c:Int)(k:Nat):List Nat:=(eB (hsz c)).map (jl c k)
noncomputable def uU(c:Int)(m:Nat):List b7:=(eB m).map (uI c)
theorem Zj(c:Int):1<=hsz c/\hsz c<=8:=by unfold hsz;omega
theorem ahm(c:Int):(1+c%8)=(hsz c:Int):=by unfold hsz;omega
theorem ajs(c:Int):fI c<hsz c:=by
 have a:0<1+c%8:=by omega
 have b:=pJ (c/8) a;have d:=n0 (c/8) (by omega:1+c%8≠0);unfold fI hsz;omega
theorem ahn(c:Int):c/8%(1+c%8)=(fI c:Int):=by have a:=n0 (c/8) (by omega:1+c%8≠0);unfold fI;omega
theorem ajt(c:Int)(k j:Nat):97<=jl c k j/\jl c k j<=122:=by unfold jl;omega
theorem aju(c:Int)(k:Nat):m7 (uI c k):=by have h:=Zj c;show#[by simp[uI];omega,by simp[uI];omega,λx a=>?_];obtain⟨j,_,rfl⟩:=cm.mp a;exact ajt c k j
theorem aho{c:Int}{k l:Nat}(d:k<13)(f:l<13)(e:uI c k=uI c l):k=l:=by
 have h:=ajs c;have a:(uI c k)[fI c]?=(uI c l)[fI c]?:=by rw[e]
 unfold uI at a;rw[dV,dV,adu h]at a;have b:jl c k (fI c)=jl c l (fI c):=by simpa using a
 unfold jl at b;rw[bS rfl]at b;generalize c/64+5*(fI c:Int)*(fI c:Int)=z at b;omega
theorem abx{k:Type}{f:Nat->k}{m:Nat}(h:∀i j,i<m->j<m->f i=f j->i=j):((eB m).map f).Nodup:=by refine DB.mpr ?_;refine List.Pairwise.imp_of_mem ?_ (NN (n:=m));intro a b d c g e;exact g (h a b (lp.mp d) (lp.mp c) e)
theorem acA{c:Int}{m:Nat}(h:m<=12):(uU c m).Nodup:=abx λi j b a e=>aho (by omega) (by omega) e
theorem TK(c:Int)(m:Nat):(uU c m).length=m:=by simp[uU]
end cw
namespace dR
open PySem ao b_ cw
inductive V'(vs:aO)(H:af)(Q:a4)(f':bY):Prop where
 |mk(c:Int)(m:Nat)(_:vs=[.int c,.int m])(_:m<=12)(_:∀(p:Addr)(H':af),H p=none->aB H H'->H' p=some (.lst (cN (uU c m)))->Q (.ref p) H')
theorem abz{c:Int}{m:Nat}(h:m<=12):Good (uU c m):=#[λx a=>by
 obtain⟨k,_,rfl⟩:=cm.mp a;exact aju c k,acA h,by rw[TK];exact h]
noncomputable def Aj(c:Int)(k j:Nat):Int:=c/64+5*(0+(j:Int))*(0+(j:Int))+2*(0+(k:Int))*(if decide (V.int (0+(j:Int))=V.int (c/8%(1+c%8)))=true then 1 else 0)
theorem akE(c:Int)(k j:Nat):97+(Aj c k j%26).toNat=jl c k j:=by
 unfold Aj jl;rw[ahn c];by_cases h:j=fI c
 .subst h;rw[bS rfl,bS (cE (by rw[pK])),pK,pK]
 rw[bx h,bx (by rw[dt (λz=>h (by have:=V.int.inj z;omega))];exact ha),pK,pK]
theorem Ŷ{a:Type}(f:Nat->a)(n:Nat):(eB (n+1)).map f=(eB n).map f++[f n]:=by rw[z9,eK];rfl
section
variable{P:cx}{w:bf}{K:aN}{mg:cb}{base:Heap}
noncomputable abbrev Ln:Stmt:=top 122
theorem alZ:cI z_ z_ (b5 Ln):={}
theorem akF{f:Addr}(F:cj K "_law_cell_at" "_law_cell_at" Ln f fd)(len:mg "len"=none):aD P w K mg base a3 1 f fd z_ (φ K):=by
 refine F.ok alZ (λ_ A _ s H vs Q E l h=>?_);obtain⟨a,d,k,rfl,c,g,q⟩:=h;show#[_,a6 (d8 (eN zR (ae 1) (eD kN len PySem.boot_len (ak (ae 0) aA)) (ek _)) (a7 (cd (b8 eO (ae 0) (ae 1)))) ed) (a7 (cd aZ)),?_];show#[_,rfl,_,rfl,a,_,rfl,.inl c,_,_,rfl,rfl,_,rfl,?_];refine alQ (λh=>?_) (λh=>?_)
 .have b:=nK h;show#[_,rfl,_,rfl,a,_,k,_,rfl,rfl,c,ahR g b,q]
 have b:¬k<((d.map V.int).length:Int):=λz=>h (cE z);rw[bP]at b;have e:d.getD k.toNat 0=0:=by rw[ea,List.getElem?_eq_none (by omega)];rfl
 rw[e]at q;exact q
noncomputable abbrev L0:Stmt:=top 123
noncomputable abbrev agp:List Str:=["_law_cell","_law_many","_law_letters","_law_size","_law_at","_law_names","_law_k","_law_name","_law_j","_law_place"]
theorem sR:cI agp DH (b5 L0):={}
theorem acB{f:Addr}(F:cj K "_law_houses" "_law_houses" L0 f fd)(B:ft mg):aD P w K mg base a3 1 f fd DH V':=by
 refine F.ok sR (λ_ A _ s H vs Q E i h=>?_);obtain⟨c,m,rfl,C,q⟩:=h;show#[_,(a6 (dO 2 sR.aI cn)
  (a6 (dO 3 sR.aI (bO jj aZ (bO h_ (ae 0) aZ)))
  (a6 (dO 4 sR.aI (bO h_ (bO kS (ae 0) aZ) (ae 3)))
  (a6 (dO 5 sR.aI (g7 aA))
  (a6 (lD lW rfl (FQ rfl B.range (ak (ae 1) aA)) (fG 6 sR.aI)
   (a6 (dO 7 sR.aI cn)
  (a6 (lD lW rfl (FQ rfl B.range (ak (ae 3) aA)) (fG 8 sR.aI)
   (a6 (dO 9 sR.aI (bO jj (bO jj (bO kS (ae 0) aZ) (bO wO (bO wO aZ (ae 8)) (ae 8))) (bO wO (bO wO aZ (ae 6)) (hC VN B.int HH (ak (o3 kV (ae 8) (ae 4) (ek _)) aA)))))
  (a7 (dO 7 sR.aI (bO fX (ae 7) (b8 Y1 (ae 2) (bO h_ (ae 9) aZ)))))))
  (a7 (hj (oz t_ xO xP uR (ae 5) (ak (ae 7) aA)))))))
  (a7 (cd (ae 5)))))))),?_]
 try dsimp only[cT,cS]
 have V:=Zj c;have N:=ahm c;show#[_,rfl,_,_,rfl,rfl,(by show(0:Int)<8;decide),_,_,rfl,rfl,?_];show#[_,rfl,_,_,rfl,rfl,#[by decide,by decide],_,rfl,_,_,rfl,rfl,(by show(0:Int)<1+c%8;omega),?_];show#[e4 _,λp y=>#[_,rfl,_,rfl,(by omega),(by omega),?_]];refine UP (lo:=0) (n:=m) (λk U l=>l=upd H p (.lst (cN (uU c k)))/\∃d g a b,U=[some (.int c),some (.int m),some (.str (bc "abcdefghijklmnopqrstuvwxyz")),some (.int (1+c%8)),some (.int (c/8%(1+c%8))),some (.ref p),d,g,a,b]) #[rfl,none,none,none,none,rfl] ?_ ?_
 .rintro k U l e ⟨rfl,d,g,a,b,rfl⟩;show#[_,rfl,_,rfl,(by omega),(by omega),?_];refine UP (lo:=0) (n:=hsz c) (λj U o=>o=upd H p (.lst (cN (uU c k)))/\∃t r,U=[some (.int c),some (.int m),some (.str (bc "abcdefghijklmnopqrstuvwxyz")),some (.int (1+c%8)),some (.int (c/8%(1+c%8))),some (.ref p),some (.int (0+(k:Int))),some (.str (S ((eB j).map (jl c k)))),t,r]) #[rfl,a,b,rfl] ?_ ?_
  .rintro j U o u ⟨rfl,t,r,rfl⟩;show#[_,rfl,_,_,rfl,rfl,#[by decide,by decide],_,rfl,_,_,rfl,rfl,.inl #[by decide,by decide],_,rfl,_,_,rfl,rfl,.inr #[by show -(2 ^ 64)<0+(j:Int);omega,by show 0+(j:Int)<2 ^ 64;omega],_,_,rfl,rfl,_,rfl,_,_,rfl,rfl,.inl #[by decide,by decide],_,rfl,_,rfl,rfl,.inr #[_,rfl,_,_,rfl,rfl,.inl #[by show -(2 ^ 64)<2*(0+(k:Int));omega,by show 2*(0+(k:Int))<2 ^ 64;omega],_,_,rfl,rfl,?_]];have z:0<=Aj c k j%26:=n0 _ (by decide);have L:Aj c k j%26<26:=pJ _ (by decide);have x:(⟨#[97+(Aj c k j%26).toNat]⟩:Str).length=1:=rfl;show#[_,rfl,_,rfl,_,rfl,_,_,rfl,rfl,(by show(0:Int)<26;decide),_,_,_,rfl,rfl,(by decide+kernel),agb z L,_,_,rfl,rfl,?_,rfl,some (.int (0+(j:Int))),some (.int (Aj c k j)),?_]
   .rw[d6,bP,oO];show j+1<=sizeLine;exact mi (e' (by omega))
   rw[Ŷ,<-mM,<-akE];rfl
  rintro U o ⟨rfl,t,r,rfl⟩;show#[_,rfl,.inl #[rfl,_,aQ.of aK],_,rfl,p,_,_,rfl,rfl,aK,e' (by rw[o6,TK];omega),?_,_,_,_,_,rfl];rw[y9];unfold uU;rw[Ŷ];unfold cN;rw[eK];rfl
 rintro U l ⟨rfl,d,g,a,b,rfl⟩;show#[_,rfl,q p _ y (bF y) aK]
end
end dR
namespace cw
noncomputable def lQ(c:Int):Int:=c*1099087573%10000000000037
noncomputable def oD(n:Nat)(c:Int):Int:=lQ c%n
noncomputable def s7(n:Nat)(c:Int):Int:=(oD n c+1+lQ c/n%((n:Int)-1))%n
noncomputable def u5(c:Int):Int:=if lQ c/27000%5=0 then 1+lQ c/135000%10 ^ 9 else 1+lQ c/9000%3
noncomputable def KC(n:Nat)(c:Int):fD:=#[(oD n c).toNat,(s7 n c).toNat,1+lQ c/1000%9,u5 c]
theorem ajv{n:Nat}(h:1<n)(c:Int):(KC n c).Ok n:=by
 have t:0<=oD n c:=n0 _ (by omega);have p:oD n c<n:=pJ _ (by omega);have o:0<=s7 n c:=n0 _ (by omega);have l:s7 n c<n:=pJ _ (by omega);have f:0<=lQ c/n%((n:Int)-1):=n0 _ (by omega);have d:lQ c/n%((n:Int)-1)<(n:Int)-1:=pJ _ (by omega);have w:oD n c≠s7 n c:=by
  intro z;have b:s7 n c=(oD n c+1+lQ c/n%((n:Int)-1))%n:=rfl;generalize lQ c/n%((n:Int)-1)=x at f d b;by_cases g:oD n c+1+x<n
  .rw[acr (by omega) g]at b;omega
  have k:(oD n c+1+x)%(n:Int)=(oD n c+1+x-n)%(n:Int):=by rw[Int.sub_emod_right]
  rw[k,acr (by omega) (by omega)]at b;omega
 have y:0<=lQ c/1000%9:=n0 _ (by decide);have r:lQ c/1000%9<9:=pJ _ (by decide);have m:1<=u5 c/\u5 c<=1000000000:=by
  unfold u5;split
  .have a:(10:Int) ^ 9=1000000000:=by decide
   rw[a];omega
  omega
 show#[by show(oD n c).toNat < n;omega,by show(s7 n c).toNat < n;omega,by show(oD n c).toNat≠(s7 n c).toNat;omega,by show 1<=1+_/\1+_<=9;omega,m]
end cw
namespace dR
open PySem ao b_ cw
inductive Z4(vs:aO)(H:af)(Q:a4)(f':bY):Prop where
 |mk(c:Int)(a:Addr)(hs:bt)(_:vs=[.int c,.ref a])(_:H a=some (.lst (cN hs)))(_:2<=hs.length)(_:hs.length<=12)(_:∀r,H r=none->Q (.ref r) (upd H r (.tup (gY hs (KC hs.length c)))))
theorem GV{t:fO}{D:Ends}(P:Ends->Prop)(b:P D)(c:∀a,P a->t a U H):t D U H:=c D b
section
variable{P:cx}{w:bf}{K:aN}{mg:cb}{base:Heap}
noncomputable abbrev IS:Stmt:=top 124
noncomputable abbrev al0:List Str:=["_law_cell","_law_names","_law_n","_law_many","_law_first","_law_last","_law_room"]
theorem zF:cI al0 xE (b5 IS):={}
theorem ajw{f:Addr}(F:cj K "_law_road" "_law_road" IS f fd)(B:ft mg):aD P w K mg base a3 1 f fd xE Z4:=by
 refine F.ok zF (λ_ A _ s H vs Q E N h=>?_);obtain⟨c,a,b,rfl,k,L,e,q⟩:=h;show#[_,(a6 (dO 2 zF.aI (bO h_ (bO wO (ae 0) aZ) aZ))
  (a6 (dO 3 zF.aI (eD kN B.len jI (ak (ae 1) aA)))
  (a6 (dO 4 zF.aI (bO h_ (ae 2) (ae 3)))
  (a6 (dO 5 zF.aI (bO h_ (bO jj (bO jj (ae 4) aZ) (bO h_ (bO kS (ae 2) (ae 3)) (bO Hj (ae 3) aZ))) (ae 3)))
  (a6 (dO 6 zF.aI (bO jj aZ (bO h_ (bO kS (ae 2) aZ) aZ)))
  (a6 (d8 (eN kV (bO h_ (bO kS (ae 2) aZ) aZ) aZ (ek _)) (a7 (dO 6 zF.aI (bO jj aZ (bO h_ (bO kS (ae 2) aZ) (bO YD aZ aZ))))) ed)
  (a7 (cd (rE (ak (b8 eO (ae 1) (ae 4)) (ak (b8 eO (ae 1) (ae 5)) (ak (bO jj aZ (bO h_ (bO kS (ae 2) aZ) aZ)) (ak (ae 6) aA))))))))))))),?_]
 try dsimp only[cT,cS]
 have p:=o6 b;have y:0<=oD b.length c:=n0 _ (by omega);have r:oD b.length c<b.length:=pJ _ (by omega);have o:0<=s7 b.length c:=n0 _ (by omega);have n:s7 b.length c<b.length:=pJ _ (by omega);show#[_,rfl,_,_,rfl,rfl,.inr #[by decide,by decide],_,_,rfl,rfl,(by show(0:Int)<10000000000037;decide),?_];show#[_,rfl,a,_,rfl,.inl (aQ.of k),?_];rw[p];show#[_,rfl,_,rfl,_,_,rfl,rfl,(by show(0:Int)<(b.length:Int);omega),?_];show#[_,rfl,_,_,rfl,rfl,_,rfl,_,rfl,_,_,rfl,rfl,#[by show(0:Int)<(b.length:Int);omega,by show(b.length:Int)<1073741824;omega],_,rfl,_,_,rfl,rfl,_,_,rfl,rfl,(by show(0:Int)<(b.length:Int)-1;omega),_,_,rfl,rfl,_,rfl,_,_,rfl,rfl,(by show(0:Int)<(b.length:Int);omega),?_];show#[_,rfl,_,_,rfl,rfl,#[by decide,by decide],_,_,rfl,rfl,(by show(0:Int)<3;decide),_,_,rfl,rfl,?_];dsimp only[iL,gN];refine GV (t:=xn _ _ _) (λm=>m.di [some (.int c),some (.ref a),some (.int (lQ c)),some (.int b.length),some (.int (oD b.length c)),some (.int (s7 b.length c)),some (.int (u5 c))] H) ?_ λm d=>?_
 .show#[_,rfl,_,rfl,a,_,_,_,rfl,rfl,aQ.of k,Za y r,_,rfl,_,rfl,a,_,_,_,rfl,rfl,aQ.of k,Za o n,_,rfl,_,_,rfl,rfl,#[by decide,by decide],_,_,rfl,rfl,(by show(0:Int)<9;decide),_,_,rfl,rfl,_,rfl,(by show 4<=sizeLine;decide),q]
 show#[_,rfl,_,_,rfl,rfl,#[by decide,by decide],_,_,rfl,rfl,(by show(0:Int)<5;decide),rfl,_,rfl,?_];by_cases g:lQ c/27000%5=0
 .refine eQ (by show decide (V.int (lQ c/27000%5)=V.int 0)=true;rw[g];decide) ?_;show#[_,rfl,_,_,rfl,rfl,#[by decide,by decide],_,_,rfl,rfl,#[by decide,by decide,by decide],_,_,rfl,rfl,(by show(0:Int)<10 ^ (9:Int).toNat;decide),_,_,rfl,rfl,?_];have l:u5 c=1+lQ c/135000%10 ^ (9:Int).toNat:=by unfold u5;rw[bS g];rfl
  rw[l]at d;exact d
 refine dA (by show decide (V.int (lQ c/27000%5)=V.int 0)=false;exact dt λz=>g (V.int.inj z)) ?_;have l:u5 c=1+lQ c/9000%3:=by unfold u5;rw[bx g]
 rw[l]at d;exact d
noncomputable abbrev HC:Stmt:=top 15
noncomputable abbrev GW:Stmt:=top 16
noncomputable abbrev Hf:Stmt:=top 17
noncomputable abbrev Cx:Stmt:=top 19
noncomputable abbrev Ih:Stmt:=top 51
noncomputable abbrev C9:Stmt:=top 52
noncomputable abbrev Ii:Stmt:=top 53
noncomputable abbrev Dk:Stmt:=top 54
theorem ahp:cI n6 n6 (b5 HC):={}
theorem agr:cI vF vF (b5 GW):={}
theorem ahq:cI vI vI (b5 Hf):={}
theorem ags:cI sf sf (b5 Cx):={}
theorem ajL:cI n6 n6 (b5 Ih):={}
theorem ajM:cI vK vK (b5 C9):={}
theorem ajN:cI pP pP (b5 Ii):={}
theorem ajO:cI vH vH (b5 Dk):={}
noncomputable abbrev w5:Stmt:=fS (top 57) 0
noncomputable abbrev wB:Stmt:=fS (top 57) 1
noncomputable abbrev Cy:Stmt:=fS (top 57) 2
theorem Zk:cI oP oP (b5 w5):={}
theorem aeB:cI cG cG (b5 wB):={}
theorem agt:cI cG cG (b5 Cy):={}
theorem acC{f:Addr}(F:cj K "houses" "Net.houses" wB f fd)(B:ft mg)(a:tU K C):aD P w K mg base a3 1 f fd cG (BS C):=by
 refine F.ok aeB (λ_ A _ s H vs Q E g h=>?_);obtain⟨x,b,k,l,m,rfl,n,q⟩:=h;obtain⟨c,d⟩:=n.ins;show#[_,(a7 (cd (hC Br B.list wL (ak (d5 (ae 0)) aA)))),?_]
 try dsimp only[cT,cS]
 show#[_,rfl,x,C,c,_,_,rfl,d,a.cl,a.s8,rfl,b,_,rfl,.inl (aQ.of n.jL),q]
theorem aeC{f:Addr}(F:cj K "roads" "Net.roads" Cy f fd)(B:ft mg)(a:tU K C):aD P w K mg base a3 1 f fd cG (LW C):=by
 refine F.ok agt (λ_ A _ s H vs Q E k h=>?_);obtain⟨x,g,d,l,m,rfl,n,q⟩:=h;obtain⟨b,c⟩:=n.ins;show#[_,(a7 (cd (hC Br B.list wL (ak (d5 (ae 0)) aA)))),?_]
 try dsimp only[cT,cS]
 show#[_,rfl,x,C,b,_,_,rfl,c,a.cl,a.iP,rfl,d,_,rfl,.inl (aQ.of n.ky),q]
theorem GP(i j:Int):decide (V.int i=V.int j)=decide (i=j):=by
 by_cases h:i=j
 .rw[cE h,cE (fa V.int h)]
 rw[dt h,dt λz=>h (V.int.inj z)]
noncomputable def al1(n:Int):PyData->Bool
 |.tuple ds=>decide ((ds.length:Int)=n)
 |_=>false
inductive WM(vs:aO)(H:af)(Q:a4)(f':bY):Prop where
 |mk(v:ao.V)(d:PyData)(_:vs=[v])(_:c7 H v d)(_:Q (.aV (afN d)) H)
inductive U0(vs:aO)(H:af)(Q:a4)(f':bY):Prop where
 |mk(v:ao.V)(d:PyData)(lo hi:Int)(_:vs=[v,.int lo,.int hi])(_:c7 H v d)(_:Q (.aV (s5 lo hi d)) H)
inductive Vw(vs:aO)(H:af)(Q:a4)(f':bY):Prop where
 |mk(v:ao.V)(d:PyData)(n:Int)(_:vs=[v,.int n])(_:c7 H v d)(_:Q (.aV (al1 n d)) H)
inductive LJ(vs:aO)(H:af)(Q:a4)(f':bY):Prop where
 |mk(a:Addr)(hs:fW)(v u:ao.V)(d e:PyData)(_:vs=[.ref a,v,u])(_:c7 H (.ref a) (.list hs))(_:c7 H v d)(_:c7 H u e)(_:d.depth<=60)(_:e.depth<=60)(_:Q (.aV (iI hs d e)) H)
inductive XJ(vs:aO)(H:af)(Q:a4)(f':bY):Prop where
 |mk(v:ao.V)(d:PyData)(_:vs=[v])(_:c7 H v d)(_:∀H',aB H H'->Q (.aV (o7 d)) H')
inductive ME(vs:aO)(H:af)(Q:a4)(f':bY):Prop where
 |mk(v:ao.V)(d:PyData)(_:vs=[v])(_:c7 H v d)(_:∀H',aB H H'->Q (.aV (wq d)) H')
inductive XK(vs:aO)(H:af)(Q:a4)(f':bY):Prop where
 |mk(a:Addr)(hs:fW)(v:ao.V)(d:PyData)(_:vs=[.ref a,v])(_:c7 H (.ref a) (.list hs))(_:c7 H v d)(_:d.depth<=61)(_:Q (.aV (rr hs d)) H)
inductive MT(vs:aO)(H:af)(Q:a4)(f':bY):Prop where
 |mk(a:Addr)(hs:fW)(v:ao.V)(d:PyData)(_:vs=[.ref a,v])(_:c7 H (.ref a) (.list hs))(_:c7 H v d)(_:d.depth<=62)(_:∀H',aB H H'->Q (.aV (LY hs d)) H')
theorem arW:bc "a"=⟨#[97]⟩:=by decide+kernel
theorem arY:bc "z"=⟨#[122]⟩:=by decide+kernel
theorem B5{ds:fW}{d:PyData}(h:d∈ds):d.depth<=qI ds:=by
 induction ds with
 |nil=>cases h
 |cons x r e=>
  simp only[qI];rcases dr.mp h with rfl|h
  .exact Nat.le_max_left _ _
  exact dX (e h) (Nat.le_max_right _ _)
theorem aeD{f:Addr}(F:cj K "is_whole" "is_whole" HC f fd)(B:ft mg):aD P w K mg base a3 1 f fd n6 WM:=by
 refine F.ok ahp (λ_ A _ s H vs Q E a h=>?_);obtain⟨v,d,rfl,h,q⟩:=h;show#[_,(a7 (cd (o9 (eD yV B.isinstance kh (ak (ae 0) (ak (wR (by rfl) B.int HH) aA))) (ta (ai8 (eD yV B.isinstance kh (ak (ae 0) (ak (wR (by rfl) B.bool ahQ) aA)))))))),?_]
 try dsimp only[cT,cS]
 show#[_,rfl,_,_,_,_,_,rfl,#[rfl,h.ty,w8 K (aiX d)],_,rfl,?_];cases d with
 |int i=>exact hU #[_,rfl,_,_,_,_,_,rfl,#[rfl,h.ty,w8 K (Xo _)],_,rfl,q]
 |bool b=>exact hU #[_,rfl,_,_,_,_,_,rfl,#[rfl,h.ty,w8 K (Xo _)],_,rfl,q]
 |_=>exact fR q
theorem aco{f:Addr}(F:cj K "is_whole_within" "is_whole_within" GW f fd)(c:cu K mg "is_whole" HC n6 e j)(b:aD P w K mg base a3 1 e j n6 WM):aD P w K mg base a3 2 f fd vF U0:=by
 refine F.ok agr (λ_ A _ s H vs Q E g h=>?_);obtain⟨v,d,lo,k,rfl,h,q⟩:=h;show#[_,(a7 (cd (o9 (d9 b c g.mono b0 (ak (ae 0) aA)) (ta (VA rK rK (ae 1) (ae 0) (ae 2)))))),?_]
 try dsimp only[cT,cS]
 show#[_,rfl,v,d,rfl,h,_,rfl,?_];cases h with
 |int i=>
  have q:Q (.aV (decide (lo<=i)&&decide (i<=k))) H:=q;refine hU #[_,rfl,_,rfl,_,_,rfl,rfl,_,rfl,?_];by_cases a:lo<=i
  .rw[cE a,qB]at q;exact eQ (cE a) #[_,rfl,_,_,rfl,rfl,q]
  rw[dt a,vk]at q;exact dA (dt a) q
 |_=>exact fR q
theorem aeE{f:Addr}(F:cj K "is_tuple_of" "is_tuple_of" Hf f fd)(B:ft mg):aD P w K mg base a3 1 f fd vI Vw:=by
 refine F.ok ahq (λ_ A _ s H vs Q E b h=>?_);obtain⟨v,d,n,rfl,h,q⟩:=h;show#[_,(a7 (cd (o9 (eD yV B.isinstance kh (ak (ae 0) (ak (wR (by rfl) B.tuple Vs) aA))) (ta (o3 kV (eD kN B.len jI (ak (ae 0) aA)) (ae 1) (ek _)))))),?_]
 try dsimp only[cT,cS]
 show#[_,rfl,_,_,_,_,_,rfl,#[rfl,h.ty,w8 K (afM d)],_,rfl,?_];cases h with
 |@tup a xs ds az z t=>
  refine hU #[_,rfl,a,_,rfl,.inr (cV.of az),_,rfl,rfl,?_];show Q (.aV (decide (V.int (xs.length:Int)=V.int n))) H;rw[GP,t.len];exact q
 |_=>exact fR q
theorem acR{f:Addr}(F:cj K "are_unlike_houses" "are_unlike_houses" Cx f fd):aD P w K mg base a3 1 f fd sf LJ:=by
 refine F.ok ags (λ_ A _ s H vs Q E c h=>?_);obtain⟨a,b,v,u,d,e,rfl,g,k,l,r,p,q⟩:=h;show#[_,(a7 (cd (o9 (o3 (Y_ (υ c)) (ae 1) (ae 0) (by rfl)) (o9 (o3 (Y_ (υ c)) (ae 2) (ae 0) (by rfl)) (ta (o3 (CI c.units) (ae 1) (ae 2) (ek _))))))),?_]
 try dsimp only[cT,cS]
 have o:xM b=true:=g.q4;have n:ud d=true:=V3 k.q4 r (by decide);have m:ud e=true:=V3 l.q4 p (by decide);have q:Q (.aV (inD d b&&inD e b&&!jz d e)) H:=q;show#[_,rfl,_,rfl,d,b,k.oT,g.oT,n,o,_,rfl,?_];show if inD d b=true then _ else _
 cases ah:inD d b with
 |false=>
  rw[ah]at q;exact fR q
 |true=>
  rw[ah]at q;refine hU #[_,rfl,_,rfl,e,b,l.oT,g.oT,m,o,_,rfl,?_];show if inD e b=true then _ else _
  cases aj:inD e b with
  |false=>
   rw[aj]at q;exact fR q
  |true=>
   rw[aj]at q;exact hU #[_,rfl,_,rfl,d,e,k.oT,l.oT,n,m,q]
theorem agu{f:Addr}(F:cj K "is_name" "is_name" Ih f fd)(B:ft mg)(j:D2 mg):aD P w K mg base a3 1 f fd n6 XJ:=by
 refine F.ok ajL (λ_ A _ s H vs Q E G h=>?_);obtain⟨v,d,rfl,h,q⟩:=h;show#[_,(a6 (d8 (kJ.pt (zO (j0 (kU (eD yV B.isinstance kh (ak (ae 0) (ak (wR (by rfl) B.str j1) aA))))) (CF (j0 (Gd rK rK aZ (eD Tw B.len jI (ak (ae 0) aA)) (uP (by rfl) j.adY)))))) (a7 (cd iK)) ed)
  (a7 (cd (eD (LV rfl) B.Jr HG (ak (tl (N':=["sign"]) (cs:=[none]) rfl (Y9 (ae 0)) rfl (by decide+kernel) rfl (by decide+kernel) (lE (λp t=>bG t (e3))) rfl
   (.own .nil)
   (λC M O U X=>#[(fG 0 (by show(["sign"]:cK).Nodup;decide+kernel)),o5,(VA LA LA cn (ae 0) cn)])) aA))))),?_]
 try dsimp only[cT,cS]
 show#[_,rfl,_,_,_,_,_,rfl,#[rfl,h.ty,w8 K (aiW d)],_,rfl,?_];cases h with
 |str x z ok=>
  have q:∀H',aB H H'->Q (.aV (decide (1<=x.length)&&decide (x.length<=8)&&x.cps.toList.all xq)) H':=q;refine fR #[_,rfl,_,rfl,mi (e' (by omega)),_,_,rfl,rfl,_,rfl,?_];by_cases m:1<=x.length
  .refine eQ (cE (by omega)) #[_,_,rfl,rfl,_,rfl,?_];by_cases o:x.length<=8
   .have g:(x.length:Int)<=8:=by omega
    refine C' g ?_;rw[cE m,cE o]at q;dsimp only[zG,xm,Ia,w1,pb];refine Cw (J:=Dv x) (H1:=H) (xs:=signs x) (rest:=[]) (λR h=>#[_,rfl,_,rfl,h]) rfl (Y8 _) (e' ?_) (λv=>.aV (match v with|.str y=>xq (y.cps.toList.getD 0 0)|_=>false)) (λi v b R N I a=>?_) (λD H' T L V=>?_)
    .have:(signs x).length=x.cps.size:=by simp[signs]
     rw[this];exact dX z (by decide)
    .obtain⟨k,u,rfl⟩:=cm.mp (fC N);have a:∀n,aB b n->R (.aV (decide (97<=k)&&decide (k<=122))) n:=a;have l:(!decide ((⟨#[k]⟩:Str).cps.toList<(bc "a").cps.toList))=decide (97<=k):=by rw[arW];exact HF k 97
     have r:(!decide ((bc "z").cps.toList<(⟨#[k]⟩:Str).cps.toList))=decide (k<=122):=by rw[arY];exact HF 122 k
     show#[_,rfl,_,_,rfl,rfl,_,rfl,?_];by_cases c:97<=k
     .rw[cE c,qB]at a;refine eQ (l.trans (cE c)) #[_,_,rfl,rfl,?_];show R (.aV (!decide ((bc "z").cps.toList<(⟨#[k]⟩:Str).cps.toList))) b;rw[r];exact a b (aB.refl _)
     rw[dt c,vk]at a;exact dA (l.trans (dt c)) (a b (aB.refl _))
    show#[D,x.cps.toList.map xq,rfl,aQ.of (L.trans ?_),?_]
    .unfold signs;rw[hc,hc];rfl
    have e:(x.cps.toList.map xq).all id=x.cps.toList.all xq:=by rw[X0];rfl
    rw[e];exact q H' V
   have g:¬(x.length:Int)<=8:=by omega
   refine eQ (by rw[dt g];rfl) ?_;rw[dt o,abj,vk]at q;exact q H (aB.refl _)
  refine dA (dt (by omega)) #[_,rfl,hU ?_];rw[dt m,vk,vk]at q;exact q H (aB.refl _)
 |_=>exact hU (q H (aB.refl _))
theorem aaW:∀{c:aO}{ds:fW},eC H c ds->ds.all o7=true->c=(jJ ds).map V.str/\(jJ ds).length=ds.length
 |_,_,.nil,_=>#[rfl,rfl]
 |_,_,.cons (v:=v) (d:=d) a b,h=>by
  rw[XZ,i']at h;obtain⟨g,f⟩:=aaW b h.2;cases a with
  |str x z ok=>
   simp only[jJ,jd,gC];rw[<-g,f];show#[rfl,rfl]
  |b3=>cases h.1
  |aV b=>cases h.1
  |int i=>cases h.1
  |lst _ _ _=>cases h.1
  |tup _ _ _=>cases h.1
theorem aeF(a:cK):decide (V.int ((lP (λi=>a.getD i m_) a.length:Nat):Int)=V.int (a.length:Int))=decide a.Nodup:=by
 rw[GP];by_cases h:a.Nodup
 .have e:=WB (λi=>a.getD i m_) a.length λi j d b z=>by
   have c:i<a.length:=by omega
   have f:a.getD i m_=a.getD j m_:=z;rw[ea,ea,dw c,dw b]at f;exact Ya.mp h i j c b d f
  rw[e,cE h,cE rfl]
 have e:lP (λi=>a.getD i m_) a.length<a.length:=by
  have k:∃i j,∃(c:i<a.length)(b:j<a.length),i<j/\a[i]=a[j]:=by refine Wo λg=>h (Ya.mpr λi j c b d z=>g #[i,j,c,b,d,z])
  obtain⟨i,j,c,b,d,z⟩:=k;refine VU _ _ i j d b ?_;show a.getD i m_=a.getD j m_;rw[ea,ea,dw c,dw b,z]
 rw[dt h,dt (by omega)]
theorem agv{f:Addr}(F:cj K "are_houses" "are_houses" C9 f fd)(B:ft mg)(Y:D2 mg)(L:cu K mg "is_name" Ih n6 j u)(k:aD P w K mg base a3 1 j u n6 XJ):
  aD P w K mg base a3 2 f fd vK ME:=by
 refine F.ok ajM (λ_ A _ s H vs Q E I h=>?_);obtain⟨v,d,rfl,h,q⟩:=h;show#[_,(a6 (d8 (kJ.pt (zO (j0 (kU (eD yV B.isinstance kh (ak (ae 0) (ak (wR (by rfl) B.list wL) aA))))) (CF (eN zI (eD kN B.len jI (ak (ae 0) aA)) (uP (by rfl) Y.adU) (ek _))))) (a7 (cd iK)) ed)
  (a7 (cd (o9 (eD (LV rfl) B.Jr HG (ak (tl (N':=n6) (cs:=[none]) rfl (jE (ae 0)) rfl (by decide+kernel) rfl (by decide+kernel) (lE (λp g=>bG g (e3))) rfl
   (.own .nil)
   (λC bp bz dc fA=>#[(fG 0 (by show(n6:cK).Nodup;decide+kernel)),o5,(d9 k L I.mono b0 (ak (ae 0) aA))])) aA)) (ta (o3 kV (eD atp B.len jI (ak (hC (af0 rfl) B.ar4 aiV (ak (ae 0) aA)) aA)) (eD kN B.len jI (ak (ae 0) aA)) (ek _))))))),?_]
 try dsimp only[cT,cS]
 show#[_,rfl,_,_,_,_,_,rfl,#[rfl,h.ty,w8 K (Xn d)],_,rfl,?_];cases h with
 |@lst a xs ds az z t=>
  have ax:=t.len;have q:∀H',aB H H'->Q (.aV (decide (ds.length<=12)&&ds.all o7&&decide (jJ ds).Nodup)) H':=q;refine fR #[_,rfl,a,_,rfl,.inl (aQ.of az),_,_,rfl,rfl,_,rfl,?_];by_cases o:ds.length<=12
  .rw[cE o,qB]at q;refine dA (dt (by omega)) ?_;dsimp only[zG,xm,Ia,w1,pb];refine Cw (J:=n2 K a) (H1:=H) (xs:=xs) (rest:=[]) (λR h=>#[_,rfl,a,rfl,#[_,aQ.of az],h]) rfl (s4 (aQ.of az)) (e' (by omega)) (λv=>.aV (o7 (um H v))) (λi x N R m M c=>?_) (λD H' Z G l=>?_)
   .obtain⟨d,cF,n⟩:=t.get m;have c:∀b,aB N b->R (.aV (o7 (um H x))) b:=c;rw[Gh n]at c;show#[_,rfl,x,d,rfl,n.same M,λb O=>c b O]
   have U:(ds.map o7).all id=ds.all o7:=by rw[X0];rfl
   show#[D,ds.map o7,rfl,aQ.of (G.trans (by rw[ww o7 t])),_,rfl,?_];rw[U];cases e:ds.all o7 with
   |false=>
    rw[e]at q;exact fR (q H' l)
   |true=>
    rw[e,qB]at q;obtain⟨m,gV⟩:=aaW t e;have y:H' a=some (.lst ((jJ ds).map V.str)):=by rw[<-m];exact l _ _ az
    refine hU #[_,rfl,a,jJ ds,rfl,aQ.of y,(by omega),λp g=>?_];have r:aB H' (upd H' p (IV P w p (lP (λi=>(jJ ds).getD i m_) (jJ ds).length))):=bF g;show#[p,_,rfl,aK,_,rfl,a,_,rfl,.inl (aQ.of (r _ _ y)),rfl,?_];have T:=aeF (jJ ds);have X:((jJ ds).map V.str).length=(jJ ds).length:=bP ..;rw[<-T]at q;rw[X];exact q _ (l.trans r)
  rw[dt o,vk,vk]at q;exact eQ (cE (by omega)) (q H (aB.refl _))
 |_=>exact hU (q H (aB.refl _))
theorem acS{ds:fW}(h:ds.length≠4):rr hs (.tuple ds)=false:=by rcases ds with _|⟨a,_|⟨b,_|⟨c,_|⟨d,_|⟨e,r⟩⟩⟩⟩⟩<;>first|rfl|(simp at h)
theorem agw{f:Addr}(F:cj K "is_road" "is_road" Ii f fd)(j:D2 mg)(U:cu K mg "is_tuple_of" Hf vI f1 D)(B:aD P w K mg base a3 1 f1 D vI Vw)(R:cu K mg "are_unlike_houses" Cx sf f2 I)(x:aD P w K mg base a3 1 f2 I sf LJ)(u:cu K mg "is_whole_within" GW vF cP M)(N:aD P w K mg base a3 2 cP M vF U0):
  aD P w K mg base a3 3 f fd pP XK:=by
 refine F.ok ajN (λ_ A _ s H vs Q E m h=>?_);obtain⟨a,o,v,d,rfl,C,h,G,q⟩:=h;show#[_,(a7 (cd (o9 (d9 B U m.mono b0 (ak (ae 1) (ak aZ aA))) (o9 (d9 x R m.mono b0 (ak (ae 0) (ak (b8 eH (ae 1) aZ) (ak (b8 eH (ae 1) aZ) aA)))) (o9 (d9 N u m.mono b0 (ak (b8 eH (ae 1) aZ) (ak aZ (ak (uP (by rfl) j.adZ) aA)))) (ta (d9 N u m.mono b0 (ak (b8 eH (ae 1) aZ) (ak aZ (ak (uP (by rfl) j.adX) aA)))))))))),?_]
 try dsimp only[cT,cS]
 show#[_,rfl,v,d,_,rfl,h,_,rfl,?_];cases h with
 |@tup r xs ds i z t=>
  show if decide ((ds.length:Int)=4)=true then _ else _
  by_cases V:ds.length=4
  .refine eQ (cE (by omega)) ?_;have T:xs.length=4:=by rw[t.len];exact V
   obtain⟨L,n,p,y,rfl⟩:∃L n p y,xs=[L,n,p,y]:=by rcases xs with _|⟨a,_|⟨b,_|⟨c,_|⟨d,_|⟨e,r⟩⟩⟩⟩⟩<;>first|exact⟨_,_,_,_,rfl⟩|(simp at T)
   cases t with
   |cons t0 t=>
    cases t with
    |cons t1 t=>
     cases t with
     |cons gP t=>
      cases t with
      |cons t3 t=>
       cases t;rename_i fp g k l;have q:Q (.aV (iI o fp g&&s5 1 9 k&&s5 1 1000000000 l)) H:=q;have X:qI [fp,g,k,l]+1<=61:=G;have O:fp.depth<=60:=dX (B5 (by simp:fp∈[fp,g,k,l])) (by omega);have J:g.depth<=60:=dX (B5 (by simp:g∈[fp,g,k,l])) (by omega);show#[_,rfl,_,rfl,r,_,_,_,rfl,rfl,cV.of i,rfl,_,rfl,r,_,_,_,rfl,rfl,cV.of i,rfl,a,o,L,n,fp,g,rfl,C,t0,t1,O,J,_,rfl,?_];cases ah:iI o fp g with
       |false=>
        rw[ah]at q;exact fR q
       |true=>
        rw[ah,qB]at q;refine hU #[_,rfl,r,_,_,_,rfl,rfl,cV.of i,rfl,p,k,_,_,rfl,gP,_,rfl,?_];cases aj:s5 1 9 k with
        |false=>
         rw[aj]at q;exact fR q
        |true=>
         rw[aj,qB]at q;exact hU #[_,rfl,r,_,_,_,rfl,rfl,cV.of i,rfl,y,l,_,_,rfl,t3,q]
  refine dA (dt (by omega)) ?_;rw[acS V]at q;exact q
 |_=>exact fR q
theorem agx{f:Addr}(F:cj K "are_roads" "are_roads" Dk f fd)(B:ft mg)(U:D2 mg)(y:cu K mg "is_road" Ii pP e j)(k:aD P w K mg base a3 3 e j pP XK):
  aD P w K mg base a3 4 f fd vH MT:=by
 refine F.ok ajO (λ_ A _ s H vs Q E V h=>?_);obtain⟨a,c,v,d,rfl,u,h,M,q⟩:=h;show#[_,(a6 (d8 (kJ.pt (zO (j0 (kU (eD yV B.isinstance kh (ak (ae 1) (ak (wR (by rfl) B.list wL) aA))))) (CF (eN zI (eD kN B.len jI (ak (ae 1) aA)) (uP (by rfl) U.adW) (ek _))))) (a7 (cd iK)) ed)
  (a7 (cd (eD (LV rfl) B.Jr HG (ak (tl (N':=["thing","houses"]) (cs:=[none,some 0]) rfl (jE (ae 1)) rfl (by decide+kernel) rfl (by decide+kernel) (lE (eA.mpr #[rfl,(λp L=>bG L (e3))])) rfl
   (.own (.p0 rfl (.inl rfl) (.inl rfl) rfl .nil))
   (λC bp bz dc fA=>#[(fG 0 (by show(["thing","houses"]:cK).Nodup;decide+kernel)),o5,(d9 k y V.mono b0 (ak (ae 1) (ak (ae 0) aA)))])) aA))))),?_]
 try dsimp only[cT,cS]
 show#[_,rfl,_,_,_,_,_,rfl,#[rfl,h.ty,w8 K (Xn d)],_,rfl,?_];cases h with
 |@lst b xs ds aa z t=>
  have Z:=t.len;have q:∀H',aB H H'->Q (.aV (decide (ds.length<=40)&&ds.all (rr c))) H':=q;refine fR #[_,rfl,b,_,rfl,.inl (aQ.of aa),_,_,rfl,rfl,_,rfl,?_];by_cases l:ds.length<=40
  .rw[cE l,qB]at q;refine dA (dt (by omega)) ?_;dsimp only[zG,xm,Ia,w1,pb];refine Cw (J:=n2 K b) (H1:=H) (xs:=xs) (rest:=[some (.ref a)]) (λR h=>#[_,rfl,b,rfl,#[_,aQ.of aa],h]) rfl (s4 (aQ.of aa)) (e' (by omega)) (λv=>.aV (rr c (um H v))) (λi x m R O n g=>?_) (λD H' Y N G=>?_)
   .obtain⟨d,cF,r⟩:=t.get O;have g:∀o,aB m o->R (.aV (rr c (um H x))) o:=g;rw[Gh r]at g;have X:qI ds+1<=62:=M;have T:d.depth<=61:=dX (B5 (fC cF)) (by omega);show#[_,rfl,_,rfl,a,c,x,d,rfl,u.same n,r.same n,T,g m (aB.refl _)]
   have I:(ds.map (rr c)).all id=ds.all (rr c):=by rw[X0];rfl
   show#[D,ds.map (rr c),rfl,aQ.of (N.trans (by rw[ww (rr c) t])),?_];rw[I];exact q H' G
  rw[dt l,vk]at q;exact eQ (cE (by omega)) (q H (aB.refl _))
 |_=>exact hU (q H (aB.refl _))
noncomputable def ajP(b c:PyData):Prop:=wq b=false\/∃a,b=.list a/\LY a c=false
inductive MU(C eS:Addr)(vs:aO)(H:af)(Q:a4)(E:bY):Prop where
 |mk(x ag:Addr)(v u:ao.V)(q8 p3:PyData)(_:vs=[.ref x,v,u])(_:H x=some (.ins C ag []))(_:c7 H v q8)(_:c7 H u p3)(_:p3.depth<=62)(_:ajP q8 p3)(_:∀H',aB H H'->E (.ref eS) none H')
theorem agy{f:Addr}(F:cj K "__init__" "Net.__init__" w5 f fd)(B:ft mg)(Y:tU K C)(d:vo T I Z bm)(c:Exc K mg "NoNet" G bm I)(M:cu K mg "are_houses" C9 vK i q)(p:aD P w K mg base a3 2 i q vK ME)(O:cu K mg "are_roads" Dk vH j e)(o:aD P w K mg base a3 4 j e vH MT):
  aD P w K mg base (fg P w) 5 f fd oP (MU C G):=by
 refine nL F Zk (λ_ A _ s H vs Q E g h=>?_);obtain⟨x,U,v,u,m,N,rfl,X,k,L,y,J,l⟩:=h;show#[_,a6 (d8 (j0 (kU (d9 p M g.mono b0 (ak (ae 1) aA)))) (a7 (yX d c rfl (ak cn aA))) ed)
  (a6 (d8 (j0 (kU (d9 o O g.mono b0 (ak (ae 1) (ak (ae 2) aA))))) (a7 (yX d c rfl (ak cn aA))) ed) ad1),?_]
 show#[_,rfl,v,m,rfl,k,λn b=>#[_,rfl,?_]];cases D:wq m with
 |false=>exact hU #[by show 1<=sizeLine;decide,l n b]
 |true=>
  rcases J with z|⟨hs,rfl,R⟩
  .rw[D]at z;cases z
  cases k with
  |@lst a xs _ az z t=>
   refine fR #[_,rfl,_,rfl,a,hs,u,N,rfl,(c7.lst az z t).same b,L.same b,y,λr V=>#[_,rfl,?_]];rw[R];exact hU #[by show 1<=sizeLine;decide,l r (b.trans V)]
theorem aa3{a:cK}{x:Str}(h:x∉a):oq (.str x) (a.map V.str)=false:=by unfold oq;rw[r4];intro z;obtain⟨v,d,e⟩:=pM.mp z;obtain⟨y,b,rfl⟩:=cm.mp d;have c:(y==x)=true:=e;exact h (eq_of_beq c▸b)
theorem GX{a:Type}{l:List a}{i:Nat}{d x:a}(h:l[i]?=some x):l.getD i d=x:=by rw[ea,h];rfl
inductive Zl(C R:Addr)(vs:aO)(H:af)(Q:a4)(E:bY):Prop where
 |mk(x a' b':Addr)(hs:bt)(zs:aO)(h:Str)(_:vs=[.ref x,.str h])(_:hL C H x a' b' (cN hs) zs)(_:(h∈hs.map S->Q .b3 H))(_:(h∉hs.map S->E (.ref R) none H))
noncomputable abbrev Ij:Stmt:=fS (top 57) 7
theorem ajQ:cI n5 n5 (b5 Ij):={}
theorem ahr{f:Addr}(F:cj K "need_house" "Net.need_house" Ij f fd)(c:tU K C)(k:vo i e j bm)(g:Exc K mg "NoHouse" R bm e):
  aD P w K mg base (fg P w) 1 f fd n5 (Zl C R):=by
 refine nL F ajQ (λ_ A _ s H vs Q E t h=>?_);obtain⟨x,b,y,d,z,r,rfl,n,q,p⟩:=h;obtain⟨l,m⟩:=n.ins;show#[_,(a7 (d8 (eN aay (ae 1) (d5 (ae 0)) (by rfl)) (a7 (yX k g rfl (ak cn aA))) ed)),?_]
 try dsimp only[cT,cS]
 have o:aQ K H b ((d.map S).map V.str):=by rw[<-MK];exact aQ.of n.jL
 show#[_,rfl,_,rfl,x,C,l,_,_,rfl,m,c.cl,c.s8,rfl,b,_,rfl,.inl o,rfl,U' _,_,rfl,?_];by_cases a:r∈d.map S
 .exact dA (by rw[Xl a];rfl) (q a)
 exact eQ (by rw[aa3 a];rfl) #[by show 1<=sizeLine;decide,p a]
theorem aeI{b c:Type}(a:List b)(q:Nat->Bool)(g:Nat->c):(a.zipIdx.filter λz=>q z.2).map (λz=>g z.2)=((eB a.length).filter q).map g:=by
 have e:a.zipIdx.map (·.2)=eB a.length:=by rw[List.zipIdx_map_snd,List.range_eq_range']
 rw[<-e,It,hc];rfl
noncomputable def fp:cw.fD:=#[0,0,0,0]
noncomputable def Hg(a:bt)(ds:cC)(b:cw.fD->Nat)(h:Str):List Nat:=(eB ds.length).filter λi=>decide (V.str (S (a.getD (b (ds.getD i fp)) []))=V.str h)
noncomputable def kz(a:bt)(ds:cC)(b:cw.fD->Nat)(h:Str):List Int:=(Hg a ds b h).map λi:Nat=>(i:Int)
theorem aeJ(a:bt)(ds:cC)(b:cw.fD->Nat)(h:Str):(kz a ds b h).length<=ds.length:=by unfold kz Hg;rw[bP];exact dX (m4 _ _) (by rw[oO];exact cB _)
inductive Oj(C R:Addr)(y8:cw.fD->Nat)(vs:aO)(H:af)(Q:a4)(E:bY):Prop where
 |mk(x a' b':Addr)(hs:bt)(rs:bL)(ds:cC)(h:Str)(_:vs=[.ref x,.str h])(_:hL C H x a' b' (cN hs) (aS rs))(_:gs H hs rs ds)(_:rs.length<=40)(_:(h∈hs.map S->∀(p:Addr)(H':af),H p=none->aB H H'->H' p=some (.lst ((kz hs ds y8 h).map V.int))->Q (.ref p) H'))(_:(h∉hs.map S->E (.ref R) none H))
noncomputable abbrev D3:Stmt:=fS (top 57) 4
theorem akG:cI n5 n5 (b5 D3):={}
theorem ajR{f L:Addr}(F:cj K "out_of" "Net.out_of" D3 f fd)(B:ft mg)(k:tU K C)(N:cH K C "need_house" "Net.need_house" Ij n5 L e)(j:aD P w K mg base (fg P w) 1 L e n5 (Zl C R)):
  aD P w K mg base (fg P w) 2 f fd n5 (Oj C R (·.a)):=by
 have Z:=k.cl;refine nL F akG (λ_ A _ s H vs Q E M h=>?_);obtain⟨x,u,y,l,rs,ds,b,rfl,n,z,c3,q,X⟩:=h;obtain⟨m,o⟩:=n.ins;show#[_,(a6 (hj (fy (ae 0) Z N.dQ j M.mono N.bd .nil rq (ak (ae 1) aA)))
  (a7 (cd (tl (N':=["number","road","house"]) (cs:=[none,none,some 1]) rfl (Xg rfl B.enumerate (ak (d5 (ae 0)) aA)) rfl (by decide+kernel) rfl (by decide+kernel) (lE (eA.mpr #[rfl,(λp G=>bG G (e3))])) rfl
   (.own (.own (.p0 rfl (.inl rfl) (.inl rfl) rfl .nil)))
   (λC bp bz dc fA=>#[(Md (K:=K) (n:=2) rfl rfl (sW (fG 0 (by show(["number","road","house"]:cK).Nodup;decide+kernel)) (sW (fG 1 (by show(["number","road","house"]:cK).Nodup;decide+kernel)) GO))),(GS (eN kV (b8 (Cu (K:=K) rfl) (ae 1) aZ) (ae 2) (ek _))),(ae 0)]))))),?_]
 try dsimp only[cT,cS]
 have O:=fo rs;have we:=z.len;show#[_,rfl,x,m,_,rfl,o,rfl,_,rfl,x,u,y,l,_,b,rfl,n,λhm=>?_,X];show#[_,rfl,x,C,m,_,_,rfl,o,k.cl,k.iP,rfl,y,rfl,#[_,aQ.of n.ky],?_];refine ahJ (rest:=[some (.str b)]) rfl (aQ.of n.ky) (e' (by omega)) (λi _=>decide (V.str (S (l.getD (ds.getD i fp).a []))=V.str b)) (λi _=>.int i) (λi v g R a t c=>?_) (λi v g R a _ t c=>#[_,rfl,c g (aB.refl _)]) (λD H' I J T=>q hm D H' I T ?_)
 .unfold aS at a;rw[dV]at a;obtain⟨r,Y,rfl⟩:=gS.mp a;obtain⟨d,cF,ok,hd⟩:=z.get Y;have U:ds.getD i fp=d:=GX cF;rw[U]at c;show#[_,rfl,r,_,_,_,rfl,rfl,cV.of (t _ _ hd),rfl,_,rfl,rfl,_,rfl,c g (aB.refl _)]
 rw[J,aeI (aS rs) (λi=>decide (V.str (S (l.getD (ds.getD i fp).a []))=V.str b)) (λi=>V.int i),O,we];unfold kz;rw[hc];rfl
noncomputable abbrev zu:Stmt:=fS (top 57) 3
theorem XM:cI d4 d4 (b5 zu):={}
theorem agj{f:Addr}(F:cj K "road" "Net.road" zu f fd)(B:ft mg)(c:tU K C)(r:vo i e j bm)(p:Exc K mg "NoRoad" R bm e):
  aD P w K mg base (fg P w) 1 f fd d4 (Xm C R):=by
 refine nL F XM (λ_ A _ s H vs Q E N h=>?_);obtain⟨x,L,m,V,y,k,rfl,n,q,o⟩:=h;obtain⟨g,l⟩:=n.ins;show#[_,(a6 (d8 (j0 (Gd rK zR aZ (ae 1) (eD kN B.len jI (ak (d5 (ae 0)) aA)))) (a7 (yX r p rfl (ak cn aA))) ed)
  (a7 (cd (b8 eO (d5 (ae 0)) (ae 1))))),?_]
 try dsimp only[cT,cS]
 show#[_,rfl,_,_,rfl,rfl,_,rfl,?_];by_cases b:0<=k
 .refine eQ (cE b) #[_,rfl,x,C,g,_,_,rfl,l,c.cl,c.iP,rfl,m,_,rfl,.inl (aQ.of n.ky),_,_,rfl,rfl,_,rfl,?_];by_cases a:k<y.length
  .obtain⟨v,t,d⟩:=q #[b,a];refine C' a ?_;show#[_,rfl,x,C,g,_,_,rfl,l,c.cl,c.iP,rfl,_,rfl,m,_,_,_,rfl,rfl,aQ.of n.ky,t,d]
  refine eQ (by rw[dt a];rfl) ?_;show#[by show 1<=sizeLine;decide,o λz=>a z.2]
 refine dA (dt b) #[_,rfl,?_];exact hU #[by show 1<=sizeLine;decide,o λz=>b z.1]
noncomputable abbrev gm:=List (List bq×ao.V)
noncomputable def f6(h g:Str):List bq:=[.inr h,.inr g]
noncomputable def kW(n t:Addr):List (Str×ao.V):=[("net",.ref n),("told",.ref t)]
structure rF(C aq:Addr)(H:af)(x n t a' b':Addr)(xs ys:aO)(kvs:gm):Prop where
 ins:∃ag,H x=some (.ins C ag (kW n t))
 el:hL aq H n a' b' xs ys
 told:H t=some (.dB kvs)
theorem rF.same{t:Addr}{a:gm}(W:rF C e H x n t a' b' xs i a)(b:aB H H'):rF C e H' x n t a' b' xs i a:=
 let⟨c,h⟩:=W.ins
 #[#[c,b _ _ h],W.el.same b,b _ _ W.told]
end
structure w'(K:aN)(C:Addr):Prop where
 cl:dM K C
 nn:cD K (.ref C) "net"=some none
 ec:cD K (.ref C) "told"=some none
inductive I0(C:Addr)(vs:aO)(H:af)(Q:a4)(f':bY):Prop where
 |mk(x ag:Addr)(v:ao.V)(_:vs=[.ref x,v])(_:H x=some (.ins C ag []))(_:∀t,H t=none->Q .b3 (upd (upd H t (.dB [])) x (.ins C ag [("net",v),("told",.ref t)])))
inductive O8(C aq fh:Addr)(vs:aO)(H:af)(Q:a4)(E:bY):Prop where
 |mk(x n t a' b':Addr)(hs:bt)(ys:aO)(kvs:gm)(v u:ao.V)(d e:PyData)(_:vs=[.ref x,v,u])(_:rF C aq H x n t a' b' (cN hs) ys kvs)(_:Good hs)(_:c7 H v d)(_:c7 H u e)(_:d.depth<=60)(_:e.depth<=60)(_:(iI (bI hs) d e=true->∀H',aB H H'->Q .b3 H'))(_:(iI (bI hs) d e=false->∀H',aB H H'->E (.ref fh) none H'))
inductive I2(C aq fh dW:Addr)(vs:aO)(H:af)(Q:a4)(E:bY):Prop where
 |mk(x n t a' b':Addr)(hs:bt)(rs:bL)(ds:cC)(kvs:gm)(h g:Str)(i:Int)(_:vs=[.ref x,.str h,.str g,.int i])(_:rF C aq H x n t a' b' (cN hs) (aS rs) kvs)(_:Good hs)(_:gs H hs rs ds)(_:rs.length<=40)(_:c7 H (.str h) (.str h))(_:c7 H (.str g) (.str g))(_:kvs.length<sizeLine)(_:(iI (bI hs) (.str h) (.str g)=true->i∈kz hs ds (·.a) h->∀H',aB H H'->Q .b3 (upd H' t (.dB (fw kvs (f6 h g) (.int i))))))(_:(iI (bI hs) (.str h) (.str g)=false->∀H',aB H H'->E (.ref fh) none H'))(_:(iI (bI hs) (.str h) (.str g)=true->i∉kz hs ds (·.a) h->∀H',aB H H'->E (.ref dW) none H'))
theorem aek(b:hA):(b.map V.int).all qm=true:=by rw[r_];intro x a;obtain⟨y,_,rfl⟩:=cm.mp a;rfl
theorem aib{a:hA}{x:Int}(h:x∈a):oq (.int x) (a.map V.int)=true:=by unfold oq;rw[pM];show#[.int x,cm.mpr #[x,h,rfl],by show(x==x)=true;exact beq_self_eq_true x]
theorem acT{a:hA}{x:Int}(h:x∉a):oq (.int x) (a.map V.int)=false:=by unfold oq;rw[r4];intro z;obtain⟨v,d,e⟩:=pM.mp z;obtain⟨y,b,rfl⟩:=cm.mp d;have c:(y==x)=true:=e;exact h (eq_of_beq c▸b)
theorem acU{a:bt}{h g:Str}(c:iI (bI a) (.str h) (.str g)=true):h∈a.map S/\g∈a.map S:=by unfold iI at c;simp only[i']at c;show#[Wo λn=>by rw[HJ n]at c;exact ha c.1.1,Wo λn=>by rw[HJ n]at c;exact ha c.1.2]
section
variable{P:cx}{w:bf}{K:aN}{mg:cb}{base:Heap}
noncomputable abbrev Ck:Stmt:=fS (top 59) 0
theorem al2:cI lV lV (b5 Ck):={}
theorem akH{f:Addr}(F:cj K "__init__" "Ways.__init__" Ck f fd)(d:w' K C):aD P w K mg base a3 1 f fd lV (I0 C):=by
 refine F.ok al2 (λ_ A _ s H vs Q E o h=>?_);obtain⟨x,a,v,rfl,n,q⟩:=h;show#[_,(a6 (h5 (ae 0) (ae 1) rfl)
  (a7 (h5 (ae 0) af4 rfl))),?_]
 try dsimp only[cT,cS]
 show#[_,rfl,_,rfl,x,C,a,_,rfl,n,d.cl,d.nn,(by show 0<1000;decide),?_];intro t g;have l:t≠x:=λe=>by rw[e,aK]at g;cases g
 rw[aJ l]at g;show#[_,rfl,x,C,a,_,rfl,(by rw[aJ (dY l)];exact aK),d.cl,d.ec,(by show 1<1000;decide),?_];have m:upd (upd (upd H x (.ins C a [("net",v)])) t (.dB [])) x (.ins C a [("net",v),("told",.ref t)])=upd (upd H t (.dB [])) x (.ins C a [("net",v),("told",.ref t)]):=by
  funext b;by_cases c:b=x
  .rw[c,aK,aK]
  rw[aJ c,aJ c];by_cases k:b=t
  .rw[k,aK,aK]
  rw[aJ k,aJ k,aJ c]
 show Q .b3 (upd (upd (upd H x (.ins C a [("net",v)])) t (.dB [])) x (.ins C a [("net",v),("told",.ref t)]));rw[m];exact q t g
noncomputable abbrev Gv:Stmt:=fS (top 59) 6
theorem al3:cI iU iU (b5 Gv):={}
theorem akI{f:Addr}(F:cj K "need_pair" "Ways.need_pair" Gv f fd)(g:w' K C)(Y:dM K i)(y:vo C1 X sU bm)(m:Exc K mg "NoHouse" T bm X)(k:cH K i "houses" "Net.houses" wB cG f1 I)(mw:aD P w K mg base a3 1 f1 I cG (BS i))(pY:cu K mg "are_unlike_houses" Cx sf f2 R)(p:aD P w K mg base a3 1 f2 R sf LJ):
  aD P w K mg base (fg P w) 2 f fd iU (O8 C i T):=by
 refine nL F al3 (λ_ A _ s H vs Q E c h=>?_);obtain⟨x,n,t,z,B,b,ys,Z,v,u,d,e,rfl,W,G,D,M,J,r,q,U⟩:=h;obtain⟨N,V⟩:=W.ins;show#[_,(a7 (d8 (j0 (kU (d9 p pY c.mono b0 (ak (iG (d5 (ae 0)) Y k.dQ mw c.mono k.bd .nil b0) (ak (ae 1) (ak (ae 2) aA)))))) (a7 (yX y m rfl (ak cn aA))) ed)),?_]
 try dsimp only[cT,cS]
 obtain⟨O,L⟩:=W.el.ins;show#[_,rfl,x,C,N,_,_,rfl,V,g.cl,g.nn,rfl,n,O,_,rfl,L,rfl,n,z,B,_,_,rfl,W.el,λl nl=>?_];have a:=bF (o:=.lst (cN b)) nl;show#[_,rfl,_,rfl,l,bI b,v,u,d,e,rfl,C8 G aK,D.same a,M.same a,J,r,_,rfl,?_];cases j:iI (bI b) d e with
 |true=>exact q j _ a
 |false=>show#[by show 1<=sizeLine;decide,U j _ a]
noncomputable abbrev Cj:Stmt:=fS (top 59) 1
theorem al4:cI se se (b5 Cj):={}
theorem akJ{f:Addr}(F:cj K "set_way" "Ways.set_way" Cj f fd)(b:w' K C)(gu:dM K e)(Y:vo C1 g9 sU bm)(U:Exc K mg "NoRoad" dW bm g9)(O:cH K e "out_of" "Net.out_of" D3 n5 f1 c2)(X:aD P w K mg base (fg P w) 2 f1 c2 n5 (Oj e M (·.a)))(R:cH K C "need_pair" "Ways.need_pair" Gv iU f2 eW)(T:aD P w K mg base (fg P w) 2 f2 eW iU (O8 C e M)):
  aD P w K mg base (fg P w) 3 f fd se (I2 C e M dW):=by
 have kQ:=b.cl;refine nL F al4 (λ_ A _ s H vs Q E y h=>?_);obtain⟨x,n,t,D,I,u,rs,ds,B,a,d,i,rfl,W,G,dn,c3,bb,dh,z,q,fq,N⟩:=h;obtain⟨m,L⟩:=W.ins;obtain⟨eV,aM⟩:=W.el.ins;show#[_,(a6 (hj (fy (ae 0) kQ R.dQ T y.mono R.bd .nil rq (ak (ae 1) (ak (ae 2) aA))))
  (a6 (d8 (eN aay (ae 3) (fy (d5 (ae 0)) gu O.dQ X y.mono O.bd .nil rq (ak (ae 1) aA)) (by rfl)) (a7 (yX Y U rfl (ak cn aA))) ed)
  (a7 (Me (l8 y) (d5 (ae 0)) (rE (ak (ae 1) (ak (ae 2) aA))) (ae 3) rfl)))),?_]
 try dsimp only[cT,cS]
 show#[_,rfl,x,m,_,rfl,L,rfl,_,rfl,_,rfl,x,n,t,D,I,u,_,B,.str a,.str d,.str a,.str d,rfl,W,G,bb,dh,(by show 0<=60;decide),(by show 0<=60;decide),λj H1 c=>?_,fq];have hm:=acU j;show#[_,rfl,_,rfl,x,C,m,_,_,rfl,c _ _ L,b.cl,b.nn,rfl,n,eV,_,rfl,c _ _ aM,rfl,_,rfl,n,D,I,u,rs,ds,a,rfl,W.el.same c,dn.same c,c3,λ_ p ai np s2 Z=>?_,λuJ=>bG hm.1 uJ];have g:=c.trans s2;show#[p,_,rfl,.inl (aQ.of Z),rfl,aek _,_,rfl,?_];by_cases l:i∈kz u ds (·.a) a
 .refine dA (by rw[aib l];rfl) ?_;show#[_,rfl,_,rfl,x,C,m,_,_,rfl,g _ _ L,b.cl,b.ec,rfl,_,rfl,_,rfl,(by show 2<=sizeLine;decide),λr iP=>?_];have J:=bF (o:=.tup [V.str a,V.str d]) iP;show#[t,_,rfl,tD.t (k:=f6 a d) ((g.trans J) _ _ W.told) aK z,q j l _ (g.trans J)]
 refine eQ (by rw[acT l];rfl) #[by show 1<=sizeLine;decide,N j l _ g]
noncomputable def u6(a:gm)(h g:Str):Option Nat:=match dk a (f6 h g)with|some (.int k)=>some k.toNat|_=>none
structure xV(kvs:gm)(m:Nat):Prop where
 val:∀k v,dk kvs k=some v->∃i:Nat,v=.int (i:Int)/\i<m
theorem xV.get{a:gm}{m:Nat}(t:xV a m)(h g:Str):(dk a (f6 h g)=none/\u6 a h g=none)\/∃i:Nat,dk a (f6 h g)=some (.int (i:Int))/\u6 a h g=some i/\i<m:=by
 cases e:dk a (f6 h g)with
 |none=>exact .inl #[rfl,by unfold u6;rw[e]]
 |some v=>
  obtain⟨i,rfl,b⟩:=t.val _ _ e;exact .inr #[i,rfl,by unfold u6;rw[e];simp,b]
theorem FV{c:Type}[DecidableEq c]:∀{sn L:List c},sn.Nodup->(∀y∈sn,y∈L)->sn.length<=L.length
 |[],_,_,_=>e4 _
 |x::r,L,aI,h=>by have a:=h x (.head _);have d:=FV (sn:=r) (L:=L.erase x) (jw.mp aI).2 (λy b=>(List.mem_erase_of_ne (show y≠x fromλe=>(jw.mp aI).1 (by rw[<-e];exact b))).mpr (h y (.tail _ b)));rw[List.length_erase_of_mem a]at d;have:=List.length_pos_of_mem a;rw[gC];omega
theorem aa4{c:Type}{l:List c}{x:c}(d:l.Nodup)(h:x∉l):(l++[x]).Nodup:=by rw[vE];show#[d,jw.mpr #[e3,sd],λa g b f e=>h (by rw[<-gp.mp f,<-e];exact g)]
end
end dR
namespace b_
open PySem PySem.Spec PyProof.Rows ao PySem.W
noncomputable def ib{c:Type}(b:jB):KasT c->c
 |.ret a=>a
 |.ask i j k=>ib b (k (b i j))
noncomputable def l7{c:Type}(n:Nat)(P:c->Prop):KasT c->Prop
 |.ret a=>P a
 |.ask i j k=>i<n/\j<n/\∀b,l7 n P (k b)
theorem CA{c g:Type}{n:Nat}{P:c->Prop}{R:g->Prop}{f:c->KasT g}(d:∀a,P a->l7 n R (f a)):∀t:KasT c,l7 n P t->l7 n R (t.bind f)
 |.ret a,h=>d a h
 |.ask i j k,h=>#[h.1,h.2.1,λb=>CA d (k b) (h.2.2 b)]
theorem rL{a:Type}{n:Nat}{P:a->Prop}{c:Prop}[Decidable c]{s t:KasT a}(b:c->l7 n P s)(d:¬c->l7 n P t):l7 n P (if c then s else t):=by
 by_cases h:c
 .rw[bS h];exact b h
 rw[bx h];exact d h
theorem XN{d:Type}{b:Nat->Nat->(Bool->aW->Prop)->aW->Prop}{c:jB}{n:Nat}{P:d->Prop}{Q:d->aW->Prop}(f:∀i j C,i<n->j<n->C (c i j) s->b i j C s):
  ∀t:KasT d,l7 n P t->(P (ib c t)->Q (ib c t) s)->t.kasWp b Q s
 |.ret a,p,h=>h p
 |.ask i j k,p,h=>f i j _ p.1 p.2.1 (XN f (k (c i j)) (p.2.2 _) h)
theorem LQ{a:Type}{lt:jB}{n:Nat}{P:a->Prop}:∀t:KasT a,l7 n P t->P (ib lt t)
 |.ret _,p=>p
 |.ask i j k,p=>LQ (k (lt i j)) (p.2.2 _)
noncomputable def e2(n:Nat)(p:mq):Prop:=p.Perm (z' (eB n))
theorem e2.lt{n:Nat}{p:mq}(h:e2 n p){x:Nat}(a:x∈p):x<n:=by
 have:=h.mem_iff.mp a;have:x∈eB n:=by simpa using this
 exact lp.mp this
theorem e2.list{n:Nat}{p:mq}(h:e2 n p):p.toList.Perm (eB n):=by have:=Array.perm_iff_toList_perm.mp h;simpa using this
theorem e2.at{n:Nat}{p:mq}(h:e2 n p)(b:0<n)(k:Nat):p.getD k 0<n:=by
 by_cases a:k<p.size
 .have e:p.getD k 0=p[k]:=by simp[xc,a]
  rw[e];exact h.lt (Array.getElem_mem a)
 have e:p.getD k 0=0:=by simp[xc,a]
 rw[e];exact b
theorem e2.perm{n:Nat}{q:mq}(h:e2 n p)(e:q.Perm p):e2 n q:=Array.Perm.trans e h
theorem e2.rev{n:Nat}(h:e2 n p)(i j:Nat):e2 n (Fc p i j):=h.perm (mirror_perm ..)
theorem e2.Ç{n:Nat}(h:e2 n p)(i j:Nat):e2 n (bubble p i j):=h.perm (bubble_perm ..)
section
variable{n:Nat}
theorem Og(a:0<n)(h:e2 n p):∀f k,l7 n (λ_=>True) (kas_asc p f k)
 |0,_=>trivial
 |f+1,k=>#[h.at a _,h.at a _,λb=>rL (λ_=>trivial) λ_=>Og a h f (k+1)]
theorem HO(a:0<n):∀(f:Nat)(p:mq)(k q:Nat),e2 n p->l7 n (λr=>e2 n r.1) (Fb f p k q)
 |0,p,k,q,h=>h
 |f+1,p,k,q,h=>#[h.at a _,h.at a _,λb=>rL (λ_=>rL (λ_=>HO a f _ _ _ (h.rev _ _)) λ_=>HO a f _ _ _ h)
   λ_=>#[h.at a _,h.at a _,λb=>rL (λ_=>h) λ_=>HO a f _ _ _ h]]
theorem XO(b:0<n)(h:e2 n p)(k m:Nat):l7 n (λr=>e2 n r.2) (Fd k m p):=by unfold Fd;refine CA (P:=λ_=>True) (λa _=>?_) _ (Og b (h.rev _ _) _ _);exact h.rev _ _
theorem aa5(a:0<n)(h:e2 n p)(k m:Nat):l7 n (λr=>e2 n r.2) (ĺ k m p):=
 CA (λr b=>rL (λ_=>XO a (e2.rev b _ _) _ _) λ_=>XO a b _ _) _ (HO a _ _ _ _ h)
theorem aic(a:0<n)(h:e2 n p)(m:Nat):l7 n (λr=>e2 n r.2) (RF m p):=by unfold RF;refine CA (P:=λ_=>True) (λk _=>?_) _ (Og a h _ _);refine rL (λ_=>h) λ_=>rL (λ_=>#[h.at a _,h.at a _,λb=>rL (λ_=>h) λ_=>aa5 a (h.rev _ _) _ _]) λ_=>aa5 a h _ _
theorem MV(a:0<n)(h:e2 n p)(k:Nat):∀f l r,l7 n (λ_=>True) (Bx p k f l r)
 |0,_,_=>trivial
 |f+1,l,r=>rL (λ_=>trivial) λ_=>#[h.at a _,h.at a _,λb=>rL (λ_=>MV a h k f _ _) λ_=>MV a h k f _ _]
theorem Oh(a:0<n):∀(f:Nat)(p:mq)(k:Nat),e2 n p->l7 n (e2 n) (RE f p k)
 |0,p,k,h=>h
 |f+1,p,k,h=>CA (λl _=>Oh a f _ _ (h.Ç _ _)) _ (MV a h k _ _ _)
theorem Nr(b:0<n):l7 n (e2 n) (By n):=by have c:e2 n (z' (eB n)):=abg _;unfold By;refine CA (P:=λr=>e2 n r.2) (λr a=>?_) _ (aic b c n);exact rL (λ_=>Oh b _ _ _ a) λ_=>a
end
noncomputable def rM(a:jB)(n:Nat):List Nat:=if n<2 then eB n else(ib a (By n)).toList
noncomputable def hV{a:Type}(d:a)(c:jB)(b:List a):List a:=(rM c b.length).map λi=>b.getD i d
theorem LR{lt:jB}{n i:Nat}(h:i∈rM lt n):i<n:=by
 unfold rM at h;split at h
 .exact lp.mp h
 rename_i a;exact e2.lt (LQ (lt:=lt) (By n) (Nr (by omega))) (by simpa using h)
theorem Uw(lt:jB)(n:Nat):(rM lt n).Perm (eB n):=by
 unfold rM;split
 .exact List.Perm.refl _
 exact e2.list (LQ (lt:=lt) (By n) (Nr (by omega)))
theorem V_{c:Type}(d:c)(b:jB)(a:List c):(hV d b a).Perm a:=by
 have e:a=(eB a.length).map λi=>a.getD i d:=by
  apply Dx
  .simp
  intro i f g;simp[ea,f]
 have p:=(Uw b a.length).map λi=>a.getD i d;rw[<-e]at p;exact p
theorem Vx{c:Type}(d:c)(b:jB)(a:List c):(hV d b a).length=a.length:=(V_ d b a).length_eq
theorem U2{f:jB}{c:dx}(h:de xs c):de (hV .b3 f xs) (hV .none f c):=by
 unfold hV;rw[h.length];have:∀a:List Nat,(∀i∈a,i<xs.length)->de (a.map λi=>xs.getD i .b3) (a.map λi=>c.getD i .none):=λa=>by
  induction a with
  |nil=>intro _;exact .nil
  |cons i r e=>
   intro b;refine .cons ?_ (e λj k=>b j (.tail _ k));have l:i<xs.length:=b i (.head _);have d:xs[i]?=some xs[i]:=dw l;obtain⟨u,g,m⟩:=h.get d;show RelV (xs[i]?.getD .b3) (c[i]?.getD .none);rw[d,g];exact m
 exact this _ λi b=>by rw[h.length];exact LR b
theorem agk{b:Type}(d:b)(f:jB){a:List b}(h:a.length<2):hV d f a=a:=by
 unfold hV rM;rw[bS h];apply Dx
 .simp
 intro i g c;simp[ea,c]
noncomputable def vr(a:Addr)(h c:Heap):Prop:=∀b o,b≠a->h.get? b=some o->c.get? b=some o
section
variable{prog:cx}{w:bf}{A:eu}{E:cW}{s:aW}{vs:dx}{κ:AD}{lt:jB}
theorem XP{e:Nat}{R:PySem.Fin->aW->Prop}(aX:s.heap.get? a=some (ka "list" vs.toArray e))(L:vs.length<64)(I:2<=vs.length->∀t:aW,vr a s.heap t.heap->∀Q:AD->aW->Prop,Q κ t->aT (bg prog w) A (RN vs.toArray) Q (λ_ _=>False) t)(Y:2<=vs.length->∀t:aW,vr a s.heap t.heap->∀i j C,i<vs.length->j<vs.length->C (lt i j) t->Fa prog w A κ vs i j C t)(h:∀D c,vr a s.heap D->D.get? a=some (ka "list" (z' (hV fP lt vs)) c)->R (.done (.ret .none)) {s with heap:=D}):
  aT (bg prog w) A (Builtin.«list.sort» #[[.ref a],[]]) R E s:=by
 have d:=aox aX λ_=>(#[]:mu)
 obtain⟨u,M⟩:∃k,(s.heap.update a (Aq λ_=>(#[]:mu))).get? a=some (ka "list" #[] k):=#[_,d]
 have e0:vr a s.heap (s.heap.update a (Aq λ_=>(#[]:mu))):=λb o y q=>(W5 _ _ _ _ y).trans q;have r:∀k,k<64->k<=sizeLine:=λk I=>by rw[u3];omega
 rw[list_sort_plain];refine aE (listItems_at aX rfl (aE (listUpdate_at aX rfl ?_ (by rw[hz];exact r _ L) (e4 _))));refine aE (seqEpoch_at M rfl (aE (aaP ?_ (r _ L))));refine aE (aaO (oH ?_) (e4 _));dsimp only;generalize J:((s.heap.update a (Aq λ_=>(#[]:mu))).push (ka "tuple" vs.toArray 0)).push (ka "list" #[] 0)=g;have N:g.get? a=some (ka "list" #[] u):=by rw[<-J];exact d0 _ (d0 _ M)
 have F:vr a s.heap g:=λb o y q=>by rw[<-J];exact d0 _ (d0 _ (e0 b o y q))
 have m:∀(x:Unit×SortSt)(f:dx),(arrOf x.2).map (·.2)=f.toArray->failedOf x.2=none->f.length<64->f=hV fP lt vs->
   aT (bg prog w) A (do
    let z <-seqEpoch a
    atF (.ref a) λ_=>(arrOf x.2).map (·.2)
    match failedOf x.2 with
    |some gW=>do
     rule "list.sort.comparison-raised"
     throw gW
     if(z !=u)=true then do
      rule "list.sort.modified"
      arM "ValueError" "list modified during sort"
      ret fP
     else ret fP
    |_=>
     if(z !=u)=true then do
      rule "list.sort.modified"
      arM "ValueError" "list modified during sort"
      ret fP
     else ret fP) R E {s with heap:=g}:=λx f H c6 P O=>by
  refine aE (seqEpoch_at N rfl (aE (listUpdate_at N rfl ?_ (e4 _) ?_)))
  .rw[c6];dsimp only;rw[bx (by simp)];obtain⟨c,X⟩:∃c,(g.update a (Aq λ_=>(arrOf x.2).map (·.2))).get? a=some (ka "list" ((arrOf x.2).map (·.2)) c):=#[_,aox N λ_=>(arrOf x.2).map (·.2)]
   refine bW (h _ c (λb o y q=>(W5 _ _ _ _ y).trans (F b o y q)) ?_);rw[X,H,O]
  rw[H,hz];have:=r _ P;omega
 by_cases n:(vs.toArray.size<2)
 .rw[bS n,bS n];have K:vs.length<2:=by rw[hz]at n;exact n
  refine aE (bW (aE (bW ?_)));refine m ((),SortSt.mk' general' (vs.toArray.zip vs.toArray) #[] 7 none) vs ?_ rfl L (agk _ _ K).symm;show(vs.toArray.zip vs.toArray).map (·.2)=vs.toArray;apply C0.mp;simp only[Array.toList_map,Array.toList_zip];exact List.map_snd_zip (cB _)
 rw[bx n,bx n];have K:2<=vs.length:=by rw[hz]at n;omega
 refine aE (ih (I K {s with heap:=g} F (λV l=>V=κ/\l={s with heap:=g}) #[rfl,rfl]) ?_ λ_ _ x=>x.elim);rintro V l ⟨rfl,rfl⟩;refine aE (ih (kat_run (κ:=V) (Q:=λst l=>l={s with heap:=g}/\(arrOf st).map (·.2)=z' (hV fP lt vs)/\failedOf st=none/\(hV fP lt vs).length=vs.length)
  (G:=λp l=>l={s with heap:=g}/\p=ib lt (By vs.length)) rfl K L (λp st l T U gD kL=>?_) (XN (λi j C hi Z e7=>Y K _ F i j C hi Z e7) _ (Nr (by omega)) λ_=>#[rfl,rfl])) ?_ λ_ _ x=>x)
 .obtain⟨hB,B⟩:=kL;have e:hV fP lt vs=p.toList.map λi=>vs.getD i fP:=by unfold hV rM;rw[bx (by omega),B]
  show#[hB,?_,gD,?_]
  .rw[e];exact kat_snds rfl U
  rw[e,bP,Ms,T]
 rintro⟨⟨⟩,st⟩ l ⟨rfl,B,pX,ug⟩;exact m ((),st) _ B pX (by omega) rfl
noncomputable def oG(h a:Heap):Prop:=∀b o,h.get? b=some o->a.get? b=some o
theorem Wa{Q:cW}(z:s.heap.IsList l vs.toArray)(V:vs.length<64)(r:2<=vs.length->∀a:aW,oG s.heap a.heap->∀Q:AD->aW->Prop,Q κ a->aT (bg prog w) A.in1.in1 (RN vs.toArray) Q (λ_ _=>False) a)(K:2<=vs.length->∀a:aW,oG s.heap a.heap->∀i j C,i<vs.length->j<vs.length->C (lt i j) a->Fa prog w A.in1.in1 κ vs i j C a)(h:∀D d c,s.heap.objs.size<=D->oG s.heap d->d.get? D=some (ka "list" (z' (hV fP lt vs)) c)->Q (.ref D) {s with heap:=d}):
  aT (bg prog w) A (call (.builtin "sorted") ([.ref l]:dx)) Q E s:=by
 have f:vs.length<=sizeLine:=by rw[u3];omega
 refine abC kind_sorted plain_sorted entry_sorted (args_sorted1 (.ref l)) ?_;unfold Builtin.«sorted»;refine aE (m:=checkCount "sorted" 1 1 _) (bW (aE (collect_list z ?_ f)));refine aE (aaO ?_ f);generalize p:(s.heap.push (ka "list" #[] 0)).update s.heap.objs.size (Aq (·++vs.toArray))=G;have n:G.objs.size=s.heap.objs.size+1:=by rw[<-p,Heap.size_update,size_push']
 have L:oG s.heap G:=λb o q=>by have t:=eT (dN q);rw[<-p,W5 _ _ _ _ t];exact d0 _ q
 show aT _ _ _ _ _ {s with heap:=G.push (ka "list" vs.toArray 0)};have bI:(G.push (ka "list" vs.toArray 0)).get? G.objs.size=some (ka "list" vs.toArray 0):=gG _ rfl;have N:oG s.heap (G.push (ka "list" vs.toArray 0)):=λb o q=>d0 _ (L b o q);have k:∀d,vr G.objs.size (G.push (ka "list" vs.toArray 0)) d->oG s.heap d:=λd x b o q=>x b o (eT (by rw[n];exact vM (dN q))) (N b o q);refine aE (oH (pB asd #[_,bI,rfl] an3 ?_ (ant _)));refine XP (s:={s with heap:=G.push (ka "list" vs.toArray 0)}) (κ:=κ) (lt:=lt) bI V (λg a x=>r g a (k _ x)) (λg a x=>K g a (k _ x)) λd c x y=>?_;show#[_,rfl,bW #[_,rfl,h _ d c (by rw[n];exact vL _) (k _ x) y]]
noncomputable def lexLt:List bq->List bq->Bool
 |.inl a::r,.inl b::q=>if a=b then lexLt r q else decide (a<b)
 |.inr a::r,.inr b::q=>if a=b then lexLt r q else decide (a.cps.toList<b.cps.toList)
 |_,_=>false
noncomputable def lH:List bq->List Bool:=List.map λk=>match k with
 |.inl _=>true
 |.inr _=>false
theorem agl(a b:Int):jz (.int a) (.int b)=decide (a=b):=by
 by_cases h:a=b
 .subst h;rw[cE rfl];simp[jz]
 rw[dt h];simp[jz,h]
theorem WO(x y:Str):jz (.str x) (.str y)=decide (x=y):=by
 by_cases h:x=y
 .subst h;rw[cE rfl];simp[jz]
 rw[dt h];simp[jz,h]
end
section
variable{prog:cx}{w:bf}{A:eu}{E:cW}{s:aW}
theorem Vy{Q:Bool->aW->Prop}:∀(d e:List bq)(f g:dx)(i:Nat),de (d.map dq) f->de (e.map dq) g->lH d=lH e->Q (lexLt d e) s->KatLex prog w A true false Q (f.zip g) i s
 |[],e,f,g,i,v1,v2,hs,h=>by
  cases v1;have k:e=[]:=by
   cases e with
   |nil=>rfl
   |cons _ _=>cases hs
  subst k;exact kat_nil h
 |.inl a::r,[],_,_,_,_,_,hs,_=>by cases hs
 |.inr a::r,[],_,_,_,_,_,hs,_=>by cases hs
 |.inl a::r,.inr b::q,_,_,_,_,_,hs,_=>by simp[lH]at hs
 |.inr a::r,.inl b::q,_,_,_,_,_,hs,_=>by simp[lH]at hs
 |.inl a::r,.inl b::q,_,_,i,.cons j t1,.cons x gP,hs,h=>by
  obtain⟨t,rfl⟩:=j;obtain⟨u,rfl⟩:=x;have c:lH r=lH q:=by simpa[lH]using hs
  unfold lexLt at h;refine kat_cons (keq_flat (d:=.int a) (e:=.int b) (λ_=>.int a t) (λ_=>.int b u) prog w _ _ ?_);rw[agl];by_cases e:a=b
  .rw[bS e]at h;rw[cE e];exact kat_yes (Vy r q _ _ _ t1 gP c h)
  rw[bx e]at h;rw[dt e];refine kat_no ?_;cases i with
  |zero=>exact oneLt_int h
  |succ i=>exact kat_one _ _ (lt_int h)
 |.inr a::r,.inr b::q,_,_,i,.cons j t1,.cons x gP,hs,h=>by
  obtain⟨t,rfl⟩:=j;obtain⟨u,rfl⟩:=x;have c:lH r=lH q:=by simpa[lH]using hs
  unfold lexLt at h;refine kat_cons (keq_flat (d:=.str a) (e:=.str b) (λ_=>.str a t) (λ_=>.str b u) prog w _ _ ?_);rw[WO];by_cases e:a=b
  .rw[bS e]at h;rw[cE e];exact kat_yes (Vy r q _ _ _ t1 gP c h)
  rw[bx e]at h;rw[dt e];refine kat_no ?_;cases i with
  |zero=>exact oneLt_str h
  |succ i=>exact kat_one _ _ (lt_str h)
noncomputable def o_(ds:List (List bq))(i j:Nat):Bool:=lexLt (ds.getD i []) (ds.getD j [])
theorem FU:∀{a:bL}{b:dx},de (a.map V.ref) b->b=a.map cX
 |[],_,.nil=>rfl
 |t::a,_,.cons r q=>by cases r;rw[FU q];rfl
noncomputable def ĵ:bq->Bool
 |.inl _=>true
 |.inr _=>false
noncomputable def aaw(b:Bool):Value:=if b=true then .type "int" else .type "str"
end
theorem Zg{w:bf}{H:af}(ok:gb P w H h)(x:oG h ah){b:Bool}:∀{c:bL}{ds:List (List bq)},b2 (λr d=>H r=some (.tup (d.map dq))) c ds->(∀d∈ds,∃r,lH d=b::r)->
  ∃a,KatTups ah (c.map cX) a/\a.length=c.length/\∀v∈a,∃k:bq,ĵ k=b/\RelV (dq k) v
 |[],[],_,_=>#[[],KatTups.nil,rfl,λ_ h=>bG h e3]
 |t::c,d::ds,.cons r q,hd=>by
  obtain⟨a,N,V,i⟩:=Zg ok x q λz A=>hd z (.tail _ A);obtain⟨l,g⟩:=hd d (.head _);obtain⟨_,K,y,o,aX,m,n,L⟩:=ok t _ r;cases d with
  |nil=>cases g
  |cons k d=>
   cases y with
   |cons j u=>
    rename_i f s;show#[f::a,KatTups.cons (x _ _ aX) m L (by simp) N,by simp[V],λv p=>?_];rcases dr.mp p with rfl|e
    .show#[k,?_,j];have:lH (k::d)=ĵ k::lH d:=by cases k<;>rfl
     rw[this]at g;exact(adj g).1
    exact i v e
 |[],d::ds,h,_=>nomatch h
 |t::c,[],h,_=>nomatch h
section
variable{X:bH}
theorem LK:iX "sorted"=some (.builtin "sorted"):=by decide+kernel
theorem aaD:kt X (.builtin "sorted") (λxs H Q=>∃(p:Addr)(f:bL)(ds:List (List bq))(b:Bool)(cp:List Bool),xs=[.ref p]/\aQ X.K H p (f.map V.ref)/\b2 (λr d=>H r=some (.tup (d.map dq))) f ds/\f.length<64/\(∀d∈ds,lH d=b::cp)/\
  ∀l,H l=none->Q (.ref l) (upd H l (.lst (hV .b3 (o_ ds) (f.map V.ref))))):=by
 intro pins s U H xs us Q I r h;obtain⟨p,f,ds,b,cp,rfl,bk,E,sH,yA,q⟩:=h;obtain⟨u,rfl,e9⟩:=vals1 r;cases e9;obtain⟨g,F,pl,aC⟩:=I.list bk;have L:=F.length;rw[bP]at L;obtain rfl:=FU F;have avS:f.length=ds.length:=jy E;have at_:∀i,i<f.length->∃d g,(f.map cX).getD i fP=.ref f[i]!/\ds.getD i []=d/\lH d=b::cp/\de (d.map dq) g/\vz s.heap f[i]! g.toArray:=λi A=>by
  have M:f[i]?=some f[i]:=dw A;have J:ds[i]?=some ds[i]:=dw (by omega);have R:f[i]! =f[i]:=by simp[A]
  have aG:H f[i]=some (.tup (ds[i].map dq)):=by
   have:∀{l:bL}{m:List (List bq)}{k:Nat}{x:Addr}{y:List bq},b2 (λr d=>H r=some (.tup (d.map dq))) l m->l[k]?=some x->m[k]?=some y->H x=some (.tup (y.map dq)):=λ{l m k x y}P=>by
    induction P generalizing k with
    |nil=>intro h;simp at h
    |cons a t a8=>
     cases k with
     |zero=>intro z w;simp at z w;subst z;subst w;exact a
     |succ k=>intro z w;simp at z w;exact a8 z w
   exact this E M J
  obtain⟨_,g,v1,t1⟩:=I.bo _ _ aG;show#[ds[i],g,?_,?_,yA _ (m3 _),v1,?_]
  .rw[ea,dV,M,R];rfl
  .rw[ea,J];rfl
  rw[R];exact t1
 refine Wa (κ:=tuples' true) (lt:=o_ ds) pl.isList (by rw[bP];exact sH) (λw s1 x sk ef=>?_) (λw s1 x i j C A O e7=>?_) λD h' c K x av=>?_
 .obtain⟨fs,k1,k2,k3⟩:=Zg I.bo x E λd hd=>#[cp,yA d hd]
  rw[bP]at w;refine kat_kind (T:=aaw b) k1 (by omega) (λv bb=>?_) (by cases b<;>decide+kernel) ?_
  .obtain⟨k,e6,wV⟩:=k3 v bb;subst e6;cases k with
   |inl i=>obtain⟨t,rfl⟩:=wV;exact Yg rfl
   |inr i=>obtain⟨t,rfl⟩:=wV;exact Yg rfl
  have e:(aaw b !=AI "tuple")=true:=by cases b<;>decide+kernel
  rw[e];exact ef
 .rw[bP]at A O;obtain⟨d,g,a1,a2,Y,Z,o,aX,_,n,jK⟩:=at_ i A;obtain⟨G,N,hB,fF,pX,ug,cY,j5,_,eR,B⟩:=at_ j O;unfold Fa;rw[a1,hB];have dZ:=Z.length;have dG:=ug.length;rw[bP]at dZ dG;have i1:d.length=G.length:=by have e:=fa sb (Y.trans pX.symm);simpa[lH]using e
  refine kat_lt (b:=true) (x _ _ aX) jK (x _ _ j5) B ?_;rw[dt (by rw[hz,hz];omega)];refine Vy d G g N 0 Z ug (Y.trans pX.symm) ?_;have:o_ ds i j=lexLt d G:=by unfold o_;rw[a2,fF]
  rw[<-this];exact e7
 show#[.ref D,_,I.laid (a:=D) (o:=.lst (hV .b3 (o_ ds) (f.map V.ref))) (t':=s.toks) (λb o q=>x b o q) K ?_,rfl,q D (I.bo.fresh K)];show#[?_,_,c,U2 F,av];rw[Vx,bP,u3];omega
noncomputable def mW(h:Heap)(d:Addr)(b:Array r9)(a:Nat):Prop:=∃o,h.get? d=some o/\o.ExactDict/\o.data=.dict b a
end
section
variable{prog:cx}{w:bf}{A:eu}{E:cW}{s:aW}{it d:Addr}{i ep:Nat}{es:Array r9}{ok ho:Value}
theorem aid{Q:Option Value->aW->Prop}(a:xu s.heap it d i es.size ep ok ho)(X:mW s.heap d es ep)(Y:i<es.size)(U:∀r,Xf r it d (i+1) es.size ep es[i].key es[i].val s.heap.objs.size->r.get? s.heap.objs.size=some {cls:=.type "tuple",data:=.seq (List.toArray [es[i].key,es[i].val])}->
   (∀b o,b≠it->s.heap.get? b=some o->r.get? b=some o)->Q (some (.ref s.heap.objs.size)) {s with heap:=r}):aT (bg prog w) A (kx (.ref it)) Q E s:=by
 obtain⟨G,h,m,l,os⟩:=s;obtain⟨o,aX,_,R⟩:=X;have g:Zp #[G,h,m,l,os] (.ref it) "dict_itemiterator":=#[_,a,rfl]
 have Z:¬((cX d==fP)=true):=ha;have own:HB "dict_itemiterator"=true:=by decide
 have j:it<G.objs.size:=dN a;unfold kx;refine aE (zw (zx (name:=bc "__next__") g F.slot_dict_itemiterator_next (pB F.slot_dict_itemiterator_next g F.entry_dict_itemiterator_next ?_ (F.args_dict_itemiterator_next_1 _))));refine aE (bW (aE (aE ?_)))
 first
 |refine aE (Vc g (bW (aE (zy a rfl ?_))))
 |refine aE (Ve g (bW (aE (zy a rfl ?_))))
 simp only[own,if_true];change aT _ _ (ite ((cX d==fP)=true) _ _) _ _ _;rw[bx Z];refine aE (bW (aE (G4 aX R ?_)));rw[bx (by simp)];refine aE (bW (aE (G5 aX R ?_)));rw[bx (by simp)];refine bW ?_;simp only[show¬((i:Int)<0)from by omega,if_false,mZ,Mq Y];refine aE ?_
 first
 |refine aE (Vc g (bW (aE (U_ g ?_))))
 |refine aE (Ve g (bW (aE (U_ g ?_))))
 show aT _ _ (Co (.ref it) 3 (nO ((i:Int)+1)) >>=_) _ _ #[G,h,m,l,os];refine aE (vg a (by simp) λc p t=>?_);have t:kE it G c:=t;have p:xu c it d (i+1) es.size ep ok ho:=by
  have z:((i+1:Nat):Int)=(i:Int)+1:=by omega
  unfold xu;rw[z];simpa[nO]using p
 have J:Zp #[c,h,m,l,os] (.ref it) "dict_itemiterator":=#[_,p,rfl]
 refine aE (oH (aE (U_ J (aE (U_ J ?_)))));show aT _ _ (abn (.ref it) 6 es[i].key es[i].val) _ _ #[c,h,m,l,os];simp only[abn];refine aE (aaP ?_);have O:c.objs.size=G.objs.size:=t.1;have k:xu (c.push {cls:=.type "tuple",data:=.seq (List.toArray [es[i].key,es[i].val])}) it d (i+1) es.size ep ok ho:=d0 _ p;have P:(c.push {cls:=.type "tuple",data:=.seq (List.toArray [es[i].key,es[i].val])}).get? G.objs.size=some {cls:=.type "tuple",data:=.seq (List.toArray [es[i].key,es[i].val])}:=by rw[<-O];exact gG _ rfl
 have T:∀b u,b≠it->G.get? b=some u->(c.push {cls:=.type "tuple",data:=.seq (List.toArray [es[i].key,es[i].val])}).get? b=some u:=λb u f q=>d0 _ (t.extBut b u f q);show aT _ _ (abm (.ref it) >>=_) _ _ #[c.push {cls:=.type "tuple",data:=.seq (List.toArray [es[i].key,es[i].val])},h,m,l,os];rw[O];generalize c.push {cls:=.type "tuple",data:=.seq (List.toArray [es[i].key,es[i].val])}=M at k P T⊢;refine aE ?_;unfold abm;refine aE (nS k rfl (x:=.none) rfl (bW ?_));simp only[if_true];refine aE (nS k rfl (x:=ok) rfl (aE (nS k rfl (x:=ho) rfl ?_)));refine aE (vg k (by simp) λy N C=>?_);have C:kE it M y:=C;have N:xu y it d (i+1) es.size ep es[i].key ho:=N;refine aE (vg N (by simp) λK V D=>?_);have D:kE it y K:=D;have V:xu K it d (i+1) es.size ep es[i].key es[i].val:=V;refine aE (vg V (by simp) λL e H=>?_);have H:kE it K L:=H;have e:Xf L it d (i+1) es.size ep es[i].key es[i].val G.objs.size:=e;refine aE (vg e (by simp) λn B I=>?_);have I:kE it L n:=I;have B:Xf n it d (i+1) es.size ep es[i].key es[i].val G.objs.size:=B;have all:∀b u,b≠it->M.get? b=some u->n.get? b=some u:=λb u f q=>I.extBut b u f (H.extBut b u f (D.extBut b u f (C.extBut b u f q)));exact aE (CO (bW (bW #[_,rfl,bW (U n B (all _ _ (vN j) P) λb u f q=>all b u f (T b u f q))])))
theorem aie{Q:Option Value->aW->Prop}(k:A.handled=none)(c:xu s.heap it d i es.size ep ok ho)(n:mW s.heap d es ep)(p:es.size<=i)(l:∀g,M_ it s.heap g->Q none {s with heap:=g}):
  aT (bg prog w) A (kx (.ref it)) Q E s:=by
 obtain⟨o,aX,_,h⟩:=n;have f:s.TypeIs (.ref it) "dict_itemiterator":=#[_,c,rfl]
 have t:¬((cX d==fP)=true):=ha;have own:HB "dict_itemiterator"=true:=by decide
 unfold kx;refine aE (zw (zx (name:=bc "__next__") f F.slot_dict_itemiterator_next (pB F.slot_dict_itemiterator_next f F.entry_dict_itemiterator_next ?_ (F.args_dict_itemiterator_next_1 _))));refine aE (bW (aE (aE ?_)))
 first
 |refine aE (Vc f (bW (aE (zy c rfl ?_))))
 |refine aE (Ve f (bW (aE (zy c rfl ?_))))
 simp only[own,if_true];change aT _ _ (ite ((cX d==fP)=true) _ _) _ _ _;rw[bx t];refine aE (bW (aE (G4 aX h ?_)));rw[bx (by simp)];refine aE (bW (aE (G5 aX h ?_)));rw[bx (by simp)];refine bW ?_;simp only[show¬((i:Int)<0)from by omega,if_false,mZ,Hz p];refine aE ?_
 first
 |refine aE (Vc f (bW ?_))
 |refine aE (Ve f (bW ?_))
 change aT _ _ (Co (.ref it) 2 fP >>=_) _ _ s;refine aE (L' c rfl (by simp) ?_);change aT _ _ (Fx (.type "StopIteration") [] >>=_) _ _ _;refine aE ?_;simp only[Fx,newTuple];refine aE (tA ?_ (by size_fits));refine aE (m:=EB _ _) (G7 (a:=fP) (by first|rfl|(simp only[EB];rfl)) (tA ?_ (by size_fits)));have r:A.in1.handled=none:=k;simp only[raiseNew];refine aE (aaL ?_);rw[r];refine aE (bW (aaS ?_));refine aE (aaM (b:=true) (T:="StopIteration") #[_,gG _ rfl,rfl] ķ ?_);exact bW (l _ (Na (Na (acf (H7 ..)) _) _))
theorem agm{Q:cW}(b:s.heap.IsItemsView v d)(k:mW s.heap d es ep)(h:Q (.ref s.heap.objs.size) {s with heap:=s.heap.push {cls:=.type "dict_itemiterator",data:=.fields (List.toArray [.none,.bool false,.ref d,.int 0 0,.int es.size 0,.int ep 0,.none,.none])}}):aT (bg prog w) A (FY (.ref v)) Q E s:=by
 obtain⟨l,f,_,g⟩:=id b;obtain⟨o,aX,_,c⟩:=k;have m:¬((cX d==fP)=true):=ha;have own:HB "dict_itemiterator"=true:=by decide
 have a:=b.typeIs;refine aaR a F.slot_dict_items_iter (pB F.slot_dict_items_iter a F.entry_dict_items_iter ?_ (F.args_dict_items_iter_1 _));unfold Builtin.«dict_items.__iter__» atC;refine aE (bW (aE ?_));refine aE (nS f g (x:=.ref d) rfl (bW (aE ?_)));unfold atD;refine aE (G4 aX c (aE (G5 aX c ?_)));simp only[own,if_true];refine tA ?_ (by simp only[u3,sizeOk,abl,eM,hz,gC,vB];omega);refine bW #[_,rfl,"dict_itemiterator",_,#[_,gG _ rfl,rfl],F.slot_dict_itemiterator_next.lookup,?_];simpa[nO,abl]using h
theorem acV{Q:cW}(g:(d==lh)=false)(f:mW s.heap d es ep)(c:Q (.ref s.heap.objs.size) {s with heap:=s.heap.push {cls:=.type "dict_items",data:=.fields #[.ref d]}}):
  aT (bg prog w) A (call (.builtin "dict.items") ([.ref d]:dx)) Q E s:=by
 obtain⟨o,aX,b,h⟩:=f;have a:s.TypeIs (.ref d) "dict":=#[o,aX,b.1]
 refine pB F.slot_dict_items a F.entry_dict_items ?_ (F.args_dict_items_1 _);unfold Builtin.«dict.items»;refine aE ?_;unfold atB;refine aE (as6 a ?_);show aT _ _ (pure d) _ _ s;refine bW ?_;change aT _ _ (Mz d >>=_) _ _ s;unfold Mz;rw[bx (by rw[g];exact ha)];exact aE (bW (aE (tA (bW #[_,rfl,c]))))
end
section
variable{X:bH}{pins:ee}{U:ao.St}{H:af}{s:aW}{a:Addr}{u u':gQ}
theorem HP(I:Inv X pins U H s)(h:H a=some u)(V:∀f,u≠.tup f)(L:∀y,u≠.own y)(k:fk X.prog X.w (upd H a u') s.heap a u')(j:∀f,X.nZ a≠some (.tup f))(B:∀o v,X.nZ a≠some (.fc o v))(N:∀g,X.nZ a≠some (.rQ g)):Inv X pins U (upd H a u') s:=by
 have d:∀{b:Addr},H b=none->upd H a u' b=none:=λ{b}e=>by rw[aJ (λz=>by rw[z,h]at e;cases e)];exact e
 show#[I.ok,I.os,I.bare,#[I.base.keep,I.base.slot,λb o e n w=>d (I.base.free b o e n w),I.base.there,λb f e=>?_,λb o v e=>?_,λb g e=>?_],I.loc,I.cell,d I.free,λx c e=>d (I.oc x c e),λp m=>?_,λb o e=>?_,I.len]
 .rw[aJ (λz=>by rw[z]at e;exact j f e)];exact I.base.gz b f e
 .rw[aJ (λz=>by rw[z]at e;exact B o v e)];exact I.base.jH b o v e
 .rw[aJ (λz=>by rw[z]at e;exact N g e)];exact I.base.kb b g e
 .obtain⟨r,t,A,K,i⟩:=I.pin p m;show#[r,d t,A,K,i]
 by_cases l:b=a
 .subst l;rw[aK]at e;cases e;exact k
 rw[aJ l]at e;refine(I.bo b o e).nP (λc v _ q=>q) (λc q=>?_) λc f q=>?_
 .rw[aJ (λz=>by rw[z,h]at q;exact L _ (hI q))];exact q
 rw[aJ (λz=>by rw[z,h]at q;exact V _ (hI q))];exact q
inductive asp(cM:TE)(U:ao.St)(H:af)(Q:a4):Prop where
 |mk(a:_)(kvs:_)(_:H a=some (.dB kvs))(_:∀o,cM U (upd H a (.fc o (.dB kvs))) λv H'=>H' a=some (.fc o (.dB kvs))/\Q v (upd H' a (.dB kvs)))
theorem akK(he:bA X e O):bA X e (asp O):=by
 intro pins s U H Q I h;obtain⟨a,d,f,h⟩:=h;have V:∀g,X.nZ a≠some (.tup g):=λg z=>by have:=I.base.gz a g z;rw[f]at this;cases this
 have i:∀o v,X.nZ a≠some (.fc o v):=λo v z=>by have:=I.base.jH a o v z;rw[f]at this;cases this
 have N:∀A,X.nZ a≠some (.rQ A):=λA z=>by obtain⟨m,e⟩:=I.base.kb a A z;rw[f]at e;cases e
 obtain⟨z,y,g,r,o,T,R,e,c⟩:=I.bo a _ f;have lK:∀{H':af}{b:Addr}{K:aO},H b=some (.tup K)->upd H a (.fc o (.dB d)) b=some (.tup K):=λ{H' b K}q=>by rw[aJ (λw=>by rw[w,f]at q;cases q)];exact q
 have G:Inv X pins U (upd H a (.fc o (.dB d))) s:=HP I f (by intro _ w;cases w) (by intro _ w;cases w) #[e,z,y,g,b2.fT r λp q w=>#[w.1,lK (H':=H) w.2.1,w.2.2],o,T,R,e,c] V i N;refine bU (he pins s U _ _ G (h o)) λv s1 E=>?_;obtain⟨x,j,L,M,n,J⟩:=E;obtain⟨aH,D,Z,k,P,i3,C,B,F,Y⟩:=L.bo a _ n;show#[x,upd j a (.dB d),HP L (u':=.dB d) n (by intro _ w;cases w) (by intro _ w;cases w) #[D,Z,k,b2.fT P λp q w=>#[w.1,?_,w.2.2],i3,C,B,F,Y] V i N,M,J];have l:=w.2.1;rw[aJ (λt=>by rw[t,n]at l;cases l)];exact l
end
noncomputable def Nj(a:Addr)(o:Obj)(c:List (List bq×V)):gB:=
 #[λi H=>H a=some (.fc o (.dB c))/\i<c.length,λi H v H'=>∃p b k x,H p=none/\v=.ref p/\c[i]?=some (k,x)/\H b=some (.tup (k.map dq))/\H'=upd H p (.tup [.ref b,x]),λi H=>H a=some (.fc o (.dB c))/\c.length<=i]
theorem MW{w:bf}{H:af}{h:Heap}{o:Obj}{d:List (List bq×V)}(ok:gb P w H h)(D:H a=some (.fc o (.dB d))):h.get? a=some o/\(a==lh)=false/\o.ExactDict/\∃c g,o.data=.dict c g/\c.size=d.length/\
  ∀(i:Nat)(k:List bq)(x:V),d[i]?=some (k,x)->∃b v,(∃n:i<c.size,c[i].key=.ref b/\c[i].val=v)/\H b=some (.tup (k.map dq))/\RelV x v:=by
 obtain⟨K,_,y,s,r,J,c,g,z,C,G,N,_⟩:=ok a _ D;rw[K]at z;cases z;have O:d.length=s.length:=jy r;have M:c.size=s.length:=by have:=fa sb N;simpa using this
 show#[K,y,C,c,g,G,by omega,λi k x n=>?_];have Q:i<d.length:=(gn.mp n).1;have f:∀{l:List (List bq×V)}{m:List (List bq×Addr×Value)}{j:Nat}{p:List bq×V},b2 (λ(p:List bq×V)(q:List bq×Addr×Value)=>p.1=q.1/\H q.2.1=some (.tup (p.1.map dq))/\RelV p.2 q.2.2) l m->l[j]?=some p->∃q,m[j]?=some q/\p.1=q.1/\H q.2.1=some (.tup (p.1.map dq))/\RelV p.2 q.2.2:=λ{l m j p}R=>by
  induction R generalizing j with
  |nil=>intro h;simp at h
  |cons a t u=>
   cases j with
   |zero=>intro h;simp at h;subst h;show#[_,rfl,a]
   |succ j=>intro h;simp at h;simpa using u h
 obtain⟨q,F,_,B,E⟩:=f r n;have e:i<c.size:=by omega
 have A:c[i]=ã (zo (h9 P w)) q:=by
  have L:c.toList[i]?=some (ã (zo (h9 P w)) q):=by rw[N,dV,F];rfl
  have I:c.toList[i]?=some c[i]:=by simp[e]
  rw[I]at L;exact hI L
 show#[q.2.1,q.2.2,#[e,by rw[A];rfl,by rw[A];rfl],B,E]
theorem acW{w:bf}{K:aN}{k:Nat}{o:Obj}{j:List (List bq×V)}{es:Array r9}{ep:Nat}(a d:Addr)(J:o.data=.dict es ep):
  Turn P w K (.Tuple elts k pos) (Nj a o j) [d] d (λi h=>∃x y,xu h d a i es.size ep x y)where
 mem:=by simp
 obj:=λi h st b L=>by
  obtain⟨x,y,g⟩:=st;have q:b=d:=by simpa using L
  subst q;show#[_,g,λv z=>by
   have p:MS _=C6 v:=z;cases p]
 keep:=λi h h' st cQ=>by obtain⟨x,y,g⟩:=st;show#[x,y,cQ d (by simp) _ g]
 item:=by
  intro X gw hw fZ av i l s U H E I Y st T;subst gw hw fZ;obtain⟨x0,Vn,g⟩:=st;obtain⟨R,hi⟩:=T;obtain⟨go,_,du,sC,sA,C,dm,ge⟩:=MW I.bo R;rw[J]at C;cases C;obtain⟨A,yd⟩:∃q,j[i]?=some q:=#[_,dw hi]
  obtain⟨b,v,⟨wh,e6,ev⟩,L,cJ⟩:=ge i A.1 A.2 yd;obtain⟨F,G,f2,Z,f4,fz⟩:=Y d (by simp);refine aid g #[o,go,du,J] wh λah aX iJ aP=>#[_,rfl,?_]
  refine wpAny_letOwnedTupleGo_items aX λN EP M=>?_;have M:kE d ah N:=M;rw[e6,ev]at iJ;have t:H s.heap.objs.size=none:=I.fresh;have D:d<s.heap.objs.size:=dN g;have B:∀c u,c∉[d]->s.heap.get? c=some u->N.get? c=some u:=λc u f q=>by have EK:c≠d:=λz=>f (by simp[z]);exact(M.2 c EK).trans (aP c u EK q)
  have EI:N.get? s.heap.objs.size=some {cls:=.type "tuple",data:=.seq (List.toArray [.ref b,v])}:=(M.2 _ (vN D)).trans iJ;have oy:∀c q,H c=some q->c∉[d]:=λc q f z=>by
   have p:c=d:=by simpa using z
   subst p;rw[F]at f;cases f
  show#[.ref s.heap.objs.size,upd H s.heap.objs.size (.tup [.ref b,A.2]),?_,rfl,#[s.heap.objs.size,b,A.1,A.2,t,rfl,yd,L,rfl],#[_,_,EP],λc f=>?_]
  .show Inv X l U (upd H s.heap.objs.size (.tup [.ref b,A.2])) {s with heap:=N,gens:=s.gens,drawn:=s.drawn,toks:=s.toks};refine I.step (g':=s.gens) (d':=s.drawn) (t':=s.toks) (h':=N) (ch:=[d]) (λc f=>?_) (λc u _ _ f q _=>B c u f q) (λc u _ _ f q _=>#[u.slots,B c u f q]) (λc u f q n=>?_)
    (λc u f q=>#[u,B c u f q]) (λc ys q=>?_) (λc u v q=>?_) (λc ps q=>#[#[],?_]) (λm hm=>?_) (λc u q=>?_) I.bare
   .have p:c=d:=by simpa using f
    subst p;show#[Z,G,f4,fz]
   .rw[aJ (eT (dN q))];exact n
   .rw[aJ (b1 q t)];exact q
   .rw[aJ (b1 q t)];exact q
   .rw[aJ (b1 q t),q];simp
   .obtain⟨u,yf,Q,dh,r⟩:=hm;show#[u,yf,Q,B _ u (λz=>?_) dh,r];exact G (by simpa using z:X.env.locals=d).symm
   by_cases Č:c=s.heap.objs.size
   .subst Č;rw[aK]at q;cases q;show#[(by show 2<=sizeLine;decide),[.ref b,v],.cons rfl (.cons cJ .nil),_,EI,rfl,_,rfl]
   rw[aJ Č]at q;refine(I.bo c u q).nP (λik y O z=>B ik y ?_ z) (λik z=>by rw[aJ (b1 z t)];exact z) λik ys z=>by rw[aJ (b1 z t)];exact z
   rcases O with rfl|O
   .exact oy _ _ q
   exact oy _ _ O
  have p:c=d:=by simpa using f
  subst p;rw[aJ (eT D)];exact F
 done:=by intro X gw hw fZ av i l s U H E I Y st T;subst gw hw fZ;obtain⟨x0,Vn,g⟩:=st;obtain⟨R,hi⟩:=T;obtain⟨go,_,du,sC,sA,C,dm,ge⟩:=MW I.bo R;rw[J]at C;cases C;obtain⟨F,G,f2,Z,f4,fz⟩:=Y d (by simp);exact aie (I.ok.hd av) g #[o,go,du,J] (by omega) λh' dE=>#[rfl,I.turned (t':=s.toks) (λb o L e=>dE b o L e) F G Z f4 fz]
 self:=λ_ _ _ _ _ st h=>by obtain⟨x,y,g⟩:=st;exact PySem.W.kcp_self g h
section
variable{X:bH}{elts:h3}{k:Nat}{zk:Pos}
noncomputable def ajS(d:TE):fi:=λU H R=>d U H λx c=>∃a o b,x=.ref a/\c a=some (.fc o (.dB b))/\R (Nj a o b) c
theorem agn{w t:Pos}(aX:bA X o u)(K:AM o "items" X.env (eval o X.env)=eval o X.env:=by rfl)(A:(w.endLine==t.line)=true:=by rfl):
  oQ X (.Tuple elts k zk) (.Call (.Attribute o "items" w) [] [] t) (ajS u):=by
 intro f s U H R I h;refine wpAny_Call_method0_late K A (bU (aX f s U H _ I h) λv c N=>?_);obtain⟨x,p,r,q,a,l,C,B,i,j⟩:=N;subst B;cases q;obtain⟨g,L,du,es,ep,n,D,E⟩:=MW r.bo i;show#["dict","dict.items",N9,PySem.F.slot_dict_items,PySem.F.type_dict_items,#[l,g,du.1],λb e=>?_,HD rfl (PySem.evalArgs_none ?_)]
 .cases e;show#[l,g,du.2.1]
 refine acV L #[l,g,du,n] ?_;have y:∀b o,c.heap.get? b=some o->(c.heap.push {cls:=.type "dict_items",data:=.fields #[.ref a]}).get? b=some o:=λb o e=>d0 _ e;refine agm (d:=a) (es:=es) (ep:=ep) #[_,gG _ rfl,rfl,rfl] #[l,y _ _ g,du,n] ?_;have m:Inv X f U p {c with heap:=c.heap.push {cls:=.type "dict_items",data:=.fields #[.ref a]}}:=r.kept (t':=c.toks) y;show#[(c.heap.push {cls:=.type "dict_items",data:=.fields #[.ref a]}).objs.size,[(c.heap.push {cls:=.type "dict_items",data:=.fields #[.ref a]}).objs.size],_,_,p,rfl,m.kept (t':=c.toks) λb o e=>d0 _ e,acW a _ n,#[.none,.none,gG _ rfl],λb V=>?_,j];have z:b=(c.heap.push {cls:=.type "dict_items",data:=.fields #[.ref a]}).objs.size:=by simpa using V
 subst z;exact m.sF (cB _) (m.bo.fresh (cB _))
end
section
variable{prog:cx}{w:bf}{A:eu}{E:cW}{s:aW}{it d:Addr}{i ep:Nat}{es:Array r9}
theorem Zh{Q:Option Value->aW->Prop}(b:s.heap.IsKeyIter it d i es.size ep)(m:mW s.heap d es ep)(n:i<es.size)(l:∀g,g.IsKeyIter it d (i+1) es.size ep->kE it s.heap g->Q (some es[i].key) {s with heap:=g}):aT (bg prog w) A (kx (.ref it)) Q E s:=by
 obtain⟨r,f,k,c⟩:=id b;obtain⟨o,aX,_,h⟩:=m;have a:=b.typeIs;have p:¬((cX d==fP)=true):=ha;have own:HB "dict_keyiterator"=false:=by decide
 unfold kx;refine aE (zw (zx (name:=bc "__next__") a F.slot_dict_keyiterator_next (pB F.slot_dict_keyiterator_next a F.entry_dict_keyiterator_next ?_ (F.args_dict_keyiterator_next_1 _))));refine aE (bW (aE (aE ?_)))
 first
 |refine aE (Vd a (bW (aE (zy f c ?_))))
 |refine aE (Vf a (bW (aE (zy f c ?_))))
 simp only[own,My,if_false];change aT _ _ (ite ((cX d==fP)=true) _ _) _ _ s;rw[bx p];refine aE (bW (aE (G4 aX h ?_)));rw[bx (by simp)];refine aE (bW (aE (G5 aX h ?_)));rw[bx (by simp)];refine bW ?_;simp only[show¬((i:Int)<0)from by omega,if_false,mZ,Mq n];refine aE ?_
 first
 |refine aE (Vd a (bW (aE (aaN a ?_))))
 |refine aE (Vf a (bW (aE (aaN a ?_))))
 change aT _ _ (Co (.ref it) 1 (nO ((i:Int)+1)) >>=_) _ _ s;refine aE (L' f c (by simp) ?_);have next:(s.heap.update it (Obj.mapFields (·.setIfInBounds 1 (nO ((i:Int)+1))))).IsKeyIter it d (i+1) es.size ep:=
  #[_,Dn _ f (aeP (NW c _)),(aeO ..).trans k,by simp[NW c,nO]]
 refine aE (oH (aE (aaN (s:={s with heap:=s.heap.update it (Obj.mapFields (·.setIfInBounds 1 (nO ((i:Int)+1))))}) next.typeIs ?_)));exact bW (bW #[_,rfl,bW (l _ next (H7 ..))])
theorem XQ{Q:Option Value->aW->Prop}(n:A.handled=none)(f:s.heap.IsKeyIter it d i es.size ep)(r:mW s.heap d es ep)(t:es.size<=i)(p:∀k,M_ it s.heap k->Q none {s with heap:=k}):
  aT (bg prog w) A (kx (cX it)) Q E s:=by
 obtain⟨L,h,K,g⟩:=id f;obtain⟨o,aX,_,l⟩:=r;have c:=f.typeIs;have z:¬((cX d==fP)=true):=ha;have own:HB "dict_keyiterator"=false:=by decide
 unfold kx;refine aE (zw (zx (name:=bc "__next__") c F.slot_dict_keyiterator_next (pB F.slot_dict_keyiterator_next c F.entry_dict_keyiterator_next ?_ (F.args_dict_keyiterator_next_1 _))));refine aE (bW (aE (aE ?_)))
 first
 |refine aE (Vd c (bW (aE (zy h g ?_))))
 |refine aE (Vf c (bW (aE (zy h g ?_))))
 simp only[own,My,if_false];change aT _ _ (ite ((cX d==fP)=true) _ _) _ _ s;rw[bx z];refine aE (bW (aE (G4 aX l ?_)));rw[bx (by simp)];refine aE (bW (aE (G5 aX l ?_)));rw[bx (by simp)];refine bW ?_;simp only[show¬((i:Int)<0)from by omega,if_false,mZ,Hz t];refine aE ?_
 first
 |refine aE (Vd c (bW ?_))
 |refine aE (Vf c (bW ?_))
 change aT _ _ (Co (.ref it) 0 fP >>=_) _ _ s;refine aE (L' h g (by simp) ?_);change aT _ _ (Fx (.type "StopIteration") [] >>=_) _ _ _;refine aE ?_;simp only[Fx,newTuple];refine aE (tA ?_ (by size_fits));refine aE (m:=EB _ _) (G7 (a:=fP) (by first|rfl|(simp only[EB];rfl)) (tA ?_ (by size_fits)));have y:A.in1.handled=none:=n;simp only[raiseNew];refine aE (aaL ?_);rw[y];refine aE (bW (aaS ?_));refine aE (aaM (b:=true) (T:="StopIteration") #[_,gG _ rfl,rfl] ķ ?_);exact bW (p _ (Na (Na (acf (H7 ..)) _) _))
theorem XR{Q:cW}(h:(d==lh)=false)(g:mW s.heap d es ep)(f:Q (.ref s.heap.objs.size) {s with heap:=s.heap.push {cls:=.type "dict_keyiterator",data:=.fields (List.toArray [.ref d,.int 0 0,.int es.size 0,.int ep 0])}}):aT (bg prog w) A (FY (.ref d)) Q E s:=by
 obtain⟨o,aX,c,b⟩:=g;have a:s.TypeIs (.ref d) "dict":=#[o,aX,c.1]
 refine aaR a F.slot_dict_iter (pB F.slot_dict_iter a F.entry_dict_iter ?_ (F.args_dict_iter_1 _));unfold Builtin.«dict.__iter__» atA;refine aE (aE (as6 a ?_));change aT _ _ (pure (cX d)) _ _ s;refine bW ?_;change aT _ _ (Mz d >>=_) _ _ s;unfold Mz;rw[bx (by rw[h];exact ha)];refine aE (bW (aE (G4 aX b (aE (G5 aX b ?_)))));refine aE (tA ?_);refine bW #[_,rfl,"dict_keyiterator",_,#[_,gG _ rfl,rfl],F.slot_dict_keyiterator_next.lookup,?_];simpa[nO]using f
end
section
variable{X:bH}{e:Expr}{pos:Pos}
noncomputable def akL(b:Eb)(i:Nat):AF:=λD E U H=>b (E U) U H λv a=>D.di (U.set i (some v)) a
theorem XS{i:Nat}{b:Eb}(o:X.N.Nodup)(r:X.N[i]?=some x)(g:Loc X.env.scope x)(p:N0 X e b)(t:Cr e (some (.Name x pos')) pos.line X.env=pure false:=by rfl)(m:X.fn x=true\/X.env.scope.names.lookup x=some .local:=by first|exact .inl rfl|exact .inr rfl|assumption):
  YB X (.Assign [.Name x pos'] e pos) (akL b i):=by intro a s U H D E I h;refine asV (ih (p a s U H _ _ I h) (λv z d=>?_) λe w q=>#[U,q]) t;obtain⟨y,c,f,n,k⟩:=d;exact LS f o r g n (λA l=>#[_,c,l,k]) m
end
end b_
namespace dR
open PySem ao b_ cw
theorem ael{K:aN}{I:fi}{u:TE}{rest:ao.St}{H1:af}{Q:a4}{kvs:List (List bq×ao.V)}(X:∀R:gB->af->Prop,R (Nj a o kvs) H1->I U H R)(T:iN cs U=none::none::rest)(q:H1 a=some (.fc o (.dB kvs)))(P:kvs.length<sizeLine)(f:Nat->List ao.V)(L:∀(i:Nat)(k:List bq)(x:ao.V)(b:Addr)(h:af)(R:a4),kvs[i]?=some (k,x)->aB H1 h->h b=some (.tup (k.map dq))->(∀r n,aB h n->n r=some (.tup (f i))->R (.ref r) n)->u (some (.ref b)::some x::rest) h R)(N:∀(D:Addr)(H':af)(rs:bL),H1 D=none->H' D=some (.lst (aS rs))->eE H' rs ((eB kvs.length).map f)->aB H1 H'->Q (.ref D) H'):
  pq I cs (xg K 2 (rJ (iL 0) (rJ (iL 1) Af))) tS u U H Q:=by
 refine X _ λD bI=>?_;show#[λi m j s H'=>m=kvs.length-i/\i<=kvs.length/\(∃rs,j=aS rs/\eE H' rs ((eB i).map f))/\(∃E G,s=E::G::rest)/\aB H1 H'/\H' D=some (.lst j),#[kvs.length,by simp,e4 _,#[[],rfl,.nil],#[none,none,T],λb o e=>?_,aK],?_]
 .rw[aJ (b1 e bI)];exact e
 rintro i m j s H' ⟨rfl,hi,⟨rs,rfl,A⟩,⟨E,G,rfl⟩,l,w⟩;have Y:=A.len;rw[bP,oO]at Y;show#[w,t8 (by rw[fo];omega) P,?_];by_cases B:i<kvs.length
 .refine .inr #[#[l _ _ q,B],λx h y=>?_];obtain⟨p,b,k,C,J,rfl,Z,M,rfl⟩:=y;have g:=bF (o:=.tup [V.ref b,C]) J;show#[p,_,rfl,cV.of aK,rfl,_,_,rfl,_,_,rfl,rfl,?_];refine L i k C b _ _ Z (l.trans g) (g _ _ M) λr n t O=>#[t _ _ (g _ _ w),kvs.length-(i+1),by omega,rfl,B,#[rs++[r],yP rs r,?_],#[_,_,rfl],λc ob e=>?_,aK]
  .rw[z9,eK];exact eE.upd (Paired.snoc (F:=λr d=>n r=some (.tup d)) O ((A.same g).same t)) (t _ _ (g _ _ w)) (by intro d z;cases z)
  rw[aJ (b1 e bI)];exact t _ _ (g _ _ (l _ _ e))
 have e:i=kvs.length:=by omega
 subst e;exact .inl #[#[l _ _ q,cB _],N D H' rs bI w A l]
noncomputable abbrev Row:=Str×Str×Int
noncomputable def vt(r:Row):List bq:=[.inr r.1,.inr r.2.1,.inl r.2.2]
noncomputable def qx(r:Row):List ao.V:=[.str r.1,.str r.2.1,.int r.2.2]
noncomputable def hD(rs:List Row):List (List bq×ao.V):=rs.map λr=>([.inr r.1,.inr r.2.1],.int r.2.2)
noncomputable def Oi(rs:List Row):List Nat:=rM (o_ (rs.map vt)) rs.length
noncomputable def r0:Row:=(m_,m_,0)
noncomputable def lI(rs:List Row):List Row:=(Oi rs).map λi=>rs.getD i r0
theorem row_shape(rs:List Row):∀d∈rs.map vt,lH d=false::[false,true]:=λd a=>by obtain⟨r,_,rfl⟩:=cm.mp a;rfl
theorem aem{H:af}{rs:List Row}(h:eE H e (rs.map qx)):b2 (λr d=>H r=some (.tup (d.map dq))) e (rs.map vt):=by
 have:∀{e:bL}{rs:List Row},eE H e (rs.map qx)->b2 (λr d=>H r=some (.tup (d.map dq))) e (rs.map vt):=λ{e rs}=>by
  induction rs generalizing e with
  |nil=>intro h;cases h;exact .nil
  |cons r q i=>intro h;cases h with|cons a t=>exact .cons a (i t)
 exact this h
inductive ρ(C aq fh:Addr)(vs:aO)(H:af)(Q:a4)(E:bY):Prop where
 |mk(x n t a' b':Addr)(hs:bt)(ys:aO)(kvs:gm)(h g:Str)(_:vs=[.ref x,.str h,.str g])(_:rF C aq H x n t a' b' (cN hs) ys kvs)(_:Good hs)(_:c7 H (.str h) (.str h))(_:c7 H (.str g) (.str g))(_:(iI (bI hs) (.str h) (.str g)=true->∀H',aB H H'->Q ((dk kvs (f6 h g)).getD .b3) H'))(_:(iI (bI hs) (.str h) (.str g)=false->∀H',aB H H'->E (.ref fh) none H'))
section
variable{P:cx}{w:bf}{K:aN}{mg:cb}{base:Heap}
noncomputable abbrev Lz:Stmt:=fS (top 59) 3
theorem al5:cI iU iU (b5 Lz):={}
theorem akM{f:Addr}(F:cj K "way" "Ways.way" Lz f fd)(d:w' K C)(z:cH K C "need_pair" "Ways.need_pair" Gv iU f2 D)(L:aD P w K mg base (fg P w) 2 f2 D iU (O8 C e I)):
  aD P w K mg base (fg P w) 3 f fd iU (ρ C e I):=by
 have R:=d.cl;refine nL F al5 (λ_ A _ s H vs Q E m h=>?_);obtain⟨x,n,t,N,j,M,U,g,b,a,rfl,W,G,u,B,q,J⟩:=h;obtain⟨l,p⟩:=W.ins;show#[_,(a6 (hj (fy (ae 0) R z.dQ L m.mono z.bd .nil rq (ak (ae 1) (ak (ae 2) aA))))
  (a7 (cd (WH (l8 m) (d5 (ae 0)) (rE (ak (ae 1) (ak (ae 2) aA))) #[rfl,rfl,rfl,rfl])))),?_]
 try dsimp only[cT,cS]
 show#[_,rfl,x,l,_,rfl,p,rfl,_,rfl,_,rfl,x,n,t,N,j,M,_,g,.str b,.str a,.str b,.str a,rfl,W,G,u,B,(by show 0<=60;decide),(by show 0<=60;decide),λi T c=>?_,J];show#[_,rfl,x,C,l,_,_,rfl,c _ _ p,d.cl,d.ec,rfl,t,rfl,.inr #[_,.inl (c _ _ W.told)],_,rfl,_,rfl,(by show 2<=sizeLine;decide),λr O=>?_];have y:=bF (o:=.tup [V.str b,V.str a]) O;show#[_,j9.t (k:=f6 b a) (y _ _ (c _ _ W.told)) aK,q i _ (c.trans y)]
end
end dR
namespace et
variable{κ:Type}[DecidableEq κ]
structure iB(κ:Type)where
 a:κ
 b:κ
 t:Int
inductive Path(rs:List (iB κ))(s:κ):κ->Int->Prop
 |nil:Path rs s s 0
 |snoc{v:Int}(e:iB κ):Path rs s e.a v->e∈rs->Path rs s e.b (v+e.t)
theorem Path.cons{rs:List (iB κ)}(e:iB κ)(a:e∈rs){g:κ}{w:Int}(p:Path rs e.b g w):Path rs e.a g (e.t+w):=by
 induction p with
 |nil=>
  have:=Path.snoc e (Path.nil (rs:=rs) (s:=e.a)) a
  rwa [pK,<-Int.add_zero e.t]at this
 |snoc f _ j i=>
  rw[<-Int.add_assoc];exact Path.snoc f i j
theorem Path.first{rs:List (iB κ)}{s g:κ}{w:Int}(p:Path rs s g w):(s=g/\w=0)\/∃e∈rs,∃u,e.a=s/\Path rs e.b g u/\w=e.t+u:=by
 induction p with
 |nil=>exact .inl #[rfl,rfl]
 |@snoc v f _ i j=>
  refine .inr ?_;rcases j with⟨rfl,rfl⟩|⟨e,he,u,aH,p,rfl⟩
  .show#[f,i,0,rfl,.nil,by omega]
  show#[e,he,u+f.t,aH,.snoc f p i,by omega]
theorem Path.nonneg{rs:List (iB κ)}(a:∀e∈rs,1<=e.t){s g:κ}{w:Int}(p:Path rs s g w):0<=w:=by
 induction p with
 |nil=>exact vy _
 |snoc e _ he i=>have:=a e he;omega
structure NB(rs:List (iB κ))(s:κ)(d:κ->Option Int):Prop where
 path:∀k v,d k=some v->Path rs s k v
 least:∀k w,Path rs s k w->∃v,d k=some v/\v<=w
structure pR(rs:List (iB κ))(s:κ)(ns:List κ)(d:κ->Option Int):Prop where
 start:d s=some 0
 path:∀k v,d k=some v->Path rs s k v
 c3:∀k v,d k=some v->v<9*(ns.countP λk=>(d k).isSome)
noncomputable def ok(d:κ->Option Int)(e:iB κ):Prop:=∀v,d e.a=some v->∃u,d e.b=some u/\u<=v+e.t
theorem pR.done{rs:List (iB κ)}{s:κ}{c:List κ}{d:κ->Option Int}(m:pR rs s c d)(h:∀e∈rs,ok d e):NB rs s d:=by
 show#[m.path,λk w p=>?_]
 induction p with
 |nil=>show#[0,m.start,vy _]
 |snoc e _ he i=>
  obtain⟨v,a,f⟩:=i;obtain⟨u,b,g⟩:=h e he v a;show#[u,b,by omega]
noncomputable def put(d:κ->Option Int)(b:κ)(v:Int):κ->Option Int:=λk=>if k=b then some v else d k
theorem count_le{p q:κ->Bool}(h:∀k,p k=true->q k=true):∀a:List κ,a.countP p<=a.countP q
 |[]=>by simp
 |k::r=>by have b:=count_le h r;simp only[adm];have:=h k;split<;>split<;>simp_all<;>omega
theorem Px{p q:κ->Bool}(h:∀k,p k=true->q k=true){b:κ}(a:p b=false)(c:q b=true):∀{ns:List κ},b∈ns->ns.countP p<ns.countP q
 |[],z=>by simp at z
 |k::r,z=>by
  simp only[adm];by_cases e:k=b
  .subst e;have:=count_le h r;simp[a,c];omega
  have d:=Px h a c (ns:=r) (by rcases dr.mp z with z|z;exact bG z.symm e;exact z);have:=h k;split<;>split<;>simp_all<;>omega
theorem CK{f g:κ->Nat}(h:∀k,f k<=g k):∀a:List κ,(a.map f).sum<=(a.map g).sum
 |[]=>by simp
 |k::r=>by have:=CK h r;have:=h k;simp only[jd,NO];omega
theorem Zi{f g:κ->Nat}(h:∀k,f k<=g k){b:κ}(a:f b<g b):∀{ns:List κ},b∈ns->(ns.map f).sum<(ns.map g).sum
 |[],z=>by simp at z
 |k::r,z=>by
  simp only[jd,NO];by_cases e:k=b
  .subst e;have:=CK h r;omega
  have c:=Zi h a (ns:=r) (by rcases dr.mp z with z|z;exact bG z.symm e;exact z);have:=h k;omega
noncomputable def val(n:Nat):Option Int->Nat
 |none=>n
 |some v=>v.toNat
noncomputable def b9(a:List κ)(d:κ->Option Int):Nat:=(a.map λk=>val (9*a.length) (d k)).sum
theorem pR.put{rs:List (iB κ)}{s:κ}{a:List κ}{d:κ->Option Int}(m:pR rs s a d)(n:∀e∈rs,1<=e.t/\e.t<=9){e:iB κ}(c:e∈rs)(o:e.b∈a){v:Int}(l:d e.a=some v)(f:∀u,d e.b=some u->v+e.t<u):
  pR rs s a (put d e.b (v+e.t))/\b9 a (et.put d e.b (v+e.t))<b9 a d:=by
 have j:0<=v:=(m.path _ _ l).nonneg λe c=>(n e c).1;have x:=n e c;have g:∀k w,et.put d e.b (v+e.t) k=some w->Path rs s k w:=λk w h=>by
  unfold et.put at h;split at h
  .rename_i q;cases h;rw[q];exact .snoc e (m.path _ _ l) c
  exact m.path k w h
 have t:∀k,(d k).isSome=true->(et.put d e.b (v+e.t) k).isSome=true:=λk h=>by
  unfold et.put;split
  .rfl
  exact h
 have p:∀k w,et.put d e.b (v+e.t) k=some w->w<9*(a.countP λk=>(et.put d e.b (v+e.t) k).isSome):=λk w h=>by
  have L:=count_le t a;by_cases q:k=e.b
  .have r:w=v+e.t:=by unfold et.put at h;rw[bS q]at h;exact(hI h).symm
   have K:=m.c3 _ _ l;cases hd:d e.b with
   |some u=>
    have:=f u hd;have:=m.c3 _ _ hd;omega
   |none=>
    have B:a.countP (λk=>(d k).isSome)<a.countP λk=>(et.put d e.b (v+e.t) k).isSome:=Px t (b:=e.b) (by rw[hd];rfl) (by unfold et.put;rw[bS rfl];rfl) o;omega
  have r:d k=some w:=by
   unfold et.put at h
   rwa [bx q]at h
  have:=m.c3 k w r;omega
 show#[#[?_,g,p],?_]
 .unfold et.put;split
  .rename_i q;rw[<-q]at f;have:=f 0 m.start;omega
  exact m.start
 have i:a.countP (λk=>(et.put d e.b (v+e.t) k).isSome)<=a.length:=adn;have V:=p e.b (v+e.t) (by unfold et.put;rw[bS rfl]);have y:val (9*a.length) (et.put d e.b (v+e.t) e.b)<val (9*a.length) (d e.b):=by
  have A:et.put d e.b (v+e.t) e.b=some (v+e.t):=by unfold et.put;rw[bS rfl]
  have N:((v+e.t).toNat:Int)=v+e.t:=xt (by omega);rw[A];cases hd:d e.b with
  |some u=>
   have:=f u hd;show(v+e.t).toNat < u.toNat
   omega
  |none=>
   show(v+e.t).toNat < 9*a.length;omega
 refine Zi (λk=>?_) (b:=e.b) y o;by_cases q:k=e.b
 .subst q;exact mi y
 have z:et.put d e.b (v+e.t) k=d k:=by unfold et.put;rw[bx q]
 rw[z];exact cB _
theorem pR.begin{rs:List (iB κ)}{s:κ}{a:List κ}(b:s∈a):pR rs s a (λk=>if k=s then some 0 else none):=by
 show#[by simp,λk v h=>?_,λk v h=>?_]
 .split at h
  .rename_i q;cases h;rw[q];exact .nil
  cases h
 split at h
 .cases h;have:0<a.countP λk=>((if k=s then some (0:Int)else none).isSome):=ado.mpr #[s,b,by simp];omega
 cases h
structure I3(rs:List (iB κ))(f:κ->Option Int)(g:κ):Prop where
 path:∀k v,f k=some v->Path rs k g v
 least:∀k w,Path rs k g w->∃v,f k=some v/\v<=w
section
variable{rs:List (iB κ)}{f:κ->Option Int}{g:κ}(F:I3 rs f g)(aG:∀e∈rs,1<=e.t)
include F
theorem I3.back{e:iB κ}(b:e∈rs){u:Int}(h:f e.b=some u):∃v,f e.a=some v/\v<=u+e.t:=by obtain⟨v,a,c⟩:=F.least _ _ (Path.cons e b (F.path _ _ h));show#[v,a,by omega]
include aG in
theorem I3.other{k:κ}{v:Int}(c:k≠g)(h:f k=some v):1<=v/\∃e∈rs,∃u,e.a=k/\f e.b=some u/\v=u+e.t:=by
 rcases(F.path _ _ h).first with⟨e,_⟩|⟨e,he,u,rfl,p,rfl⟩
 .exact bG e c
 have l:=p.nonneg aG;have m:=aG e he;obtain⟨d,a,n⟩:=F.least _ _ p;obtain⟨r,b,o⟩:=F.back he a;rw[h]at b;cases b;show#[by omega,e,he,d,rfl,a,by omega]
end
theorem Path.min{rs:List (iB κ)}(b:∀e∈rs,1<=e.t){s g:κ}:∀(n:Nat)(w:Int),w.toNat=n->Path rs s g w->∃v,Path rs s g v/\(∀u,Path rs s g u->v<=u):=by
 intro n
 induction n using aev with
 |_ n i=>
  intro w f p;by_cases h:∃u,Path rs s g u/\u<w
  .obtain⟨u,a,d⟩:=h;have c:=a.nonneg b;exact i u.toNat (by omega) u rfl a
  show#[w,p,λu a=>?_];by_cases q:w<=u
  .exact q
  exact bG #[u,a,by omega] h
open Classical in
noncomputable def dist(rs:List (iB κ))(s g:κ):Option Int:=if h:∃v,Path rs s g v/\∀u,Path rs s g u->v<=u then some (abG h)else none
theorem anM{rs:List (iB κ)}{s:κ}{d:κ->Option Int}(L:NB rs s d)(g:κ):d g=dist rs s g:=by
 unfold dist;cases hd:d g with
 |some v=>
  have p:=L.path g v hd;have k:∀u,Path rs s g u->v<=u:=λu n=>by obtain⟨m,f,l⟩:=L.least g u n;rw[hd]at f;cases f;exact l
  have h:∃v,Path rs s g v/\∀u,Path rs s g u->v<=u:=#[v,p,k]
  rw[dif_pos h];have c:=MI h;congr 1;have a:=k _ c.1;have b:=c.2 _ p;omega
 |none=>
  have h:¬∃v,Path rs s g v/\∀u,Path rs s g u->v<=u:=λ⟨v,p,_⟩=>by obtain⟨m,f,_⟩:=L.least g v p;rw[hd]at f;cases f
  rw[dif_neg h]
theorem è{rs:List (iB κ)}(a:∀e∈rs,1<=e.t)(g:κ):I3 rs (λk=>dist rs k g) g:=by
 show#[λk v h=>?_,λk w p=>?_]
 .unfold dist at h;split at h
  .rename_i q;cases h;exact(MI q).1
  cases h
 have q:=p.min a _ _ rfl;show∃v,dist rs k g=some v/\v<=w;unfold dist;rw[dif_pos q];show#[_,rfl,(MI q).2 _ p]
end et
namespace dR
open PySem ao b_ cw
noncomputable def cF(a:bt)(d:cw.fD):et.iB Str:=#[S (a.getD d.a []),S (a.getD d.b []),d.t]
noncomputable def kl(a:bt)(ds:cC):List (et.iB Str):=ds.map (cF a)
structure Tab(kvs:List (bq×ao.V))(D:nc):Prop where
 at_:∀k:Str,dk kvs (fM k:bq)=(D k).map V.int
 dv:∀ck∈kvs,∃k:Str,ck.1=(fM k:bq)
theorem aif{c:List (bq×ao.V)}(h:∀a∈c,∃k:Str,a.1=(fM k:bq))(b:Str)(v:ao.V):∀a∈fw c (fM b:bq) v,∃k:Str,a.1=(fM k:bq):=by
 intro a d;unfold fw at d;split at d
 .obtain⟨q,g,e⟩:=cm.mp d;obtain⟨k,f⟩:=h q g;split at e
  .show#[k,by rw[<-e];exact f]
  show#[k,by rw[<-e];exact f]
 rcases hy.mp d with z|z
 .exact h a z
 show#[b,by rw[gp.mp z]]
theorem Tab.put{a:List (bq×ao.V)}{D:nc}(T:Tab a D)(b:Str)(v:Int):Tab (fw a (fM b:bq) (.int v)) (et.put D b v):=#[λk=>by
 rw[Gg];unfold et.put;by_cases h:k=b
 .rw[bS h,bS (fa fM h)];rfl
 rw[bx h,bx λz=>h (Ot z)];exact T.at_ k,aif T.dv b _]
theorem WQ{b:Type}[DecidableEq b]{a:List (b×ao.V)}{k:b}(v:ao.V)(h:dk a k=some u):(fw a k v).length=a.length:=by unfold fw;rw[bS (by rw[rt,h];rfl),bP]
noncomputable def ze(D:nc)(e:et.iB Str):Bool:=match D e.a with
 |none=>false
 |some v=>match D e.b with
  |none=>true
  |some u=>decide (v+e.t<u)
theorem abK{D:nc}{e:et.iB Str}(h:ze D e=true):∃v,D e.a=some v/\∀u,D e.b=some u->v+e.t<u:=by
 unfold ze at h;cases az:D e.a with
 |none=>rw[az]at h;cases h
 |some v=>
  rw[az]at h;show#[v,rfl,λu a=>?_];rw[a]at h;exact nK h
theorem ats{D:nc}{e:et.iB Str}(h:ze D e=false):et.ok D e:=by
 intro v a;unfold ze at h;rw[a]at h;cases aa:D e.b with
 |none=>rw[aa]at h;cases h
 |some u=>
  rw[aa]at h;show#[u,rfl,by have:=of_decide_eq_false h;omega]
inductive XT(vs:aO)(H:af)(Q:a4)(f':bY):Prop where
 |mk(r f:Addr)(hs:bt)(d:cw.fD)(kvs:List (bq×ao.V))(D:nc)(_:vs=[.ref r,.ref f])(_:H r=some (.tup (gY hs d)))(_:H f=some (.cv kvs))(_:Tab kvs D)(_:Q (.aV (ze D (cF hs d))) H)
inductive Xz(K:aN)(vs:aO)(H:af)(Q:a4)(f':bY):Prop where
 |mk(b:Addr)(hs:bt)(rs:bL)(ds:cC)(h:Str)(_:vs=[.ref b,.str h])(_:aQ K H b (aS rs))(_:gs H hs rs ds)(_:hs.length<=12)(_:h∈hs.map S)(_:∀(p:Addr)(H':af)(kvs:List (bq×ao.V))(D:nc),H p=none->aB H H'->H' p=some (.cv kvs)->Tab kvs D->et.NB (kl hs ds) h D->Q (.ref p) H')
section
variable{P:cx}{w:bf}{K:aN}{mg:cb}{base:Heap}
noncomputable abbrev HQ:Stmt:=top 55
noncomputable abbrev HR:Stmt:=top 56
theorem aih:cI Ac Ac (b5 HQ):={}
theorem CB:cI ["roads","house","found","changed","road"] DK (b5 HR):={}
theorem ago{f:Addr}(F:cj K "is_shorter_by" "is_shorter_by" HQ f fd):aD P w K mg base a3 1 f fd Ac XT:=by
 refine F.ok aih (λ_ A _ s H vs Q E c h=>?_);obtain⟨r,l,a,d,t,D,rfl,b,n,T,q⟩:=h;show#[_,(a6 (d8 (Hh (US (l8 c) (b8 eH (ae 0) aZ) (ae 1))) (a7 (cd iK)) ed)
  (a7 (cd (w6 (aiN (US (l8 c) (b8 eH (ae 0) aZ) (ae 1))) (ta (o3 zR (bO jj (wK (l8 c) (ae 1) (b8 eH (ae 0) aZ) (λ_ _=>rfl)) (b8 eH (ae 0) aZ)) (wK (l8 c) (ae 1) (b8 eH (ae 0) aZ) (λ_ _=>rfl)) (ek _))))))),?_]
 try dsimp only[cT,cS]
 have y:=T.at_ (S (a.getD d.a []));have z:=T.at_ (S (a.getD d.b []));have g:=j9.k (k:=fM (S (a.getD d.a []))) n;have m:=j9.k (k:=fM (S (a.getD d.b []))) n;rw[y]at g;rw[z]at m;unfold ze at q;have o:(cF a d).a=S (a.getD d.a []):=rfl;have p:(cF a d).b=S (a.getD d.b []):=rfl;rw[o,p]at q;show#[_,rfl,r,_,_,_,rfl,rfl,cV.of b,rfl,_,rfl,l,_,rfl,g,_,rfl,?_];cases az:D (S (a.getD d.a []))with
 |none=>
  rw[az]at q;exact hU q
 |some v=>
  rw[az]at q g;refine fR ?_;show#[_,rfl,r,_,_,_,rfl,rfl,cV.of b,rfl,_,rfl,l,_,rfl,m,_,rfl,?_];cases aa:D (S (a.getD d.b []))with
  |none=>
   rw[aa]at q;exact hU q
  |some u=>
   rw[aa]at q m;refine fR ?_;show#[_,rfl,_,rfl,r,_,_,_,rfl,rfl,cV.of b,rfl,l,_,rfl,g,_,rfl,r,_,_,_,rfl,rfl,cV.of b,rfl,_,_,rfl,rfl,_,rfl,_,rfl,r,_,_,_,rfl,rfl,cV.of b,rfl,l,_,rfl,m,_,_,rfl,rfl,q]
inductive amt(b p:Addr)(h':Str)(hs:bt)(ds:cC)(H:af)(m:Nat)(U:ao.St)(dC:af):Prop where
 |mk(kvs:List (bq×ao.V))(D:nc)(ch:Bool)(L6:lY)(_:U=[some (.ref b),some (.str h'),some (.ref p),some (.aV ch),L6])(_:aB H dC)(_:dC p=some (.cv kvs))(_:Tab kvs D)(_:kvs.length<=(hs.map S).countP (λk=>(D k).isSome))(_:et.pR (kl hs ds) h' (hs.map S) D)(_:ch=false->∀e∈kl hs ds,et.ok D e)(_:m=2*et.b9 (hs.map S) D+(if ch=true then 1 else 0))
inductive amu(b p:Addr)(h':Str)(hs:bt)(ds:cC)(H:af)(D:nc)(i:Nat)(U:ao.St)(kD:af):Prop where
 |mk(kZ:List (bq×ao.V))(cg:nc)(n_:Bool)(vb:lY)(_:U=[some (.ref b),some (.str h'),some (.ref p),some (.aV n_),vb])(_:aB H kD)(_:kD p=some (.cv kZ))(_:Tab kZ cg)(_:kZ.length<=(hs.map S).countP (λk=>(cg k).isSome))(_:et.pR (kl hs ds) h' (hs.map S) cg)(_:(n_=false/\cg=D/\∀j d,j<i->ds[j]?=some d->et.ok cg (cF hs d))\/(n_=true/\et.b9 (hs.map S) cg<et.b9 (hs.map S) D))
theorem agf{f fs:Addr}(F:cj K "least_turns_from" "least_turns_from" HR f fd)(A':cu K mg "is_shorter_by" HQ Ac fs aoi)(R_:aD P w K mg base a3 1 fs aoi Ac XT):
  aD P w K mg base a3 2 f fd DK (Xz K):=by
 refine F.ok CB (λ_ A _ s H vs Q E al h=>?_);obtain⟨b,a,rs,ds,g,rfl,aa,dn,c3,hm,q⟩:=h;show#[_,(a6 (dO 2 CB.aI (ahN (af5 (ae 1) aZ ahM) rfl rfl (by intro z;cases z) (by decide)))
  (a6 (dO 3 CB.aI iK)
  (a6 (ae7 lW (kU (ae 3))
   (a6 (dO 3 CB.aI iK)
  (a7 (lD lW rfl (jE (ae 0)) (fG 4 CB.aI)
   (a7 (d8 (kU (d9 R_ A' al.mono b0 (ak (ae 4) (ak (ae 2) aA)))) (a6 (Me (l8 al) (ae 2) (b8 eH (ae 4) aZ) (bO jj (wK (l8 al) (ae 2) (b8 eH (ae 4) aZ) (λ_ _=>rfl)) (b8 eH (ae 4) aZ)) rfl)
  (a7 (dO 3 CB.aI iK))) ed))))))
  (a7 (cd (ae 2)))))),?_]
 try dsimp only[cT,cS]
 have ao0:∀e∈kl a ds,1<=e.t/\e.t<=9:=λe he=>by obtain⟨d,G,rfl⟩:=cm.mp he;exact(dn.ok d G).t
 refineλp Y=>#[_,rfl,aK,[(fM g,.int 0)],rfl,(by show 1<=15;decide),?_]
 have dg:upd (upd H p (.cv [])) p (.cv (CJ [] [((fM g:bq),V.int 0)]))=upd H p (.cv [((fM g:bq),V.int 0)]):=by rw[y9];rfl
 rw[dg];have s0:aB H (upd H p (.cv [((fM g:bq),V.int 0)])):=bF Y;have T0:Tab [((fM g:bq),V.int 0)] (λk=>if k=g then some 0 else none):=#[λk=>by
  by_cases z:k=g
  .rw[od (fa fM z.symm),bS z];rfl
  rw[nx λy=>z (Ot y).symm,bx z];rfl,λck N=>#[g,by rw[gp.mp N]]]
 have m0:et.pR (kl a ds) g (a.map S) (λk=>if k=g then some 0 else none):=et.pR.begin hm;have Ê:0<(a.map S).countP λk=>((if k=g then some (0:Int)else none).isSome):=ado.mpr #[g,hm,by simp];show#[amt b p g a ds H,
  #[_,_,_,true,none,rfl,s0,aK,T0,Ê,m0,λz=>(nomatch z),rfl],?_]
 rintro m U dC ⟨R,D,ch,L6,rfl,au,N,T,len,mid,bo,rfl⟩;show#[_,rfl,_,rfl,?_];cases ch with
 |false=>exact fR #[_,rfl,q p dC R D Y au N T (mid.done (bo rfl))]
 |true=>
  refine hU #[λO I=>∃(l:List (bq×ao.V))(c:nc)(o:Bool)(B:lY),O=[some (.ref b),some (.str g),some (.ref p),some (.aV o),B]/\aB H I/\I p=some (.cv l)/\Tab l c/\
   l.length<=(a.map S).countP (λk=>(c k).isSome)/\et.pR (kl a ds) g (a.map S) c/\((o=false/\c=D/\∀e∈kl a ds,et.ok c e)\/(o=true/\et.b9 (a.map S) c<et.b9 (a.map S) D)),?_,?_]
  .rintro O I ⟨l,c,o,B,rfl,L,x,t,J,C,n⟩;show#[_,?_,l,c,o,B,rfl,L,x,t,J,C,?_,rfl]
   .rcases n with⟨rfl,rfl,_⟩|⟨rfl,dy⟩
    .simp
    simp;omega
   rintro rfl;rcases n with⟨_,_,aX⟩|⟨z,_⟩
   .exact aX
   cases z
  show#[_,rfl,b,rfl,#[_,au.seq aa],?_];refine qa (xs:=aS rs) (amu b p g a ds H D)
   #[R,D,false,L6,rfl,au,N,T,len,mid,.inl #[rfl,rfl,λj d M _=>bG M (IF _)]] ?_ ?_ ?_
  .rintro i O I hi ⟨l,c,o,B,rfl,L,_⟩;exact L.seq aa
  .rintro i z O I fQ ⟨l,c,o,B,rfl,L,x,t,J,C,n⟩;unfold aS at fQ;rw[dV]at fQ;obtain⟨r,gW,rfl⟩:=gS.mp fQ;obtain⟨d,à,B',G⟩:=dn.get gW;have apt:cF a d∈kl a ds:=cm.mpr #[d,fC à,rfl];show#[_,rfl,_,rfl,r,p,a,d,l,c,rfl,L _ _ G,x,t,_,rfl,?_];cases yA:ze c (cF a d)with
   |false=>
    refine fR #[l,c,o,_,rfl,L,x,t,J,C,?_];rcases n with⟨rfl,rfl,aX⟩|n
    .refine .inl #[rfl,rfl,λj d' M gh=>?_];by_cases QY:j=i
     .subst QY;rw[à]at gh;cases gh;exact ats yA
     exact aX j d' (by omega) gh
    exact .inr n
   |true=>
    obtain⟨v,az,uL⟩:=abK yA;have wc:c (S (a.getD d.a []))=some v:=az;obtain⟨aqF,dy⟩:=C.put ao0 apt (HI B'.b) az uL;have ga:=j9.k (k:=fM (S (a.getD d.a []))) x;rw[t.at_,wc]at ga;have EL:(a.map S).countP (λk=>(c k).isSome)<=(a.map S).length:=adn;rw[bP]at EL;have X:=L _ _ G;refine hU ?_;show#[_,rfl,_,rfl,r,_,_,_,rfl,rfl,cV.of X,rfl,p,_,rfl,ga,_,rfl,r,_,_,_,rfl,rfl,cV.of X,rfl,_,_,rfl,rfl,_,rfl,_,rfl,r,_,_,_,rfl,rfl,cV.of X,rfl,p,_,rfl,tD.k (k:=fM (S (a.getD d.b []))) x (e' (by omega)),?_];show#[_,et.put c (cF a d).b (v+(cF a d).t),true,_,rfl,gJ Y L,aK,t.put _ _,?_,aqF,.inr #[rfl,?_]]
    .cases d7:c (S (a.getD d.b []))with
     |none=>
      have Z:(fw l (fM (S (a.getD d.b [])):bq) (V.int (v+d.t))).length=l.length+1:=by rw[Ca _ (by rw[t.at_,d7];rfl),eM];rfl
      have aF:(a.map S).countP (λk=>(c k).isSome)<(a.map S).countP (λk=>(et.put c (cF a d).b (v+(cF a d).t) k).isSome):=
       et.Px (b:=S (a.getD d.b [])) (λk N=>by unfold et.put;split;rfl;exact N) (by rw[d7];rfl) (by unfold et.put;rw[bS (show S (a.getD d.b [])=(cF a d).b from rfl)];rfl) (HI B'.b)
      exact dX (NR Z) (by omega)
     |some u=>
      have Z:(fw l (fM (S (a.getD d.b [])):bq) (V.int (v+d.t))).length=l.length:=WQ _ (by rw[t.at_,d7];rfl);have aF:(a.map S).countP (λk=>(c k).isSome)<=(a.map S).countP (λk=>(et.put c (cF a d).b (v+(cF a d).t) k).isSome):=
       et.count_le (λk N=>by unfold et.put;split;rfl;exact N) _
      exact dX (NR Z) (by omega)
    rcases n with⟨_,rfl,_⟩|⟨_,aj⟩
    .exact dy
    exact NS dy aj
  rintro O I ⟨l,c,o,B,rfl,L,x,t,J,C,n⟩;show#[l,c,o,B,rfl,L,x,t,J,C,?_];rcases n with⟨rfl,rfl,aX⟩|n
  .refine .inl #[rfl,rfl,λe he=>?_];obtain⟨d,G,rfl⟩:=cm.mp he;obtain⟨j,M⟩:=t2 G;refine aX j d ?_ M;have ah:=(gn.mp M).1;have aj:=dn.len;rw[fo];omega
  exact .inr n
end
end dR
namespace b_
open PySem PySem.Spec PyProof.Rows ao
section
variable{X:bH}
noncomputable def amv(d:fO):fO:=λD U H=>∃a b,H a=some (.cv b)/\∀o,d #[λc H'=>H' a=some (.fc o (.cv b))/\D.di c (upd H' a (.cv b)),λv H'=>H' a=some (.fc o (.cv b))/\D.u2 v (upd H' a (.cv b)),λc H'=>H' a=some (.fc o (.cv b))/\D.hh c (upd H' a (.cv b)),λc H'=>H' a=some (.fc o (.cv b))/\D.fv c (upd H' a (.cv b))] U (upd H a (.fc o (.cv b)))
theorem ajT{st:Stmt}(Q:h2 X st T):h2 X st (amv T):=by
 intro d s U H D I h;obtain⟨a,n,p,h⟩:=h;have i:∀N,X.nZ a≠some (.tup N):=λN z=>by have:=I.base.gz a N z;rw[p]at this;cases this
 have j:∀o v,X.nZ a≠some (.fc o v):=λo v z=>by have:=I.base.jH a o v z;rw[p]at this;cases this
 have V:∀A,X.nZ a≠some (.rQ A):=λA z=>by obtain⟨m,e⟩:=I.base.kb a A z;rw[p]at e;cases e
 have ok:=I.bo a _ p;obtain⟨z,y,vs,K,o,M,J,e,c⟩:=id ok;have F:Inv X d U (upd H a (.fc o (.cv n))) s:=HP I p (by intro _ w;cases w) (by intro _ w;cases w) #[e,z,y,vs,K,o,M,J,e,c] i j V;have b:∀{g:ao.St}{H':af}{L:aW},Inv X d g H' L->H' a=some (.fc o (.cv n))->Inv X d g (upd H' a (.cv n)) L:=λ{g H' L}k l=>by obtain⟨Y,C,P,t,r,R,B,u,E,O⟩:=k.bo a _ l;exact HP k (u':=.cv n) l (by intro _ w;cases w) (by intro _ w;cases w) #[C,P,t,r,R,B,u,E,O] i j V
 refine bU (Q d s U _ _ F (h o)) λf Z q=>?_;cases f with
 |next=>
  obtain⟨g,H',k,l,q⟩:=q;show#[g,_,b k l,q]
 |brk=>
  obtain⟨g,H',k,l,q⟩:=q;show#[g,_,b k l,q]
 |cont=>
  obtain⟨g,H',k,l,q⟩:=q;show#[g,_,b k l,q]
 |ret v=>
  obtain⟨g,x,H',k,G,l,q⟩:=q;show#[g,x,_,b k l,G,q]
noncomputable def O9(a:Addr)(o:Obj)(b:List (bq×V)):gB:=
 #[λi H=>H a=some (.fc o (.cv b))/\i<b.length,λi H v H'=>H'=H/\∃k x,v=dq k/\b[i]?=some (k,x),λi H=>H a=some (.fc o (.cv b))/\b.length<=i]
theorem Do{w:bf}{H:af}{h:Heap}{o:Obj}{c:List (bq×V)}(ok:gb P w H h)(G:H a=some (.fc o (.cv c))):h.get? a=some o/\(a==lh)=false/\o.ExactDict/\∃g N,o.data=.dict g N/\g.size=c.length/\
  ∀(i:Nat)(k:bq)(x:V),c[i]?=some (k,x)->∃C:i<g.size,RelV (dq k) g[i].key:=by
 obtain⟨B,_,y,vs,d,O,g,N,z,F,J,_,s,_⟩:=ok a _ G;rw[B]at z;cases z;have gen:∀{c:List (bq×V)}{K:List (bq×Value)}{m:List r9},gR c K->Pairs (h9 P w) m K->m.length=c.length/\∀(i:Nat)(k:bq)(x:V),c[i]?=some (k,x)->∃e,m[i]?=some e/\RelV (dq k) e.key:=by
  intro c K m d s
  induction s generalizing c with
  |nil=>
   cases d;show#[rfl,λi k x e=>by simp at e]
  |@cons e I m K A u t E=>
   cases d with
   |@cons p q R Q a b=>
    obtain⟨l,f⟩:=E b;show#[by rw[gC,gC,l],λi k x j=>?_];cases i with
    |zero=>
     simp only[ads,aeY]at j;show#[e,rfl,?_];have z:I.1=k:=by rw[<-a.1,j]
     rw[z]at A;rcases sD (show zA k e.key=true from A)with⟨n,t,rfl,L⟩|⟨n,t,rfl,L⟩
     .show#[t,L]
     show#[t,L]
    |succ i=>exact f i k x (by simpa using j)
 obtain⟨l,f⟩:=gen d s;show#[B,y,F,g,N,J,by simpa using l,λi k x C=>?_];obtain⟨e,D,r⟩:=f i k x C;obtain⟨A,u⟩:=gn.mp D;have M:i<g.size:=by simpa using A
 show#[M,?_];have:g[i]=e:=by simpa using u
 rw[this];exact r
end
theorem acX{w:bf}{K:aN}{o:Obj}{n:List (bq×V)}{Z:Array r9}{Y:Nat}(a l:Addr)(L:o.data=.dict Z Y):
  Turn P w K ez (O9 a o n) [l] l (λi h=>h.IsKeyIter l a i Z.size Y)where
 mem:=by simp
 obj:=λi h st b g=>by
  obtain rfl:b=l:=by simpa using g
  obtain⟨o,e,c,d⟩:=st;show#[o,e,λv z=>by rw[d]at z;cases z]
 keep:=λi h y st k=>by obtain⟨o,e,r⟩:=st;show#[o,k l (by simp) o e,r]
 item:=by
  intro X O R G T i f s U H E I t st u;subst O R G;obtain⟨j,hi⟩:=u;obtain⟨M,_,du,sC,sA,p,dm,ge⟩:=Do I.bo j;rw[L]at p;cases p;obtain⟨m,yd⟩:∃q,n[i]?=some q:=#[_,dw hi]
  obtain⟨wh,wV⟩:=ge i m.1 m.2 yd;obtain⟨B,C,f2,x,D,J⟩:=t l (by simp);refine Zh st #[o,M,du,L] wh λy ie cL=>?_;have aU:Inv X f U H {s with heap:=y}:=I.turned (t':=s.toks) (λb o g e=>(cL.2 b g).trans e) B C x D J;obtain⟨Ū,e,c,d⟩:=id ie;show#[_,rfl,zP (s:={s with heap:=y}) e c d (by decide) #[dq m.1,H,aU,wV,#[rfl,m.1,m.2,rfl,yd],ie,λb g=>(t b g).1]]
 done:=by intro X O R G T i f s U H E I t st u;subst O R G;obtain⟨j,hi⟩:=u;obtain⟨M,_,du,sC,sA,p,dm,ge⟩:=Do I.bo j;rw[L]at p;cases p;obtain⟨B,C,f2,x,D,J⟩:=t l (by simp);exact XQ (I.ok.hd T) st #[o,M,du,L] (by omega) λy dE=>#[rfl,I.turned (t':=s.toks) (λb o g e=>dE b o g e) B C x D J]
 self:=λA i s Q E st h=>by have N:=st.typeIs;refine aaR N F.slot_dict_keyiterator_iter (pB F.slot_dict_keyiterator_iter N F.entry_dict_keyiterator_iter ?_ (F.args_dict_keyiterator_iter_1 _));exact bW #[_,rfl,"dict_keyiterator",_,N,F.slot_dict_keyiterator_next.lookup,h]
section
variable{X:bH}{ez:Expr}
noncomputable def ajU(d:TE):fi:=λU H R=>d U H λx c=>∃a o b,x=.ref a/\c a=some (.fc o (.cv b))/\R (O9 a o b) c
theorem agg(aX:bA X o i):oQ X ez o (ajU i):=by
 intro c s U H R I h;refine bU (aX c s U H _ I h) λv f m=>?_;obtain⟨x,k,d,t,a,A,z,w,p,r⟩:=m;subst w;cases t;obtain⟨y,l,du,N,L,g,K,V⟩:=Do d.bo p;refine XR l #[A,y,du,g] ?_;show#[f.heap.objs.size,[f.heap.objs.size],_,_,k,rfl,d.kept (t':=f.toks) λb o e=>d0 _ e,acX a _ g,#[_,gG _ rfl,rfl,rfl],λb n=>?_,r];obtain rfl:b=f.heap.objs.size:=by simpa using n
 exact d.sF (cB _) (d.bo.fresh (cB _))
theorem aen{b:List (bq×V)}{g:lX}{d:fO}{D:Ends}{H:af}(c:Nat->ao.St->af->Prop)(n:c 0 U H)(l:∀i U H,c i U H->H a=some (.fc o (.cv b)))(z:∀i k x U H,b[i]?=some (k,x)->c i U H->g (dq k) U H λA h=>d {D with di:=c (i+1),fv:=c (i+1),hh:=D.di} A h)(w:∀U H,c b.length U H->D.di U H):
  zH (O9 a o b) g d D U H:=by
 show#[λi m U H=>m=b.length-i/\i<=b.length/\c i U H,#[b.length,by simp,e4 _,n],?_];rintro i m U H ⟨rfl,L,p⟩;have q:=l i U H p;by_cases f:i<b.length
 .refine .inr #[#[q,f],c (i+1),λK H' t=>#[b.length-(i+1),by omega,rfl,f,t],λv H' y=>?_];obtain⟨rfl,k,x,rfl,r⟩:=y;exact z i k x U H' r p
 have e:i=b.length:=by omega
 subst e;exact .inl #[#[q,cB _],w U H p]
noncomputable abbrev tV(l:Addr):Obj:={cls:=.type "list_iterator",data:=.fields (List.toArray [.ref l,.int 0 0])}
theorem qV{b d:Type}{M:n7}{E:cW}(c:Sem b){k:b->Sem d}{Q:d->aW->Prop}(h:aT M A c (λa f=>aT M A (k a) Q E f) E s):aT M A (c >>=k) Q E s:=aE h
theorem Of{h:Heap}(e:h.get? b=some o):b≠h.objs.size:=eT (dN e)
theorem Nt{h:Heap}(e:h.get? b=some o):b≠h.objs.size+1:=eT (vM (dN e))
noncomputable def BR(b:Bool):String:=cond b "max" "min"
noncomputable def BQ(b:Bool):String:=cond b "max.loop" "min.loop"
noncomputable def Sb(b:Bool):CmpOp:=cond b .Gt .Lt
theorem O':∀b,entryFor table (BQ b)=some (cond b Builtin.«max.loop» Builtin.«min.loop»)
 |true=>PySem.F.entry_max_loop
 |false=>PySem.F.entry_min_loop
theorem xx:∀b,plainId (BQ b)=true
 |true=>PySem.F.plain_max_loop
 |false=>PySem.F.plain_min_loop
theorem I4:(toString "max"++toString ".loop":String)=BQ true:=by decide
theorem I5:(toString "min"++toString ".loop":String)=BQ false:=by decide
theorem aii(q:Bool){w:bf}{A:eu}{R:vR->aW->Prop}{E B:bL}{n:Nat}{P:Nat->Value->Prop}{St:Nat->Heap->Prop}{d:Value}(W:Walks prog w A.in1 I E B n P St)(m:jB)(O:CmpOf prog w A.in1 (Sb q) P m)(S:Addr)(C:S∉E):
  ∀(k j:Nat)(s:aW)(a:Value)(c:Nat),n-(j+1)=k->j+1<=n->St (j+1) s.heap->P (ke m j) a->s.heap.get? S=some #[.type "list",none,.seq (List.toArray [a,a]) c,#[]]->
   (∀v y r,P (ke m (n-1)) v->(∀b o,b∉B->b≠S->s.heap.get? b=some o->y.get? b=some o)->R (.ok (.ret v)) {s with heap:=y,toks:=r})->
   ni (bg prog w) A (.builtin (BQ q) #[[.ref I,.none,.ref S],[(bc "default",d)]]) R s:=by
 cases q
 all_goals
  have H:S∉B:=λh=>C (W.sub _ h);intro k
  induction k with
  |zero=>
   intro j s a c M Q st z p t;have F:j+1=n:=by omega
   refine AU (O' _) ?_;rw[Hy (xx _) _];refine qV (LB (.ref S)) (vf p rfl (qV (tryCatch (kx (.ref I)) _) (Ma (W.done s _ _ (F▸st) λy r l=>?_))));refine qV (updateSeq S (λ_=>#[])) (aaT (l S _ H p) rfl (aE (CO (bW ?_))));exact t a _ r (by rw[<-F];exact z) λb o f g e=>(vw _ _ (dY g)).trans (l b o f e)
  |succ k D=>
   intro j s a c M Q st z p t;have u:j+1<n:=by omega
   refine AU (O' _) ?_;rw[Hy (xx _) _];refine qV (LB (.ref S)) (vf p rfl (qV (tryCatch (kx (.ref I)) _) (Ma (W.item (j+1) s _ _ u st λv y r ae G l=>?_))));have K:=l S _ H p;refine qV (tryCatch (uK [v,v] (richCompare _ v a >>=_)) _) (Ma (oH (aE (O (j+1) (ke m j) v a _ _ _ ae z (aE (oH (rW (aE (CO (bW ?_))))))))));cases aa:m (j+1) (ke m j)with
   |true=>
    simp only[if_true];refine aE (aaT K rfl (aE (CO ?_)))
    first|rw[I4]|rw[I5]
    refine bW #[Lc (xx _) _,D (j+1) _ v _ (by omega) u (W.frame _ _ _ G λb J o e=>(vw _ _ (λh:S=b=>C (by rw[h];exact J))).trans e) (by simp only[ke,aa,if_true];exact ae) (Dn _ K rfl) λx i V L N=>?_];exact t x i V L λb o f g e=>N b o f g ((vw _ _ (dY g)).trans (l b o f e))
   |false=>
    simp only[My,if_false];refine aE (CO ?_)
    first|rw[I4]|rw[I5]
    exact bW #[Lc (xx _) _,D (j+1) _ a c (by omega) u G (by simp only[ke,aa,My,if_false];exact z) K λx i V L N=>t x i V L λb o f g e=>N b o f g (l b o f e)]
theorem agi(r:Bool){w:bf}{A:eu}{R:vR->aW->Prop}{K m:bL}{n:Nat}{P:Nat->Value->Prop}{St:Nat->Heap->Prop}(W:Walks prog w A.in1 I K m n P St)(t:jB)(x:CmpOf prog w A.in1 (Sb r) P t)(S:Addr)(p:S∉K){s:aW}{c:Nat}(st:St 0 s.heap)(L:s.heap.get? S=some #[.type "list",none,.seq #[] c,#[]])(B:n=0->∀a f,(∀b o,b∉m->b≠S->s.heap.get? b=some o->a.get? b=some o)->R (.ok (.ret d)) {s with heap:=a,toks:=f})(q:0<n->∀v a f,P (ke t (n-1)) v->(∀b o,b∉m->b≠S->s.heap.get? b=some o->a.get? b=some o)->R (.ok (.ret v)) {s with heap:=a,toks:=f}):
  ni (bg prog w) A (.builtin (BQ r) #[[.ref I,.none,.ref S],[(bc "default",d)]]) R s:=by
 cases r
 all_goals
  have E:S∉m:=λh=>p (W.sub _ h);refine AU (O' _) ?_;rw[Hy (xx _) _];refine qV (LB (.ref S)) (vf L rfl ?_);by_cases g:n=0
  .refine qV (tryCatch (kx (.ref I)) _) (Ma (W.done s _ _ (g▸st) λa f k=>?_));refine aE (Vb (bW ?_));exact B g a f λb o l _ e=>k b o l e
  refine qV (tryCatch (kx (.ref I)) _) (Ma (W.item 0 s _ _ (Yq g) st λv a f ae C k=>?_));have y:=k S _ E L;refine qV (updateSeq S (λ_=>(List.toArray [v,v]))) (aaT y rfl ?_)
  first|rw[I4]|rw[I5]
  refine bW #[Lc (xx _) _,aii _ W t x S p _ 0 _ v _ rfl (Yq g) (W.frame _ _ _ C λb j o e=>(vw _ _ (λh:S=b=>p (by rw[h];exact j))).trans e) ae (Dn _ y rfl) λD u i N V=>?_];exact q (Yq g) D u i N λb o l z e=>V b o l z ((vw _ _ (dY z)).trans (k b o l e))
theorem amw:∀b,builtinKind (BR b)=none
 |true=>PySem.F.kind_max
 |false=>PySem.F.kind_min
theorem amx:∀b,plainId (BR b)=true
 |true=>PySem.F.plain_max
 |false=>PySem.F.plain_min
theorem amy:∀b,entryFor table (BR b)=some (cond b Builtin.«max» Builtin.«min»)
 |true=>PySem.F.entry_max
 |false=>PySem.F.entry_min
theorem amz(b:Bool)(a v:Value):argsOk (BR b) #[[a],[(bc "default",v)]]:=by cases b<;>(unfold argsOk;kernel_rfl)
noncomputable def R'(b:Bool)(val:Nat->Int)(i j:Nat):Bool:=cond b (decide (val i>val j)) (decide (val i<val j))
theorem amA{w:bf}{a:mu}(b:Bool)(val:Nat->Int)(c:∀i v,a[i]?=some v->∃t,v=so (val i) t):CmpOf prog w A (Sb b) (λi v=>a[i]?=some v) (R' b val):=by
 cases b
 .exact CmpOf.ints_lt val c
 exact CmpOf.ints_gt val c
theorem ajV(n:Bool){w:bf}{A:eu}{E:cW}{s:aW}{items:mu}{val:Nat->Int}{Q:cW}(V:A.in1.handled=none)(k:s.heap.IsList l items)(y:∀i v,items[i]?=some v->∃t,v=so (val i) t)(N:items.size=0->∀a c,(∀b o,s.heap.get? b=some o->a.get? b=some o)->Q d {s with heap:=a,toks:=c})(L:0<items.size->∀t a c,(∀b o,s.heap.get? b=some o->a.get? b=some o)->Q (so (val (ke (R' n val) (items.size-1))) t) {s with heap:=a,toks:=c}):
  aT (bg prog w) A (call (.builtin (BR n)) [.ref l] [(bc "default",d)]) Q E s:=by
 cases n
 all_goals
  obtain⟨ol,r,_⟩:=id k;have q:l≠s.heap.objs.size:=eT (dN r);refine atR (amw _) (amx _) (amy _) (amz _ _ _) ?_;refine qV (atz _ ["key","default"] 0 #[[],[(bc "default",d)]]) (G7 (show _=pure [none,some d]from rfl) ?_);refine aE (bW ?_);refine aE (CQ k ?_);refine aE (tA ?_)
  first|rw[I4]|rw[I5]
  have W:=I1 (prog:=prog) (w:=w) (A:=A.in1) V s.heap.objs.size l q items;have f:(s.heap.push (tV l)).objs.size=s.heap.objs.size+1:=tW ..;have u:=dN r;have K:(s.heap.push (tV l)).get? s.heap.objs.size=some (tV l):=gG _ rfl;have z:=k.push (tV l);have p:∀b o,s.heap.get? b=some o->(s.heap.push (tV l)).get? b=some o:=λb o e=>d0 _ e;dsimp only;generalize s.heap.push (tV l)=h at f K z p⊢;refine bW #[Lc (xx _) _,agi _ W _ (amA _ val y) h.objs.size (by rw[f];simp only[dr,e3,or_false,not_or];show#[aew _,dY (Nt r)]) #[#[_,d0 _ K,rfl,rfl],z.push _] (gG _ rfl) (λg a c m=>?_) λg v a c ae m=>?_]
  .exact N g a c λb o e=>m b o (by simp only[dr,e3,or_false];exact Of e) (by rw[f];exact Nt e) (d0 _ (p b o e))
  obtain⟨j,rfl⟩:=y _ v ae;exact L g j a c λb o e=>m b o (by simp only[dr,e3,or_false];exact Of e) (by rw[f];exact Nt e) (d0 _ (p b o e))
noncomputable def asr(K:aN)(f:List Int->Int)(t:gf)(h:TE):TE:=λU H Q=>t U H λvs g=>pb h xi U g λk c=>∃d a b,k=[d]/\vs=[.ref a]/\aQ K c a (b.map V.int)/\(b=[]->Q d c)/\(b≠[]->Q (.int (f b)) c)
theorem XC{val:Nat->Int}:∀k,ke (λi j=>decide (val i>val j)) k<=k/\∀j,j<=k->val j<=val (ke (λi j=>decide (val i>val j)) k)
 |0=>#[cB _,λj h=>by rw[aes.mp h];exact vy _]
 |k+1=>by
  obtain⟨a,b⟩:=XC (val:=val) k;simp only[ke];by_cases h:val (k+1)>val (ke (λi j=>decide (val i>val j)) k)
  .rw[bS (cE h)];show#[cB _,λj d=>?_];rcases xH j (k+1)with c|c
   .exact Xe (b j (by omega)) (Xd h)
   rw[show j=k+1 by omega];exact vy _
  rw[bx (by rw[dt h];exact ha)];show#[by omega,λj d=>?_];rcases xH j (k+1)with c|c
  .exact b j (by omega)
  rw[show j=k+1 by omega];omega
theorem WS{val:Nat->Int}:∀k,ke (λi j=>decide (val i<val j)) k<=k/\∀j,j<=k->val (ke (λi j=>decide (val i<val j)) k)<=val j
 |0=>#[cB _,λj h=>by rw[aes.mp h];exact vy _]
 |k+1=>by
  obtain⟨a,b⟩:=WS (val:=val) k;simp only[ke];by_cases h:val (k+1)<val (ke (λi j=>decide (val i<val j)) k)
  .rw[bS (cE h)];show#[cB _,λj d=>?_];rcases xH j (k+1)with c|c
   .exact Xe (Xd h) (b j (by omega))
   rw[show j=k+1 by omega];exact vy _
  rw[bx (by rw[dt h];exact ha)];show#[by omega,λj d=>?_];rcases xH j (k+1)with c|c
  .exact b j (by omega)
  rw[show j=k+1 by omega];omega
noncomputable def zW(a:hA):Int:=a.getD (ke (λi j=>decide (a.getD i 0>a.getD j 0)) (a.length-1)) 0
theorem ajW:iX "max"=some (.builtin "max"):=by decide+kernel
noncomputable def tr(a:hA):Int:=a.getD (ke (λi j=>decide (a.getD i 0<a.getD j 0)) (a.length-1)) 0
theorem ajX:iX "min"=some (.builtin "min"):=by decide+kernel
noncomputable def mN(b:Bool):Str:=cond b "max" "min"
noncomputable def ŋ(b:Bool)(a:hA):Int:=cond b (zW a) (tr a)
theorem akN(b:Bool)(a:hA):ŋ b a=a.getD (ke (R' b λi=>a.getD i 0) (a.length-1)) 0:=by cases b<;>rfl
theorem akO:∀b,iX (mN b)=some (.builtin (BR b))
 |true=>ajW
 |false=>ajX
end
theorem Z5(d:Bool)(f:List Int->Int)(T:f=ŋ d){X:bH}{m:Pos}{t:gf}(J:X.calm=true)(R:jb X (mN d))(hm:X.mg (mN d)=none)(M:hg X [e] t)(hd:bA X j eZ)(uE:(n' pos (ox [#[some "default",j,m]] X.env)).all (·.1.isSome)=true:=by rfl)(n:(n' pos (ox [#[some "default",j,m]] X.env)).filterMap (·.1)=[bc "default"]:=by rfl)(he:d2 [e] X.env=(false,eval e X.env)::d2 [] X.env:=by rfl)(fI:(hJ pos (d2 [e] X.env)).any (·.1)=false:=by rfl)(o:(n' pos (ox [#[some "default",j,m]] X.env)).any (·.1.isNone)=false:=by rfl):
  bA X (.Call (.Name (mN d) p) [e] [#[some "default",j,m]] pos) (asr X.K f t eZ):=by
 intro g s U H Q I h;refine w9 (zq I R hm (akO d) ?_ (by cases d<;>decide) (by cases d<;>decide));refine callWith_builtin_kwB fI o (evalArgs_kw2 uE (bU (M pos g s U H _ I h) λus s1⟨vs,E,G,r,q⟩=>bU ((ag3 hd ajb) pos g s1 U E _ G q) λws s2 K=>?_) he);obtain⟨zs,L,l,D,Z⟩:=K;obtain⟨F,a,k,rfl,rfl,Y,wM,O⟩:=Z;obtain⟨u,rfl,e9⟩:=vals1 r;obtain⟨fK,rfl,iQ⟩:=vals1 D;cases e9;rw[n];obtain⟨c,B,pl,K⟩:=l.list Y;have b:k.length=c.length:=by have:=B.length;rwa [bP]at this
 refine ajV d (val:=λi=>k.getD i 0) (items:=c.toArray) (l.ok.hd J) pl.isList (λi v ev=>?_) (λz h' P w=>?_) λz t h' P w=>?_
 .have A:c[i]?=some v:=by simpa using ev
  have C:i<k.length:=by rw[b];exact(gn.mp A).1
  obtain⟨u',N,dJ⟩:=B.get (x:=V.int (k.getD i 0)) (i:=i) (by rw[dV,dw C];simp[ea,C]);rw[A]at N;cases N;exact dJ
 .have y:k=[]:=NI.mp (by rw[b];simpa using z);show#[F,L,l.kept w,iQ,wM y]
 have y:k≠[]:=λe=>by rw[e]at b;have:c=[]:=NI.mp b.symm;rw[this]at z;simp at z
 show#[.int (f k),L,l.kept w,#[t,?_],O y];rw[T,akN,b];simp
theorem auf{c:hA}(h:c≠[]):zW c∈c/\∀x∈c,x<=zW c:=by
 have k:0<c.length:=Iw.mpr h;obtain⟨a,b⟩:=XC (val:=λi=>c.getD i 0) (c.length-1);have d:ke (λi j=>decide (c.getD i 0>c.getD j 0)) (c.length-1)<c.length:=by omega
 show#[?_,λx f=>?_]
 .unfold zW;rw[ea,dw d];exact m3 d
 obtain⟨j,g,rfl⟩:=NM.mp f;have:=b j (by omega);have e:c.getD j 0=c[j]:=by rw[ea,dw g];rfl
 rw[<-e];exact this
theorem ajY{c:hA}(h:c≠[]):tr c∈c/\∀x∈c,tr c<=x:=by
 have k:0<c.length:=Iw.mpr h;obtain⟨a,b⟩:=WS (val:=λi=>c.getD i 0) (c.length-1);have d:ke (λi j=>decide (c.getD i 0<c.getD j 0)) (c.length-1)<c.length:=by omega
 show#[?_,λx f=>?_]
 .unfold tr;rw[ea,dw d];exact m3 d
 obtain⟨j,g,rfl⟩:=NM.mp f;have:=b j (by omega);have e:c.getD j 0=c[j]:=by rw[ea,dw g];rfl
 rw[<-e];exact this
theorem aeo{X:bH}(N:X.calm=true):kt X (.builtin "min") (λL H Q=>∃a d,L=[.ref a]/\aQ X.K H a (d.map V.int)/\d≠[]/\Q (.int (tr d)) H):=by
 intro K s U H L Z Q I r h;obtain⟨a,d,rfl,j,D,q⟩:=h;obtain⟨u,rfl,E⟩:=vals1 r;cases E;obtain⟨f,p,O,P⟩:=I.list j;have c:d.length=f.length:=by have:=p.length;rwa [bP]at this
 have n:∀i v,f.toArray[i]?=some v->∃t,v=so (d.getD i 0) t:=λi v F=>by
  have k:f[i]?=some v:=by simpa using F
  have z:i<d.length:=by rw[c];exact(gn.mp k).1
  obtain⟨Y,m,C⟩:=p.get (x:=V.int (d.getD i 0)) (i:=i) (by rw[dV,dw z];simp[ea,z]);rw[k]at m;cases m;exact C
 have g:=O.isList;obtain⟨ol,M,_⟩:=id g;have y:=dN M;have J:(s.heap.push (tV a)).objs.size=s.heap.objs.size+1:=tW ..;have W:=I1 (prog:=X.prog) (w:=X.w) (A:=X.A.in1) (I.ok.hd N) s.heap.objs.size a (eT y) f.toArray;refine call_min_walk (CQ g #[s.heap.objs.size,_,_,_,_,_,_,rfl,W,#[#[_,gG _ rfl,rfl,rfl],g.push (tV a)],λb l=>?_,by rw[hz,<-c];exact Iw.mpr D,CmpOf.ints_lt (λi=>d.getD i 0) n,λv T R ae B=>?_])
 .show b<(s.heap.push (tV a)).objs.size;rw[J];simp only[dr,e3,or_false]at l;rcases l with rfl|rfl
  .exact xI _
  exact vM y
 obtain⟨G,rfl⟩:=n _ v ae;show#[.int (tr d),H,I.kept λb o e=>B b o (by simp only[dr,e3,or_false];exact Of e) (d0 _ e),#[G,?_],q];unfold tr;rw[c];simp
end b_
namespace dR
open PySem ao b_ cw
noncomputable def TabAt(H:af)(p:Addr)(D:nc):Prop:=∃a,fD H p (.cv a)/\Tab a D
theorem TabAt.get{D:nc}(T:TabAt H p D)(g:Str):j9 H p (.str g) ((D g).map V.int):=by obtain⟨a,r,t⟩:=T;exact .inl #[a,fM g,r,rfl,(t.at_ g).symm]
noncomputable def AN(a b:nc)(g:Str)(t:Int):Bool:=match b g with
 |none=>false
 |some u=>decide (some (t+u)=a g)
inductive Z6(vs:aO)(H:af)(Q:a4)(f':bY):Prop where
 |mk(r f hp lM:Addr)(hs:bt)(d:cw.fD)(kvs:List (bq×ao.V))(g:Str)(Da Db:nc)(_:vs=[.ref r,.ref f,.str g])(_:H r=some (.tup (gY hs d)))(_:H f=some (.cv kvs))(_:dk kvs (fM (S (hs.getD d.a [])):bq)=some (.ref hp))(_:dk kvs (fM (S (hs.getD d.b [])):bq)=some (.ref lM))(_:TabAt H hp Da)(_:TabAt H lM Db)(_:(∀u,Db g=some u->∃v,Da g=some v))(_:Q (.aV (AN Da Db g d.t)) H)
noncomputable abbrev j'(a:bt)(ds:cC)(h:Str):Str->Option Int:=λg=>et.dist (kl a ds) h g
noncomputable def LN(a:bt)(ds:cC)(i:Int):Str:=S (a.getD (ds.getD i.toNat fp).b [])
noncomputable def vu(a:bt)(ds:cC)(h g:Str)(i:Int):Bool:=AN (j' a ds h) (j' a ds (LN a ds i)) g (ds.getD i.toNat fp).t
noncomputable def fit(a:bt)(ds:cC)(h g:Str):List Int:=(kz a ds (·.a) h).filter (vu a ds h g)
noncomputable def best(a:bt)(ds:cC)(h g:Str):Int:=tr (fit a ds h g)
theorem Zd(m:∀e∈kl b ds,1<=e.t){v:Int}(f:j' b ds h g=some v)(n:h≠g):fit b ds h g≠[]:=by
 obtain⟨_,e,w,u,o,y,r⟩:=(et.è m g).other m n f;obtain⟨d,t,rfl⟩:=cm.mp w;obtain⟨i,l⟩:=t2 t;have p:=(gn.mp l).1;have k:ds.getD i fp=d:=GX l;refine List.ne_nil_of_mem (a:=(i:Int)) (g4.mpr #[?_,?_])
 .unfold kz Hg;refine cm.mpr #[i,g4.mpr #[lp.mpr p,?_],rfl];have z:S (b.getD d.a [])=h:=o;rw[k,z];exact cE rfl
 unfold vu AN LN;rw[mZ,k];have c:j' b ds (S (b.getD d.b [])) g=some u:=y;have A:v=u+d.t:=r;rw[c,f];refine cE ?_;congr 1;omega
theorem WT(d:∀e∈kl a ds,1<=e.t){g:Str}{v:Int}(c:j' a ds h g=some v)(b:h≠g):best a ds h g∈kz a ds (·.a) h/\vu a ds h g (best a ds h g)=true:=
 g4.mp (ajY (Zd d c b)).1
structure qC(lu:Str->Str->Int)(L:cK)(kvs:gm)(M:Str->Str->Prop):Prop where
 yes:∀h g,M h g->dk kvs (f6 h g)=some (.int (lu h g))
 no:∀h g,¬M h g->dk kvs (f6 h g)=none
 key:∀k∈kvs.map (·.1),∃h g,k=f6 h g/\h∈L/\g∈L
 aI:(kvs.map (·.1)).Nodup
theorem Ze{b a:Str}(e:f6 h g=f6 b a):h=b/\g=a:=by unfold f6 at e;simp only[NC,agJ,and_true]at e;exact e
theorem WU{b:Type}[DecidableEq b]{a:List (b×ao.V)}{k:b}(v:ao.V)(h:dk a k=some u):(fw a k v).map (·.1)=a.map (·.1):=by unfold fw;rw[bS (by rw[rt,h];rfl),hc];refine t4 λq _=>?_;show(if q.1=k then(q.1,v)else q).1=q.1;split<;>rfl
theorem qC.put{f:Str->Str->Int}{L:cK}{a:gm}{M:Str->Str->Prop}(B:qC f L a M){h g:Str}(n:h∈L)(l:g∈L):qC f L (fw a (f6 h g) (.int (f h g))) (λc b=>M c b\/(c=h/\b=g)):=by
 show#[λc b m=>?_,λc b m=>?_,?_,?_]
 .rw[Gg];by_cases e:f6 c b=f6 h g
  .obtain⟨rfl,rfl⟩:=Ze e;rw[bS rfl]
  rw[bx e];refine B.yes c b (m.resolve_right λz=>e ?_);rw[z.1,z.2]
 .rw[Gg,bx λe=>m (.inr (Ze e))];exact B.no c b λz=>m (.inl z)
 .intro k d;cases i:dk a (f6 h g)with
  |none=>
   rw[Ca _ i,eK]at d;rcases hy.mp d with z|z
   .exact B.key k z
   show#[h,g,gp.mp z,n,l]
  |some u=>
   rw[WU _ i]at d;exact B.key k d
 cases i:dk a (f6 h g)with
 |none=>exact ahO _ B.aI i
 |some u=>rw[WU _ i];exact B.aI
theorem qC.iff{c:Str->Str->Int}{L:cK}{a:gm}{M b:Str->Str->Prop}(B:qC c L a M)(e:∀h g,M h g↔b h g):qC c L a b:=
 #[λh g m=>B.yes h g ((e h g).mpr m),λh g m=>B.no h g λz=>m ((e h g).mp z),B.key,B.aI]
theorem qC.c3{n:Str->Str->Int}{L:cK}{a:gm}{M:Str->Str->Prop}(B:qC n L a M)(c:L.length<=12):a.length<=144:=by
 have b:=FV (L:=L.flatMap λh=>L.map (f6 h)) B.aI λk d=>by obtain⟨h,g,rfl,m,l⟩:=B.key k d;exact adz.mpr #[h,m,cm.mpr #[g,l,rfl]]
 have f:(L.flatMap λh=>L.map (f6 h)).length=L.length*L.length:=by simp[List.length_flatMap,List.map_const']
 rw[f,bP]at b;exact dX b (NU c c)
theorem aij(d:aB H H')(z:gQ):aB (upd H a z) (upd H' a z):=λb o e=>by
 by_cases c:b=a
 .rw[c,aK]at e⊢;exact e
 rw[aJ c]at e⊢;exact d b o e
theorem agD{H:af}{z:gQ}(f:H a=some u)(d:aB (upd H a z) H'):aB H (upd H' a u):=λb o e=>by
 by_cases c:b=a
 .rw[c,aK];rw[c,f]at e;exact e
 rw[aJ c];exact d b o (by rw[aJ c];exact e)
section
variable{P:cx}{w:bf}{K:aN}{mg:cb}{base:Heap}
noncomputable abbrev I6:Stmt:=top 60
theorem Z7:cI ["road","far_from","goal","behind"] DG (b5 I6):={}
theorem ajZ{f:Addr}(F:cj K "begins_shortest" "begins_shortest" I6 f fd):aD P w K mg base a3 1 f fd DG Z6:=by
 refine F.ok Z7 (λ_ A _ s H vs Q E a h=>?_);obtain⟨r,y,hp,t,p,d,C,g,I,N,rfl,l,n,e,D,G,m,c,q⟩:=h;show#[_,(a6 (dO 3 Z7.aI (WH (l8 a) (wK (l8 a) (ae 1) (b8 eH (ae 0) aZ) (λ_ _=>rfl)) (ae 2) #[rfl,rfl,rfl,rfl]))
  (a7 (cd (o9 (o3 Mu (ae 3) kT (ek _)) (ta (o3 kV (bO jj (b8 eH (ae 0) aZ) (ae 3)) (wK (l8 a) (wK (l8 a) (ae 1) (b8 eH (ae 0) aZ) (λ_ _=>rfl)) (ae 2) (λ_ _=>rfl)) (ek _))))))),?_]
 try dsimp only[cT,cS]
 have o:=j9.k (k:=fM (S (p.getD d.a []))) n;have z:=j9.k (k:=fM (S (p.getD d.b []))) n;rw[e]at o;rw[D]at z;have B:=G.get g;have x:=m.get g;unfold AN at q;have b:Ds H t:=by obtain⟨j,r0,_⟩:=m;exact .inl #[j,r0]
 show#[_,rfl,_,rfl,r,_,_,_,rfl,rfl,cV.of l,rfl,y,_,rfl,z,t,rfl,b,_,rfl,_,x,_,rfl,?_];cases aa:N g with
 |none=>
  rw[aa]at q;show#[rfl,_,rfl,dA (by decide) q]
 |some u=>
  rw[aa]at q;obtain⟨v,c⟩:=c u aa;have L:=B;rw[c]at L q;show#[rfl,_,rfl,eQ (by simp) #[_,rfl,r,_,_,_,rfl,rfl,cV.of l,rfl,_,rfl,_,_,rfl,rfl,_,rfl,_,rfl,r,_,_,_,rfl,rfl,cV.of l,rfl,y,_,rfl,o,_,rfl,hp,_,rfl,L,rfl,?_]];have i:decide (V.int (d.t+u)=V.int v)=decide (some ((d.t:Int)+u)=some v):=by simp
  rw[i];exact q
theorem WV{a:bt}{y:Str}(h:y∈a.map S):inD (.str y) (bI a)=true:=by
 obtain⟨x,c,rfl⟩:=cm.mp h;obtain⟨k,b,d⟩:=xD c;have e:a.getD k []=x:=by rw[ea,dw b,d];rfl
 have:=ahl b
 rwa [e]at this
theorem y'{c:bt}{h g:Str}(a:h∈c.map S)(b:g∈c.map S)(n:h≠g):iI (bI c) (.str h) (.str g)=true:=by unfold iI;rw[WV a,WV b,WO,dt n];rfl
theorem tb{a:bt}(G:Good a){c:Str}(h:c∈a.map S):c7 H (.str c) (.str c):=by obtain⟨x,b,rfl⟩:=cm.mp h;have n:=G.nm x b;exact .str _ (by rw[d6];have:=n.2.1;omega) (LX n)
noncomputable def Z8(b H:af)(q:Addr)(d:List (bq×ao.V))(c:bt)(ds:cC)(h:Str):Prop:=∃(p:Addr)(a:List (bq×ao.V)),dk d (fM h:bq)=some (.ref p)/\p≠q/\b p=none/\H p=some (.cv a)/\Tab a (j' c ds h)
theorem eU{H H':af}(b:aB H H')(a:H' p=none):H p=none:=by
 cases e:H p with
 |none=>rfl
 |some o=>rw[b _ _ e]at a;cases a
theorem eg{H:af}(c:H a=some o)(d:H b=none):a≠b:=λe=>by rw[e,d]at c;cases c
theorem ς{a:bt}{i:Nat}(e:(cN a)[i]?=some v):∃h,v=.str h/\(a.map S)[i]?=some h:=by unfold cN at e;rw[dV]at e;obtain⟨x,b,rfl⟩:=gS.mp e;show#[S x,rfl,by rw[dV,b];rfl]
theorem Wb{b:Type}[DecidableEq b]{k:b}{x:ao.V}:∀{a:List (b×ao.V)},(k,x)∈a->(dk a k).isSome=true:=λ{a}h=>by rw[<-rt];exact pM.mpr #[_,h,cE rfl]
theorem Wc{b:Type}[DecidableEq b]{k:b}{a:List (b×ao.V)}(h:(dk a k).isSome=true):∃(j:Nat)(x:ao.V),a[j]?=some (k,x):=by rw[<-rt]at h;obtain⟨⟨f,x⟩,d,e⟩:=pM.mp h;obtain⟨j,c⟩:=t2 d;show#[j,x,by rw[c,show f=k from nK e]]
theorem aik{a:bt}{ds:cC}(R:∀d∈ds,d.Ok a.length){h g:Str}{u:Int}(p:et.Path (kl a ds) h g u)(c:h∈a.map S):g∈a.map S:=by
 cases p with
 |nil=>exact c
 |snoc e _ he=>
  obtain⟨d,b,rfl⟩:=cm.mp he;exact HI (R d b).b
theorem WW{f:bt}{ds:cC}{h:Str}{i:Nat}(e:((kz f ds (·.a) h).map V.int)[i]?=some v):∃(k:Nat)(d:cw.fD),v=.int (k:Int)/\ds[k]?=some d/\S (f.getD d.a [])=h:=by obtain⟨z,a,rfl⟩:=cm.mp (fC e);unfold kz Hg at a;obtain⟨k,g,rfl⟩:=cm.mp a;obtain⟨l,c⟩:=g4.mp g;have m:=lp.mp l;have b:ds[k]?=some ds[k]:=dw m;show#[k,ds[k],rfl,b,?_];rw[GX b]at c;have:=nK c;cases this;rfl
theorem MX{a:TE}{g:lX}{u:fO}{D:Ends}(h:a U H λv b=>g v U b (u D)):gN (vm a g) u D U H:=h
end
theorem ail{K:aN}{w:fi}{t:iW}{r:TE}{rest:ao.St}{H:af}{Q:a4}{xs:aO}(N:∀R:gB->af->Prop,(∀p g,H p=none->aB H g->g p=some (.lst xs)->R (n2 K p) g)->w U H R)(L:iN cs U=none::rest)(y:xs.length<sizeLine)(p:ao.V->Bool)(f:ao.V->ao.V)(d:∀(i:Nat)(x:ao.V)(a:af)(R:Bool->af->Prop),xs[i]?=some x->aB H a->(∀c,aB a c->R (p x) c)->t (some x::rest) a R)(m:∀(i:Nat)(x:ao.V)(a:af)(R:a4),xs[i]?=some x->p x=true->aB H a->(∀c,aB a c->R (f x) c)->r (some x::rest) a R)(o:∀(D:Addr)(H':af),H D=none->H' D=some (.lst ((xs.filter p).map f))->aB H H'->Q (.ref D) H'):pq w cs (iL 0) t r U H Q:=
 N _ λq g z k A=>ZW L (s4 (aQ.of A)) y p f (λi x a R n b h=>d i x a R n (k.trans b) h) (λi x a R n l b h=>m i x a R n l (k.trans b) h) λD H' V bI b=>o D H' (eU k V) bI (k.trans b)
noncomputable def Told(a:bt)(ds:cC)(i:Nat)(h g:Str):Prop:=(∃j,j<i/\(a.map S)[j]?=some h)/\h≠g/\(j' a ds h g).isSome=true
noncomputable def je(d:bt)(ds:cC)(i:Nat)(h:Str)(c:List (bq×ao.V))(j:Nat)(a g:Str):Prop:=Told d ds i a g\/(a=h/\h≠g/\∃b z,b<j/\c[b]?=some (fM g,z))
section
variable{hs:bt}{ds:cC}{i j:Nat}{h g:Str}{ck:List (bq×ao.V)}{z:ao.V}
theorem je.zero(b a:Str):Told hs ds i b a↔je hs ds i h ck 0 b a:=#[.inl,λz=>z.resolve_right λ⟨_,_,c,_,y,_⟩=>bG y (IF _)]
theorem je.less:je hs ds i h ck j x u->je hs ds i h ck (j+1) x u
 |.inl y=>.inl y
 |.inr ⟨a,b,B,q,e,s⟩=>.inr #[a,b,B,q,vM e,s]
theorem je.more(c:ck[j]?=some (fM g,z))(t:je hs ds i h ck (j+1) u q):je hs ds i h ck j u q\/(u=h/\h≠q/\q=g):=by
 rcases t with y|⟨a,b,s,B,x,e⟩
 .exact .inl (.inl y)
 rcases xH s j with y|y
 .exact .inl (.inr #[a,b,s,B,y,e])
 have:s=j:=aeq (aer x) y;subst this;rw[c]at e;cases e;exact .inr #[a,b,rfl]
theorem je.skip(f:ck[j]?=some (fM h,z))(d a:Str):je hs ds i h ck j d a↔je hs ds i h ck (j+1) d a:=#[.less,λt=>(je.more f t).elim id λ⟨_,b,c⟩=>bG c.symm b]
theorem je.put(k:ck[j]?=some (fM g,z))(l:h≠g)(f d:Str):(je hs ds i h ck j f d\/(f=h/\d=g))↔je hs ds i h ck (j+1) f d:=#[λt=>t.elim .less λ⟨a,b⟩=>.inr #[a,b▸l,j,z,xI _,b▸k],λt=>(je.more k t).imp id λ⟨a,_,c⟩=>#[a,c]]
theorem je.end(o:Tab ck (j' hs ds h))(m:(hs.map S)[i]?=some h)(l k:Str):je hs ds i h ck ck.length l k↔Told hs ds (i+1) l k:=by
 constructor
 .rintro(⟨⟨j,f,a⟩,b,c⟩|⟨rfl,b,n,z,_,d⟩)
  .show#[#[j,vM f,a],b,c]
  show#[#[i,xI _,m],b,?_];have:=Wb (fC d);rw[o.at_]at this;simpa using this
 rintro⟨⟨j,f,a⟩,b,c⟩;by_cases e:l=h
 .subst e;have:(dk ck (fM k:bq)).isSome=true:=by rw[o.at_];simpa using c
  obtain⟨n,z,d⟩:=Wc this;exact .inr #[rfl,b,n,z,(gn.mp d).1,d]
 refine .inl #[#[j,?_,a],b,c];rcases xH j i with y|y
 .exact y
 have:j=i:=aeq (aer f) y;subst this;rw[m]at a;cases a;exact bG rfl e
end
structure ru(hs:bt)(ds:cC)(kvs:gm):Prop where
 lu:qC (best hs ds) (hs.map S) kvs (λh g=>h∈hs.map S/\h≠g/\(j' hs ds h g).isSome=true)
section
variable{P:cx}{w:bf}{K:aN}{mg:cb}{base:Heap}
noncomputable abbrev Ly:Stmt:=top 61
theorem vv:cI ["net","roads","far_from","house","ways","goal","fitting"] ["net"] (b5 Ly):={}
inductive σ(C aq:Addr)(vs:aO)(H:af)(Q:a4)(f':bY):Prop where
 |mk(n a' b':Addr)(hs:bt)(rs:bL)(ds:cC)(_:vs=[.ref n])(_:hL aq H n a' b' (cN hs) (aS rs))(_:Good hs)(_:gs H hs rs ds)(_:rs.length<=40)(_:∀(x t:Addr)(H':af)(kvs:gm),H x=none->H t=none->aB H H'->rF C aq H' x n t a' b' (cN hs) (aS rs) kvs->ru hs ds kvs->Q (.ref x) H')
inductive amB(n gy en k7:Addr)(hs:bt)(ds:cC)(H1:af)(i:Nat)(U:ao.St)(dC:af):Prop where
 |mk(oY:List (bq×ao.V))(zv:lY)(_:U=[some (.ref n),some (.ref gy),some (.ref en),zv,none,none,none])(_:aB H1 dC)(_:dC k7=some (.lst (cN hs)))(_:dC en=some (.cv oY))(_:oY.length<=i)(_:∀j h,j<i->(hs.map S)[j]?=some h->Z8 H1 dC en oY hs ds h)
inductive amT(C ag n gy en x t k8:Addr)(hs:bt)(ds:cC)(dC:af)(i:Nat)(U:ao.St)(kD:af):Prop where
 |mk(kvs:gm)(zv rU qt:lY)(_:U=[some (.ref n),some (.ref gy),some (.ref en),zv,some (.ref x),rU,qt])(_:aB dC kD)(_:kD k8=some (.lst (cN hs)))(_:kD x=some (.ins C ag (kW n t)))(_:kD t=some (.dB kvs))(_:qC (best hs ds) (hs.map S) kvs (Told hs ds i))
inductive amU(C ag n gy en x t k8 hp:Addr)(hs:bt)(ds:cC)(dC:af)(o:Obj)(ck:List (bq×ao.V))(h:Str)(i:Nat)(j:Nat)(U:ao.St)(xk:af):Prop where
 |mk(kvs:gm)(rU qt:lY)(_:U=[some (.ref n),some (.ref gy),some (.ref en),some (.str h),some (.ref x),rU,qt])(_:aB (upd dC hp (.fc o (.cv ck))) xk)(_:xk k8=some (.lst (cN hs)))(_:xk x=some (.ins C ag (kW n t)))(_:xk t=some (.dB kvs))(_:qC (best hs ds) (hs.map S) kvs (je hs ds i h ck j))
theorem akP{f:Addr}(F:cj K "shortest" "shortest" Ly f fd)(B:ft mg)(dH:w' K C)(gu:dM K aq)(rp:mg "Ways"=some (.ref C))(iE:cH K aq "houses" "Net.houses" wB cG f1 c2)(mw:aD P w K mg base a3 1 f1 c2 cG (BS aq))(ng:cH K aq "roads" "Net.roads" Cy cG f2 eW)(uz:aD P w K mg base a3 1 f2 eW cG (LW aq))(q':cH K aq "out_of" "Net.out_of" D3 n5 cP jZ)(Bt:aD P w K mg base (fg P w) 2 cP jZ n5 (Oj aq fh (·.a)))(AY:cu K mg "least_turns_from" HR DK f4 yj)(RC:aD P w K mg base a3 2 f4 yj DK (Xz K))(AZ:cu K mg "begins_shortest" I6 DG fz Ez)(asP:aD P w K mg base a3 1 fz Ez DG Z6)(G2:lq K C l2)(nh:jc K C "Ways.__init__" Ck lV l2 ri)(uA:aD P w K mg base a3 1 l2 ri lV (I0 C))(nd:cH K C "set_way" "Ways.set_way" Cj se Ey EA)(uk:aD P w K mg base (fg P w) 3 Ey EA se (I2 C aq fh dW)):
  aD P w K mg base a3 4 f fd ["net"] (σ C aq):=by
 have kQ:=dH.cl;refine F.ok vv (λ_ A _ s H vs Q E al h=>?_);obtain⟨n,a',b',a,rs,ds,rfl,N,G,dn,c3,q⟩:=h;show#[_,(a6 (dO 1 vv.aI (iG (ae 0) gu ng.dQ uz al.mono ng.bd .nil b0))
  (a6 (dO 2 vv.aI VD)
  (a6 (lD lW rfl (jE (iG (ae 0) gu iE.dQ mw al.mono iE.bd .nil b0)) (fG 3 vv.aI)
   (a7 (Me (l8 al) (ae 2) (ae 3) (d9 RC AY al.mono b0 (ak (ae 1) (ak (ae 3) aA))) rfl)))
  (a6 (dO 4 vv.aI (o4 G2 uA al.mono (by rfl) rp nh.bd .nil b0 (ak (ae 0) aA)))
  (a6 (lD lW rfl (jE (iG (ae 0) gu iE.dQ mw al.mono iE.bd .nil b0)) (fG 3 vv.aI)
   (a7 (ajT (lD lW rfl (agg (wK (l8 al) (ae 2) (ae 3) (λ_ _=>rfl))) (fG 5 vv.aI)
   (a7 (d8 (eN zQ (ae 5) (ae 3) (ek _)) (a6 (wA (i:=6) vv.aI rfl rfl rfl (N':=["number","far_from","goal","roads"]) (cs:=[none,some 2,some 5,some 1]) rfl (jE (fy (ae 0) gu q'.dQ Bt al.mono q'.bd .nil Dc (ak (ae 3) aA))) rfl (by decide+kernel) rfl (by decide+kernel) (lE (eA.mpr #[rfl,(eA.mpr #[rfl,(eA.mpr #[rfl,(λp aG=>bG aG (e3))])])])) rfl
   (.own (.p0 rfl (.inl rfl) (.inl rfl) rfl (.p0 rfl (.inl rfl) (.inl rfl) rfl (.p0 rfl (.inl rfl) (.inl rfl) rfl .nil))))
   (λC bp bz dc fA=>#[(fG 0 (by show(["number","far_from","goal","roads"]:cK).Nodup;decide+kernel)),(GS (kU (d9 asP AZ al.mono b0 (ak (b8 (af2 (K:=K) rfl) (ae 3) (ae 0)) (ak (ae 1) (ak (ae 2) aA)))))),(ae 0)]))
  (a7 (hj (fy (ae 4) kQ nd.dQ uk al.mono nd.bd .nil Dc (ak (ae 3) (ak (ae 5) (ak (eD (aeo rfl) B.min akY (ak (ae 6) aA)) aA))))))) ed))))))
  (a7 (cd (ae 4)))))))),?_]
 try dsimp only[cT,cS]
 obtain⟨eV,aM⟩:=N.ins;have hlen:=dn.len;have é:=G.c3;show#[_,rfl,n,eV,_,rfl,aM,rfl,n,a',b',_,_,rfl,N,λgy KZ=>?_];have s1:aB H (upd H gy (.lst (aS rs))):=bF KZ;have ah:upd H gy (.lst (aS rs)) gy=some (.lst (aS rs)):=aK;generalize upd H gy (.lst (aS rs))=H1 at s1 ah⊢
 refineλM B8=>?_
 have s2:aB H1 (upd H1 M (.cv [])):=bF B8;have aj:upd H1 M (.cv []) M=some (.cv []):=aK;generalize upd H1 M (.cv [])=ai at s2 aj⊢;show#[_,rfl,n,eV,_,rfl,s2 _ _ (s1 _ _ aM),rfl,n,a',b',_,_,rfl,(N.same s1).same s2,λk7 Ţ=>#[k7,rfl,#[_,aQ.of aK],?_]];have Ŏ:M≠k7:=eg aj Ţ;refine qa (xs:=cN a) (amB n gy M k7 a ds H1)
  #[[],none,rfl,s2.trans (bF Ţ),aK,by rw[aJ Ŏ];exact aj,cB _,λj h bX _=>bG bX (IF _)] ?_ ?_ ?_
 .rintro i U J hi ⟨oY,zv,rfl,X,bZ,_⟩;exact aQ.of bZ
 .rintro i v U J ev ⟨oY,zv,rfl,X,bZ,bV,ao7,yt⟩;obtain⟨h,rfl,l1⟩:=ς ev;have aqb:i<a.length:=by have:=(gn.mp l1).1;rwa [bP]at this
  show#[_,rfl,_,rfl,gy,a,rs,ds,h,rfl,aQ.of (X _ _ ah),(dn.same s1).same X,é,fC l1,λp H' Z D np zf aP T L=>?_];show#[_,rfl,_,rfl,M,_,rfl,tD.k (k:=fM h) (zf _ _ bV) (e' (by omega)),?_];have aq9:H1 p=none:=eU X np;have ś:p≠M:=dY (eg bV np);have x':D=j' a ds h:=funext λg=>et.anM L g;subst x';show#[_,_,rfl,gJ B8 (X.trans zf),by rw[aJ (dY Ŏ)];exact zf _ _ bZ,aK,?_,λj h' bX PG=>?_]
  .cases bb:dk oY (fM h:bq)with
   |none=>rw[Ca _ bb,eM];simp only[gC,vB];omega
   |some u=>rw[WQ _ bb];omega
  by_cases e:h'=h
  .subst e;show#[p,Z,by rw[Gg,bS rfl],ś,aq9,by rw[aJ ś];exact aP,T]
  have QY:j<i:=by
   rcases xH j i with z|z
   .exact z
   have:j=i:=by omega
   subst this;rw[l1]at PG;cases PG;exact bG rfl e
  obtain⟨hE,aqk,iy,ne',aq2,sO,pV⟩:=yt j h' QY PG;show#[hE,aqk,by rw[Gg,bx λz=>e (Ot z)];exact iy,ne',aq2,by rw[aJ ne'];exact zf _ _ sO,pV]
 rintro U J ⟨oY,zv,rfl,X,bZ,bV,ao7,yt⟩;have ÿ:∀h∈a.map S,Z8 H1 J M oY a ds h:=λh hm=>by obtain⟨j,bX⟩:=t2 hm;exact yt j h (by have:=(gn.mp bX).1;rw[bP]at this;unfold cN;rw[bP];exact this) bX
 show#[_,rfl,λx l di KQ arl=>#[x,l,_,rfl,aK,λt ec=>#[rfl,?_]]];have nJ:J t=none:=by refine eU (gJ (o:=.ins C l []) di (bF (o:=.own x) KQ)) ec
 have qs:x≠t:=eg (H:=upd (upd J l (.own x)) x (.ins C l [])) aK ec;have ma:aB J (upd (upd (upd (upd J l (.own x)) x (.ins C l [])) t (.dB [])) x (.ins C l (kW n t))):=gJ di (gJ nJ (gJ di (bF KQ)));have Rq:upd (upd (upd (upd J l (.own x)) x (.ins C l [])) t (.dB [])) x (.ins C l (kW n t)) x=some (.ins C l (kW n t)):=aK;have wk:upd (upd (upd (upd J l (.own x)) x (.ins C l [])) t (.dB [])) x (.ins C l (kW n t)) t=some (.dB []):=by rw[aJ (dY qs),aK]
 show gN _ _ _ _ (upd (upd (upd (upd J l (.own x)) x (.ins C l [])) t (.dB [])) x (.ins C l (kW n t)));generalize upd (upd (upd (upd J l (.own x)) x (.ins C l [])) t (.dB [])) x (.ins C l (kW n t))=acj at ma Rq wk⊢;have Yu:hL aq J n a' b' (cN a) (aS rs):=(N.same s1).same X;show#[_,rfl,n,eV,_,rfl,ma _ _ (X _ _ (s1 _ _ aM)),rfl,n,a',b',_,_,rfl,Yu.same ma,λk8 K0=>#[k8,rfl,#[_,aQ.of aK],?_]];have ara:J k8=none:=eU ma K0;have aqH:x≠k8:=eg Rq K0;have Ő:t≠k8:=eg wk K0;refine qa (xs:=cN a) (amT C l n gy M x t k8 a ds J)
  #[[],zv,none,none,rfl,ma.trans (bF K0),aK,by rw[aJ aqH];exact Rq,by rw[aJ Ő];exact wk,#[λh g m=>?_,λh g _=>rfl,λk aP=>(nomatch aP),sd]] ?_ ?_ ?_
 .obtain⟨⟨j,bX,_⟩,_⟩:=m;exact bG bX (IF _)
 .rintro i U kD hi ⟨I,aaC,rU,qt,rfl,eh,c',_⟩;exact aQ.of c'
 .rintro i v U kD ev ⟨I,aaC,rU,qt,rfl,eh,c',ar,dF,BT⟩;obtain⟨h,rfl,l1⟩:=ς ev;have hm:h∈a.map S:=fC l1;obtain⟨hp,Z,L5,œ,Œ,Bg,ue⟩:=ÿ h hm;have ŧ:x≠hp:=dY (eg Bg di);have FD:t≠hp:=dY (eg Bg nJ);have ŏ:k8≠hp:=dY (eg Bg ara);show#[hp,Z,eh _ _ Bg,λo=>?_];have õ:=j9.k (k:=fM h) (show upd kD hp (.fc o (.cv Z)) M=some (.cv oY) by rw[aJ (dY œ)];exact eh _ _ bV);rw[L5]at õ;show#[_,rfl,_,rfl,M,_,rfl,õ,hp,o,Z,rfl,aK,?_];refine aen (amU C l n gy M x t k8 hp a ds J o Z h i)
   #[I,rU,qt,rfl,aij eh _,by rw[aJ ŏ];exact c',by rw[aJ ŧ];exact ar,by rw[aJ FD];exact dF,BT.iff je.zero] ?_ ?_ ?_
  .rintro j U xk ⟨I,rU,qt,rfl,O,_⟩;exact O _ _ aK
  .rintro j k z U xk e6 ⟨I,rU,qt,rfl,O,J2,Bj,Kj,C2⟩;obtain⟨g,rb⟩:=ue.dv _ (fC e6);have an2:k=fM g:=rb;subst an2;have ko:∀e∈kl a ds,1<=e.t:=λe he=>by obtain⟨d,hd,rfl⟩:=cm.mp he;exact(dn.ok d hd).t.1
   have apY:(j' a ds h g).isSome=true:=by have:=Wb (fC e6);rw[ue.at_]at this;simpa using this
   obtain⟨v,bb⟩:=xK.mp apY;have bJ:g∈a.map S:=aik dn.ok ((et.è ko g).path h v bb) hm;show#[_,rfl,_,rfl,rfl,_,rfl,?_];by_cases e:g=h
   .subst e;exact dA (show(!decide (V.str g=V.str g))=false by rw[cE rfl];rfl) #[I,_,qt,rfl,O,J2,Bj,Kj,C2.iff (je.skip e6)]
   refine eQ (show(!decide (V.str g=V.str h))=true by rw[dt λy=>e (V.str.inj y)];rfl) ?_;have mH:h≠g:=dY e;have T2:aB H (upd J hp (.fc o (.cv Z))):=s1.trans (gJ Œ X);have Yv:=N.same (T2.trans O);have Qv:=dn.same (T2.trans O);have apH:=O _ _ ((gJ (o:=.fc o (.cv Z)) Œ X) _ _ ah);have apI:=O _ _ (show upd J hp (.fc o (.cv Z)) M=some (.cv oY) by rw[aJ (dY œ)];exact bV);refine MX ?_;refine ail (K:=K) (rest:=[some (.ref M),some (.str g),some (.ref gy)]) (xs:=(kz a ds (·.a) h).map V.int) (λR aoL=>?_) rfl (by rw[bP];have:=aeJ a ds (·.a) h;exact e' (by omega)) (λy=>match y with|.int i=>vu a ds h g i|_=>false) id (λi y g0 R eI Y Qt=>?_) (λi y g0 R eI _ hN Qt=>#[_,rfl,Qt g0 (aB.refl _)]) (λD g0 nG bI Y=>?_)
   .show#[_,rfl,n,eV,_,rfl,(T2.trans O) _ _ aM,rfl,_,rfl,n,a',b',a,rs,ds,h,rfl,Yv,Qv,c3,λ_ rH bK arb c4 eX=>#[rH,rfl,#[_,aQ.of eX],aoL rH bK arb c4 eX],λy=>bG hm y]
   .obtain⟨k,d,rfl,yc,aR⟩:=WW eI;obtain⟨r,gW⟩:∃r,rs[k]?=some r:=#[_,dw (by rw[hlen];exact(gn.mp yc).1)]
    obtain⟨d',ß,B',Bi⟩:=Qv.get gW;rw[yc]at ß;cases ß;obtain⟨lM,RG,pz,axR,axQ,QZ,Ef⟩:=ÿ _ (HI B'.b);have agQ:TabAt g0 hp (j' a ds h):=#[Z,.inr #[o,Y _ _ (O _ _ aK)],ue]
    have agR:TabAt g0 lM (j' a ds (S (a.getD d.b []))):=by
     by_cases dE:lM=hp
     .subst dE;rw[Bg]at QZ;cases QZ;show#[Z,.inr #[o,Y _ _ (O _ _ aK)],Ef]
     show#[RG,.inl (Y _ _ (O _ _ (by rw[aJ dE];exact QZ))),Ef]
    have an7:ao.gT (aS rs) (k:Int)=some (.ref r):=iH (by unfold aS;rw[dV,gW];rfl);show#[_,rfl,_,rfl,gy,_,_,_,rfl,rfl,aQ.of (Y _ _ apH),an7,_,rfl,_,rfl,r,M,hp,lM,a,d,oY,g,_,_,rfl,Y _ _ Bi,Y _ _ apI,by rw[aR];exact L5,pz,agQ,agR,λu dh=>#[v,bb],_,rfl,?_];have ep:vu a ds h g (k:Int)=AN (j' a ds h) (j' a ds (S (a.getD d.b []))) g d.t:=by unfold vu LN;rw[mZ,GX yc]
    rw[<-ep];exact Qt g0 (aB.refl _)
   have an1:(((kz a ds (·.a) h).map V.int).filter λy=>match y with|.int i=>vu a ds h g i|_=>false).map id=(fit a ds h g).map V.int:=by rw[ady,It];rfl
   rw[an1]at bI;show#[_,rfl,x,l,_,rfl,Y _ _ Bj,rfl,_,rfl,_,rfl,_,rfl,D,_,rfl,aQ.of bI,Zd ko bb mH,x,n,t,a',b',a,rs,ds,I,h,g,_,rfl,#[#[l,Y _ _ Bj],Yv.same Y,Y _ _ Kj],G,Qv.same Y,c3,tb G hm,tb G bJ,e' (by have:=C2.c3 (by rw[bP];exact é);omega),λ_ _ jv jo=>?_,λy=>bG (y' hm bJ mH) (by rw[y];decide),λ_ y=>bG (WT ko bb mH).1 y];have TV:=Y.trans jo;show#[_,_,_,rfl,gJ (by rw[aJ FD];exact nJ) (O.trans TV),by rw[aJ (dY Ő)];exact TV _ _ J2,by rw[aJ qs];exact TV _ _ Bj,aK,(C2.put hm bJ).iff (je.put e6 mH)]
  rintro U xk ⟨I,rU,qt,rfl,O,J2,Bj,Kj,C2⟩;show#[O _ _ aK,I,_,rU,qt,rfl,agD Bg O,by rw[aJ ŏ];exact J2,by rw[aJ ŧ];exact Bj,by rw[aJ FD];exact Kj,C2.iff (je.end ue l1)]
 rintro U kD ⟨I,aaC,rU,qt,rfl,eh,c',ar,dF,BT⟩;show#[_,rfl,q x t kD I (eU (s1.trans X) di) (eU (s1.trans X) nJ) ((s1.trans X).trans eh) #[#[l,ar],Yu.same eh,dF] ⟨BT.iff λh g=>#[λ⟨⟨j,_,gh⟩,b,c⟩=>#[fC gh,b,c],λ⟨m,b,c⟩=>#[?_,b,c]]⟩];obtain⟨j,bX⟩:=t2 m;show#[j,by have:=(gn.mp bX).1;rw[bP]at this;unfold cN;rw[bP];exact this,bX]
theorem akQ{a:bt}{ds:cC}(R:∀d∈ds,d.Ok a.length):∀e∈kl a ds,1<=e.t:=λe c=>by obtain⟨d,b,rfl⟩:=cm.mp c;exact(R d b).t.1
theorem aim{a:bt}{ds:cC}(R:∀d∈ds,d.Ok a.length){h:Str}{v:Int}(c:j' a ds h g=some v)(o:h≠g):
  ∃(k:Nat)(d:cw.fD)(u:Int),best a ds h g=(k:Int)/\ds[k]?=some d/\S (a.getD d.a [])=h/\j' a ds (S (a.getD d.b [])) g=some u/\(d.t:Int)+u=v:=by
 obtain⟨m,f⟩:=WT (akQ R) c o;obtain⟨i,r⟩:=t2 (cm.mpr #[_,m,rfl]:V.int (best a ds h g)∈(kz a ds (·.a) h).map V.int);obtain⟨k,d,n,b,p⟩:=WW r;have l:best a ds h g=(k:Int):=V.int.inj n;rw[l]at f;unfold vu AN LN at f;rw[mZ,GX b]at f;cases e:j' a ds (S (a.getD d.b [])) g with
 |none=>rw[e]at f;cases f
 |some u=>
  rw[e,c]at f;have:=nK f;show#[k,d,u,l,b,p,e,hI this]
theorem UT{b:Type}[DecidableEq b]{a:List (b×ao.V)}{k:b}(h:dk a k=some v):k∈a.map (·.1):=by obtain⟨j,x,e⟩:=Wc (show(dk a k).isSome=true by rw[h];rfl);exact cm.mpr #[_,fC e,rfl]
theorem ru.get{a:bt}{b:gm}(T:ru a ds b){k:List bq}(e:dk b k=some v):∃h g,k=f6 h g/\h∈a.map S/\g∈a.map S/\h≠g/\(j' a ds h g).isSome=true/\v=.int (best a ds h g):=by
 obtain⟨h,g,rfl,d,c⟩:=T.lu.key k (UT e);by_cases m:h∈a.map S/\h≠g/\(j' a ds h g).isSome=true
 .have:=T.lu.yes h g m;rw[e]at this;show#[h,g,rfl,d,c,m.2.1,m.2.2,hI this]
 rw[T.lu.no h g m]at e;cases e
theorem ru.ok{b:bt}{ds:cC}{a:gm}(T:ru b ds a)(R:∀d∈ds,d.Ok b.length):xV a ds.length:=⟨λk v e=>by
 obtain⟨h,g,rfl,p,o,n,m,rfl⟩:=T.get e;obtain⟨u,l⟩:=xK.mp m;obtain⟨i,d,_,f,c,_⟩:=aim R l n;show#[i,by rw[f],(gn.mp c).1]⟩
end
end dR
namespace b_
open PySem PySem.Spec PyProof.Rows ao PySem.W
structure rZ(n:Nat)(lt:jB):Prop where
 i7:∀i j k,lt i j=true->lt j k=true->lt i k=true
 to:∀i j,i<n->j<n->i≠j->lt i j=true\/lt j i=true
 aqd:∀i,lt i i=false
noncomputable abbrev du(p:mq)(a:Nat):Nat:=p.getD a 0
noncomputable def pd(c:jB)(p:mq)(k:Nat):Prop:=∀a b,a<b->b<k->c (du p a) (du p b)=true
theorem BZ{b c:Type}(a:jB)(f:b->KasT c):∀t:KasT b,ib a (t.bind f)=ib a (f (ib a t))
 |.ret _=>rfl
 |.ask i j k=>BZ a f (k (a i j))
theorem XD{b:Type}(a:jB){c:Prop}[Decidable c](s t:KasT b):ib a (if c then s else t)=if c then ib a s else ib a t:=by split<;>rfl
theorem e2.size{n:Nat}{p:mq}(h:e2 n p):p.size=n:=by have:=h.list.length_eq;simpa using this
theorem e2.inj{n:Nat}(h:e2 n p){a b:Nat}(k:a<n)(g:b<n)(e:du p a=du p b):a=b:=by
 have f:p.toList.Nodup:=h.list.nodup_iff.mpr NN;have l:=h.size;have d:du p a=p.toList[a]'(by simp;omega):=by simp[du,xc,show a<p.size by omega]
 have c:du p b=p.toList[b]'(by simp;omega):=by simp[du,xc,show b<p.size by omega]
 rw[d,c]at e;exact(DA f).mp e
section
variable{n:Nat}{lt:jB}
theorem rZ.or(o:rZ n lt)(h:e2 n p){a b:Nat}(g:a<n)(d:b<n)(k:a≠b)(f:lt (du p a) (du p b)=false):lt (du p b) (du p a)=true:=by
 have c:0<n:=by omega
 rcases o.to (du p a) (du p b) (h.at c a) (h.at c b) (λe=>k (h.inj g d e))with z|z
 .rw[z]at f;cases f
 exact z
theorem pd.succ(o:rZ n lt){k:Nat}(s:pd lt p k)(g:1<=k)(h:lt (du p (k-1)) (du p k)=true):pd lt p (k+1):=λa b d f=>by
 by_cases e:b=k
 .subst e;by_cases c:a=b-1
  .rw[c];exact h
  exact o.i7 _ _ _ (s a (b-1) (by omega) (by omega)) h
 exact s a b d (by omega)
theorem Nu(o:rZ n lt)(h:e2 n p):∀f k,1<=k->k+f<=n->pd lt p k->∃m,ib lt (kas_asc p f k)=m/\k<=m/\m<=k+f/\pd lt p m/\(m<k+f->lt (du p m) (du p (m-1))=true)
 |0,k,ah,aj,s=>#[k,rfl,cB _,cB _,s,λz=>bG z (by omega)]
 |f+1,k,ah,aj,s=>by
  show∃m,ib lt (if lt (du p k) (du p (k-1))=true then .ret k else kas_asc p f (k+1))=m/\_;cases e:lt (du p k) (du p (k-1))with
  |true=>
   rw[bS rfl];show#[k,rfl,cB _,by omega,s,λ_=>e]
  |false=>
   rw[bx (by decide)];have l:=o.or h (a:=k) (b:=k-1) (by omega) (by omega) (by omega) e;obtain⟨m,c,r,t,d,g⟩:=Nu o h f (k+1) (by omega) (by omega) (s.succ o ah l);show#[m,c,by omega,by omega,d,λz=>g (by omega)]
noncomputable def Ic(lt:jB)(p:mq)(k:Nat):Prop:=∀a b,a<b->b<k->lt (du p b) (du p a)=true
theorem XE(o:rZ n lt)(h:e2 n p):∀f k,1<=k->k+f<=n->Ic lt p k->∃m,ib lt (Fb f p k 0)=(p,m,0)/\k<=m/\m<=k+f/\Ic lt p m
 |0,k,ah,aj,s=>#[k,rfl,cB _,cB _,s]
 |f+1,k,ah,aj,s=>by
  show∃m,ib lt (if lt (du p k) (du p (k-1))=true then(if 0>0 then Fb f (Fc p (k-(0+1)) k) (k+1) 0 else Fb f p (k+1) 0)else .ask (du p (k-1)) (du p k) λd=>if d=true then .ret (p,k,0)else Fb f p (k+1) (0+1))=(p,m,0)/\_;cases e:lt (du p k) (du p (k-1))with
  |true=>
   rw[bS rfl,bx (by omega)];have t:Ic lt p (k+1):=λa b w z=>by
    by_cases l:b=k
    .subst l;by_cases c:a=b-1
     .rw[c];exact e
     exact o.i7 _ _ _ e (s a (b-1) (by omega) (by omega))
    exact s a b w (by omega)
   obtain⟨m,g,c,A,r⟩:=XE o h f (k+1) (by omega) (by omega) t;show#[m,g,by omega,by omega,r]
  |false=>
   rw[bx (by decide)];have y:=o.or h (a:=k) (b:=k-1) (by omega) (by omega) (by omega) e;show∃m,ib lt (if lt (du p (k-1)) (du p k)=true then .ret (p,k,0)else Fb f p (k+1) (0+1))=(p,m,0)/\_;rw[bS y];show#[k,rfl,cB _,by omega,s]
theorem Ie{p q:mq}{a b:Nat}(e:p[a]?=q[b]?):du p a=du q b:=by
 have f:∀(r:mq)(c:Nat),du r c=(r[c]?).getD 0:=λr c=>by
  show r.getD c 0=_;by_cases d:c<r.size
  .rw[Mq d];simp[xc,d]
  rw[Hz (by omega)];simp[xc,d]
 rw[f,f,e]
theorem Zo{p:mq}{r i:Nat}(a:r<=p.size)(b:i<r):du (Fc p 0 r) i=du p (r-1-i):=by have h:=getElem?_mirror_all (xs:=p) (i:=0) (j:=r) a i;rw[bS #[e4 _,b],show 0+r-1-i=r-1-i by omega]at h;exact Ie h
theorem agH(o:rZ n lt)(h:e2 n p){k:Nat}(r:1<=k)(d:k<=n)(s:Ic lt p k):∃m q,ib lt (Fd k n p)=(m,q)/\1<=m/\m<=n/\pd lt q m/\e2 n q:=by
 unfold Fd;rw[BZ];have f:=h.rev 0 k;have c:pd lt (Fc p 0 k) k:=λa b z l=>by rw[Zo (by rw[h.size];exact d) (by omega),Zo (by rw[h.size];exact d) l];exact s _ _ (by omega) (by omega)
 obtain⟨m,g,w,y,t,_⟩:=Nu o f (n-k) k r (by omega) c;rw[g];show#[m,_,rfl,by omega,by omega,t,f]
theorem agI(o:rZ n lt)(h:e2 n p)(N:2<=n):∃m q,ib lt (RF n p)=(m,q)/\1<=m/\m<=n/\pd lt q m/\e2 n q:=by
 unfold RF;rw[BZ];obtain⟨m,w,g,V,f,A⟩:=Nu o h (n-1) 1 (cB _) (by omega) (λa b L y=>by omega);rw[w,XD];by_cases l:m=n
 .rw[bS (by simpa using l)];show#[m,p,rfl,g,by omega,f,h]
 rw[bx (by simpa using l),XD];have c:=A (by omega);by_cases r:m>1
 .rw[bS r];show∃d q,ib lt (if lt (du p 0) (du p (m-1))=true then .ret (m,p)else ĺ m n (Fc p 0 m))=(d,q)/\_;rw[bS (f 0 (m-1) (by omega) (by omega))];show#[m,p,rfl,g,by omega,f,h]
 rw[bx r];have K:m=1:=by omega
 subst K;unfold ĺ;rw[BZ];obtain⟨k,z,e,i,t⟩:=XE o h (n-(1+1)) (1+1) (by omega) (by omega) (λa b L y=>by
  have:a=0/\b=1:=by omega
  rw[this.1,this.2];exact c)
 rw[z];show∃d q,ib lt (if 0>0 then Fd k n (Fc p (k-(0+1)) k)else Fd k n p)=(d,q)/\_;rw[bx (by omega)];exact agH o h (by omega) (by omega) t
theorem VG(o:rZ n lt)(h:e2 n p){k:Nat}(d:k<n)(s:pd lt p k):∀f l r,l<=r->r<=k->r-l<=f->(∀a,a<l->lt (du p a) (du p k)=true)->(∀a,r<=a->a<k->lt (du p k) (du p a)=true)->
  ∃m,ib lt (Bx p k f l r)=m/\m<=k/\(∀a,a<m->lt (du p a) (du p k)=true)/\∀a,m<=a->a<k->lt (du p k) (du p a)=true
 |0,l,r,ah,aj,q,j,i=>#[l,rfl,by omega,j,λa y=>i a (by omega)]
 |f+1,l,r,ah,aj,q,j,i=>by
  show∃m,ib lt (if l≥r then .ret l else .ask (du p k) (du p ((l+r)/2)) λc=>if c=true then Bx p k f l ((l+r)/2)else Bx p k f ((l+r)/2+1) r)=m/\_;by_cases c:l≥r
  .rw[bS c];show#[l,rfl,by omega,j,λa y=>i a (by omega)]
  rw[bx c];show∃m,ib lt (if lt (du p k) (du p ((l+r)/2))=true then Bx p k f l ((l+r)/2)else Bx p k f ((l+r)/2+1) r)=m/\_;have w:l<=(l+r)/2/\(l+r)/2<r:=by omega
  cases e:lt (du p k) (du p ((l+r)/2))with
  |true=>
   rw[bS rfl];refine VG o h d s f l ((l+r)/2) w.1 (by omega) (by omega) j λa y t=>?_;by_cases g:a=(l+r)/2
   .rw[g];exact e
   exact o.i7 _ _ _ e (s _ _ (by omega) t)
  |false=>
   rw[bx (by decide)];have z:=o.or h (a:=k) (b:=(l+r)/2) d (by omega) (by omega) e;refine VG o h d s f ((l+r)/2+1) r (by omega) aj (by omega) (λa y=>?_) i;by_cases g:a=(l+r)/2
   .rw[g];exact z
   exact o.i7 _ _ _ (s a _ (by omega) (by omega)) z
theorem Zq{p:mq}{k l i:Nat}(b:k<p.size)(d:l<=k):du (bubble p k (k-l)) i=if i=l then du p k else if l<i/\i<=k then du p (i-1)else du p i:=by
 have h:=getElem?_bubble (xs:=p) b (k-l) (by omega) i;rw[show k-(k-l)=l by omega]at h;by_cases c:i=l
 .rw[bS c]at h⊢;exact Ie h
 rw[bx c]at h⊢;by_cases a:l<i/\i<=k
 .rw[bS a]at h⊢;exact Ie h
 rw[bx a]at h⊢;exact Ie h
theorem Zs(o:rZ n lt):∀(f:Nat)(p:mq)(k:Nat),e2 n p->pd lt p k->k+f=n->pd lt (ib lt (RE f p k)) n
 |0,p,k,h,s,e=>by
  have:k=n:=by omega
  subst this;exact s
 |f+1,p,k,h,s,e=>by
  show pd lt (ib lt ((Bx p k k 0 k).bind λl=>RE f (bubble p k (k-l)) (k+1))) n;rw[BZ];obtain⟨m,y,g,K,L⟩:=VG o h (k:=k) (by omega) s k 0 k (e4 _) (cB _) (by omega) (λa A=>bG A (by omega)) (λa i z=>bG z (by omega));rw[y];refine Zs o f _ _ (h.Ç _ _) (λa b N V=>?_) (by omega);have r:k<p.size:=by rw[h.size];omega
  rw[Zq r g,Zq r g];by_cases c:a=m
  .rw[bS c,bx (by omega),bS #[by omega,by omega]];exact L (b-1) (by omega) (by omega)
  rw[bx c];by_cases w:b=m
  .rw[bS w,bx (by omega)];exact K a (by omega)
  rw[bx w];by_cases d:m<a/\a<=k
  .rw[bS d,bS #[by omega,by omega]];exact s _ _ (by omega) (by omega)
  rw[bx d];by_cases t:m<b/\b<=k
  .rw[bS t];exact s _ _ (by omega) (by omega)
  rw[bx t];exact s _ _ N (by omega)
theorem abL(o:rZ n lt):(rM lt n).Pairwise λi j=>lt i j=true:=by
 unfold rM;by_cases k:n<2
 .rw[bS k];have:n=0\/n=1:=by omega
  rcases this with e|e<;>subst e<;>simp[z9]
 rw[bx k];have r:e2 n (z' (eB n)):=abg _;unfold By;rw[BZ];obtain⟨m,q,p,L,N,l,h⟩:=agI o r (by omega);rw[p];show((ib lt (if m<n then RE (n-max m 1) q (max m 1)else .ret q)).toList).Pairwise _;have K:max m 1=m:=by omega
 rw[K];have d:∀b:Array Nat,e2 n b->pd lt b n->b.toList.Pairwise λi j=>lt i j=true:=λb a s=>by
  rw[Ya];intro i j V t A;have f:j<n:=by rw[<-a.size];simpa using t
  have:=s i j A f;have g:i<b.size:=by rw[a.size];omega
  have z:j<b.size:=by rw[a.size];omega
  have w:du b i=b[i]:=by simp[du,xc,g]
  have y:du b j=b[j]:=by simp[du,xc,z]
  rw[w,y]at this;simpa using this
 by_cases c:m<n
 .rw[bS c];refine d _ ?_ (Zs o _ _ _ h l (by omega));exact LQ (lt:=lt) _ (Oh (by omega) _ _ _ h)
 rw[bx c];have:m=n:=by omega
 subst this;exact d q h l
end
section
variable{X:bH}{o e f:Expr}{eZ ty qs:TE}{gr gg:Pos}
noncomputable def aj0(eZ ty qs:TE):TE:=λU H Q=>eZ U H λx d=>∃a,x=.ref a/\Ds d a/\ty U d λy g=>qs U g λz c=>∃b k,y=dq k/\c a=some (.cv b)/\b.length<sizeLine/\
 (∀v,dk b k=some v->Q v c)/\(dk b k=none->Q z (upd c a (.cv (fw b k z))))
theorem agK(aX:bA X o eZ)(he:bA X e ty)(E:bA X f qs)(m:M2 X o "setdefault" gr e f gg):bA X (.Call (.Attribute o "setdefault" gr) [e,f] [] gg) (aj0 eZ ty qs):=by
 intro c s U H Q I h;refine aaI m.base m.c3 m.line N9 afm PySem.F.type_dict_setdefault (bU (aX c s U H _ I h) λu s1 l=>?_);obtain⟨x,V,t,J,a,T,d,C⟩:=l;subst T;obtain rfl:u=cX a:=J;obtain⟨t1,Y,_⟩:=Nf t d;show#[t1,Y,?_];rw[m.trees];refine HD rfl (HE (C5 (bU (he c s1 U V _ t C) λnD s2⟨y,j,D,O,P⟩=>C5 (bU (E c s2 U j _ D P) λhT bp⟨z,M,n,p,b,k,R,r,lk,q,hW⟩=>MF ?_))));subst R;obtain⟨tG,A,vs,g,w⟩:=zK n.bo r;have l:vs.length<=sizeLine:=by rw[<-g.length];exact tG
 have r0:=g.val k;refine Eo afm w.typeIs PySem.F.entry_dict_setdefault (PySem.F.args_dict_setdefault_3 _ _ _) (kt_meets_setdefault (h9 X.prog X.w) a (tm O) A hT) #[vs,w,l,λv F=>?_,λi Z K N=>?_]
 .rw[F]at r0;cases ev:dk b k with
  |none=>rw[ev]at r0;exact r0.elim
  |some v1=>
   rw[ev]at r0;show#[v1,M,n.tok _,r0,q v1 ev]
 have v0:dk b k=none:=by
  rw[i]at r0;cases ev:dk b k with
  |none=>rfl
  |some v=>rw[ev]at r0;exact r0.elim
 have B:(fw b k z).length<=sizeLine:=by have:=K8 b k z;omega
 have L:∃q,Z.get? a=some q:=let⟨q,_,_,G,_⟩:=K;#[q,G]
 show#[z,_,Cv (ob:=.cv (fw b k z)) n (by rw[r];exact mn) N L (Hm B A (g.put k p) K),p,hW v0]
end
section
variable{prog:cx}{w:bf}{A:eu}{E:cW}{s:aW}{d:Addr}{ep:Nat}{es:Array r9}
theorem mW.lt{h:Heap}(x:mW h d es ep):d<h.objs.size:=let⟨_,aX,_⟩:=x;dN aX
theorem mW.at'{h a:Heap}(x:mW h d es ep)(k:∀o,h.get? d=some o->a.get? d=some o):mW a d es ep:=let⟨o,aX,r⟩:=x;#[o,k o aX,r]
theorem acY(n:A.handled=none)(I:Addr)(r:d≠I):Walks prog w A I [I,d] [I] es.size (λi v=>∃e,es[i]?=some e/\v=e.key) (λi h=>h.IsKeyIter I d i es.size ep/\mW h d es ep)where
 sub:=λb a=>by simp at a;simp[a]
 frame:=λ_ _ _ st g=>#[st.1.at λo e=>g I (by simp) o e,st.2.at' λo e=>g d (by simp) o e]
 item:=λi s Q E l st c=>by refine Zh st.1 st.2 l λf p k=>c _ f s.toks #[es[i],by simp[l],rfl] #[p,st.2.at' λo e=>(k.2 d r).trans e] λb o a e=>(k.2 b (λz=>a (by simp[z]))).trans e
 done:=λs Q E st c=>XQ n st.1 st.2 (cB _) λf m=>c f s.toks λb o a e=>m b o (λz=>a (by simp[z])) e
 self:=λ_ _ _ _ st c=>wpAny_pyIter_keyiter st.1 c
theorem agL(lo:(d==lh)=false):KdlSrc prog w "dict" d d es.size (λi v=>∃e,es[i]?=some e/\v=e.key) (λh=>mW h d es ep)where
 type:=λ_ a=>let⟨o,aX,b,_⟩:=a;#[o,aX,b.1]
 there:=λ_ a=>#[a.lt,a.lt]
 keep:=λ_ _ a f=>a.at' λo e=>f d (.inl rfl) o e
 notList:=by decide
 notTuple:=by decide
 hint:=λ_ _ _ _ a c=>kdl_hint_dict (let⟨o,aX,b,_⟩:=a;#[o,aX,b.1]) c
 iter:=λ_ s g a=>#[_,_,(λ_ _ c=>XR lo a c),acY g _ (eT a.lt),#[#[_,gG _ rfl,rfl,rfl],a.at' λo e=>d0 _ e]]
theorem acZ{vs:dx}{κ:AD}{lt:jB}{Q:cW}(lo:(d==lh)=false)(I:A.handled=none)(J:mW s.heap d es ep)(y:vs=es.toList.map (·.key))(P:vs.length<64)(V:2<=vs.length->∀g:aW,oG s.heap g.heap->∀Q:AD->aW->Prop,Q κ g->aT (bg prog w) A.in1.in1 (RN vs.toArray) Q (λ_ _=>False) g)(F:2<=vs.length->∀g:aW,oG s.heap g.heap->∀i j C,i<vs.length->j<vs.length->C (lt i j) g->Fa prog w A.in1.in1 κ vs i j C g)(h:∀a D f t c,oG s.heap a->a.objs.size<=D->oG a f->f.get? D=some (ka "list" (z' (hV fP lt vs)) c)->Q (.ref D) {s with heap:=f,toks:=t}):
  aT (bg prog w) A (call (.builtin "sorted") ([.ref d]:dx)) Q E s:=by
 have l:vs.length<=sizeLine:=by rw[u3];omega
 have R:es.size=vs.length:=by rw[y,bP,Ms]
 refine abC kind_sorted plain_sorted entry_sorted (args_sorted1 (.ref d)) ?_;unfold Builtin.«sorted»;refine aE (m:=checkCount "sorted" 1 1 _) (bW ?_);refine aE (kdu_collect (A:=A.in1) (agL (ep:=ep) (es:=es) lo) I J (by rw[R];exact l) λa G k r n=>?_);have u:k.toList=vs:=by
  apply X4;intro j;rw[y,dV];by_cases H:j<es.size
  .have K:j<k.size:=by rw[n.1];exact H
   obtain⟨e,N,L⟩:=n.2 j k[j] (by simp[K]);rw[Mr,Mr,N,Mq K];exact fa some L
  rw[Mr,Mr,Hz (by rw[n.1];omega),Hz (by omega)];rfl
 rw[u];refine aE (aaO ?_ l);have bI:(a.push (ka "list" vs.toArray 0)).get? a.objs.size=some (ka "list" vs.toArray 0):=gG _ rfl;have M:oG s.heap (a.push (ka "list" vs.toArray 0)):=λb o q=>d0 _ (r b o q);have z:∀f,vr a.objs.size (a.push (ka "list" vs.toArray 0)) f->oG s.heap f:=λf x b o q=>x b o (eT (dN (r b o q))) (M b o q);have O:∀f,vr a.objs.size (a.push (ka "list" vs.toArray 0)) f->oG a f:=λf x b o q=>x b o (eT (dN q)) (d0 _ q);refine aE (oH (pB asd #[_,bI,rfl] an3 ?_ (ant _)));refine XP (s:={s with heap:=a.push (ka "list" vs.toArray 0),toks:=G}) (κ:=κ) (lt:=lt) bI P (λp g x=>V p g (z _ x)) (λp g x=>F p g (z _ x)) λf c x B=>?_;show#[_,rfl,bW #[_,rfl,h a _ f _ c r (cB _) (O _ x) B]]
end
section
variable{X:bH}
noncomputable def ltI(a:hA)(i j:Nat):Bool:=decide (i<a.length/\j<a.length/\a.getD i 0<a.getD j 0)
theorem aj1{a:hA}(l:a.Nodup):rZ a.length (ltI a)where
 i7:=λi j k b c=>by have b:=nK b;have c:=nK c;exact cE #[b.1,c.2.1,by omega]
 to:=λi j f d n=>by
  have h:a.getD i 0=a[i]:=by rw[ea,dw f];rfl
  have g:a.getD j 0=a[j]:=by rw[ea,dw d];rfl
  have m:a.getD i 0≠a.getD j 0:=λz=>n ((DA l).mp (by rw[<-h,<-g];exact z));rcases Int.lt_or_lt_of_ne m with z|z
  .exact .inl (cE #[f,d,z])
  exact .inr (cE #[d,f,z])
 aqd:=λi=>dt λz=>by omega
noncomputable def sortI(a:hA):List Int:=hV 0 (ltI a) a
theorem sortI_perm(a:hA):(sortI a).Perm a:=V_ _ _ _
theorem agM{a:hA}(b:a.Nodup):(sortI a).Pairwise (· < ·):=by unfold sortI hV;rw[DB];exact(abL (aj1 b)).imp λz=>(nK z).2.2
theorem Xt(a:hA):hV V.b3 (ltI a) (a.map V.int)=(sortI a).map V.int:=by unfold sortI hV;rw[hc,bP];refine t4 λi b=>?_;have:=LR b;show(a.map V.int).getD i .b3=V.int (a.getD i 0);rw[ea,dV,dw this,ea,dw this];rfl
section
variable{prog:cx}{w:bf}{A:eu}{s:aW}{ns:hA}{us:dx}
theorem MY(r:de (ns.map V.int) us){i:Nat}(c:i<us.length):∃t,us.getD i fP=.int (ns.getD i 0) t:=by have a:=r.length;rw[bP]at a;obtain⟨u,b,t,rfl⟩:=r.get (x:=V.int (ns.getD i 0)) (i:=i) (by rw[dV,dw (by omega),ea,dw (by omega)];rfl);show#[t,by rw[ea,b];rfl]
theorem Wd(r:de (ns.map V.int) us)(b:2<=us.length){Q:AD->aW->Prop}(h:Q Tj s):aT (bg prog w) A (RN us.toArray) Q (λ_ _=>False) s:=by refine kas_kind (T:=.type "int") b (λv c=>?_) (by decide+kernel) (by decide+kernel) h;obtain⟨i,a,rfl⟩:=xD c;obtain⟨t,e⟩:=MY r a;rw[ea,dw a]at e;have e:us[i]=.int (ns.getD i 0) t:=e;rw[e];exact Yg rfl
theorem WX(r:de (ns.map V.int) us){i j:Nat}(f:i<us.length)(d:j<us.length){C:Bool->aW->Prop}(h:C (ltI ns i j) s):Fa prog w A Tj us i j C s:=by have c:=r.length;rw[bP]at c;obtain⟨t,b⟩:=MY r f;obtain⟨u,a⟩:=MY r d;unfold Fa;rw[b,a];refine kat_lt_int ?_;have e:ltI ns i j=decide (ns.getD i 0<ns.getD j 0):=decide_eq_decide.mpr #[λz=>z.2.2,λz=>#[by omega,by omega,z]];rw[<-e];exact h
end
theorem ain{w:bf}{n:Int}(h:(h9 P w).is (.inl n) v=true):RelV (V.int n) v:=by obtain⟨t,e⟩:=ahE h;show#[t,e]
end
end b_
namespace dR
open PySem ao b_ cw
theorem Xu{f:Type}{R:f->f->Prop}(g:∀a b,R a b->R b a->False):∀{a b:List f},a.Perm b->a.Pairwise R->b.Pairwise R->a=b
 |[],b,p,_,_=>p.nil_eq
 |x::a,[],p,_,_=>bG p.length_eq (by simp)
 |x::a,y::b,p,lb,cL=>by
  rw[List.pairwise_cons]at lb cL;have d:x=y:=by
   rcases dr.mp (p.mem_iff.mp (.head _):x∈y::b)with e|e
   .exact e
   rcases dr.mp (p.mem_iff.mpr (.head _):y∈x::a)with c|c
   .exact c.symm
   exact(g _ _ (lb.1 y c) (cL.1 x e)).elim
  subst d;rw[Xu g (List.Perm.cons_inv p) lb.2 cL.2]
theorem BJ(rs:List Row):(lI rs).Perm rs:=by unfold lI Oi;refine((Uw _ _).map _).trans ?_;rw[show(eB rs.length).map (λi=>rs.getD i r0)=rs from ?_];refine Dx (by simp) λi b a=>?_;rw[xC,Iv,ea,dw a];rfl
inductive τ(C:Addr)(vs:aO)(H:af)(Q:a4)(f':bY):Prop where
 |mk(x ag n t:Addr)(rs:List Row)(_:vs=[.ref x])(_:H x=some (.ins C ag (kW n t)))(_:H t=some (.dB (hD rs)))(_:rs.length<64)(_:∀(l:Addr)(H':af)(ts:bL),H l=none->aB H H'->H' l=some (.lst (hV .b3 (o_ (rs.map vt)) (aS ts)))->eE H' ts (rs.map qx)->Q (.ref l) H')
section
variable{P:cx}{w:bf}{K:aN}{mg:cb}{base:Heap}
noncomputable abbrev Lv:Stmt:=fS (top 59) 5
theorem amV:cI cG cG (b5 Lv):={}
theorem akR{f:Addr}(F:cj K "pairs" "Ways.pairs" Lv f fd)(B:ft mg)(T:w' K C):aD P w K mg base a3 1 f fd cG (τ C):=by
 refine F.ok amV (λcdv A I s H vs Q E al h=>?_);obtain⟨x,M,n,t,rs,rfl,y,N,c3,q⟩:=h;show#[_,(a7 (cd (eD aaD B.sorted LK (ak (akK (tl (N':=["pair","road"]) (cs:=[none,none]) rfl (agn (d5 (ae 0))) rfl (by decide+kernel) rfl (by decide+kernel) (lE (λp aG=>bG aG (e3))) rfl
   (.own (.own .nil))
   (λC bp bz dc fA=>#[(Md (K:=K) (n:=2) rfl rfl (sW (fG 0 (by show(["pair","road"]:cK).Nodup;decide+kernel)) (sW (fG 1 (by show(["pair","road"]:cK).Nodup;decide+kernel)) GO))),o5,(rE (ak (b8 (Cu (K:=K) rfl) (ae 0) aZ) (ak (b8 (Cu (K:=K) rfl) (ae 0) aZ) (ak (ae 1) aA))))]))) aA)))),?_]
 try dsimp only[cT,cS]
 have f9:(hD rs).length=rs.length:=by unfold hD;rw[bP]
 have K3:x≠t:=λz=>by rw[z,N]at y;cases y
 dsimp only[xm,w1,pb];show#[t,hD rs,N,λo=>?_];have gj:upd H t (.fc o (.dB (hD rs))) x=some (.ins C M (kW n t)):=by rw[aJ K3];exact y
 refine ael (H1:=upd H t (.fc o (.dB (hD rs)))) (a:=t) (o:=o) (kvs:=hD rs) (rest:=[]) (λR h=>#[_,rfl,x,C,M,_,_,rfl,gj,T.cl,T.ec,rfl,t,o,_,rfl,aK,h]) rfl aK (e' (by omega)) (λi=>qx (rs.getD i r0)) (λi k gA b ai R j au c Z=>?_) (λD H1 g U bI L X=>?_)
 .unfold hD at j;rw[dV]at j;obtain⟨r,gW,aF⟩:=gS.mp j;cases aF;rw[zE gW]at Z;show#[_,rfl,b,_,_,_,rfl,rfl,cV.of c,rfl,_,rfl,b,_,_,_,rfl,rfl,cV.of c,rfl,_,rfl,(by show 3<=sizeLine;decide),λz wJ=>Z z _ (bF wJ) aK]
 have Uo:(eB (hD rs).length).map (λi=>qx (rs.getD i r0))=rs.map qx:=by rw[f9];exact range_getD qx r0 rs
 rw[Uo]at L;have m:D≠t:=λz=>by rw[z,aK]at U;cases U
 have Ī:=X _ _ (aK (H:=H) (a:=t) (o:=.fc o (.dB (hD rs))));have Y:aB H (upd H1 t (.dB (hD rs))):=λb v e=>by
  by_cases c:b=t
  .rw[c]at e⊢;rw[aK,<-e,N]
  rw[aJ c];exact X _ _ (by rw[aJ c];exact e)
 have J:eE (upd H1 t (.dB (hD rs))) g (rs.map qx):=L.upd Ī (by intro d z;cases z);have d_:=L.len;rw[bP]at d_;show#[Ī,D,g,rs.map vt,false,[false,true],rfl,aQ.of (by rw[aJ m];exact bI),aem J,by omega,row_shape rs,λl G=>?_];have O:=bF (o:=.lst (hV V.b3 (o_ (rs.map vt)) (g.map V.ref))) G;refine q l _ g ?_ (Y.trans O) aK (J.same O);cases e:H l with
 |none=>rfl
 |some u=>rw[Y _ _ e]at G;cases G
theorem agN{rs:List Row}(g:eE H e (rs.map qx)):∃a,hV V.b3 (o_ (rs.map vt)) (aS e)=aS a/\eE H a ((lI rs).map qx):=by
 have h:(aS e).length=rs.length:=by have:=g.len;rw[bP]at this;rw[fo,this]
 unfold hV lI Oi;rw[h];have all:∀b:List Nat,(∀i∈b,i<rs.length)->∃a,(b.map λi=>(aS e).getD i .b3)=aS a/\eE H a ((b.map λi=>rs.getD i r0).map qx):=λb=>by
  induction b with
  |nil=>intro _;show#[[],rfl,.nil]
  |cons i q s=>
   intro c;obtain⟨a,n,l⟩:=s λj p=>c j (.tail _ p);have k:=c i (.head _);have m:i<e.length:=by rw[fo]at h;omega
   have d:e[i]?=some e[i]:=dw m;obtain⟨y,f,o⟩:=b2.get g d;rw[dV,dw k]at f;cases f;show#[e[i]::a,?_,.cons ?_ l]
   .rw[jd,n];show(aS e).getD i .b3::aS a=V.ref e[i]::aS a;congr 1;show((aS e)[i]?).getD .b3=_;unfold aS;rw[dV,d];rfl
   show H e[i]=some (gQ.tup (qx (rs.getD i r0)));rw[show rs.getD i r0=rs[i] by rw[ea,dw k];rfl];exact o
 exact all _ λi c=>LR c
theorem aei{rs:List Row}(f:(rs.map λr=>(r.1,r.2.1)).Nodup){i:Nat}{r:Row}(e:rs[i]?=some r):fw (hD (rs.take i)) (f6 r.1 r.2.1) (.int r.2.2)=hD (rs.take (i+1)):=by
 have c:rs.take (i+1)=rs.take i++[r]:=by rw[pO,e];rfl
 rw[c];have d:(rs.take (i+1)).map (λr=>(r.1,r.2.1)) |>.Nodup:=by rw[NK];exact f.sublist (DD _ _)
 rw[c,eK]at d;have b:dk (hD (rs.take i)) (f6 r.1 r.2.1)=none:=by
  cases z:dk (hD (rs.take i)) (f6 r.1 r.2.1)with
  |none=>rfl
  |some v=>
   have:=dR.UT z;unfold hD at this;rw[hc]at this;obtain⟨q,g,a⟩:=cm.mp this;have a:([.inr q.1,.inr q.2.1]:List bq)=[.inr r.1,.inr r.2.1]:=a;simp at a;have:=(vE.mp d).2.2 (q.1,q.2.1) (cm.mpr #[q,g,rfl]) (r.1,r.2.1) (by simp);exact bG (by rw[a.1,a.2]) this
 rw[Ca _ b];unfold hD;rw[eK];rfl
noncomputable abbrev Ž:Stmt:=fS (top 59) 2
end
structure I7(mg:cb):Prop where
 adV:tT mg "MOST_LETTERS" 40
 Yl:tT mg "MOST_TURN" 1000000000
 adT:tT mg "MOST_APART" 30
noncomputable def nq(b:fW):PyData->Bool
 |.tuple [a,t,g]=>iI b a g&&s5 0 1000000000 t
 |_=>false
theorem abM{ds:fW}(h:ds.length≠3):nq hs (.tuple ds)=false:=by rcases ds with _|⟨a,_|⟨b,_|⟨c,_|⟨e,r⟩⟩⟩⟩<;>first|rfl|(simp at h)
noncomputable def rP:PyData->Int
 |.tuple [_,.int t,_]=>t
 |_=>0
theorem abN{d:PyData}(h:nq hs d=true):∃a t g,d=.tuple [a,.int t,g]/\0<=t/\t<=1000000000:=by
 unfold nq at h;split at h
 .rename_i a t g;rw[i']at h;cases t with
  |int i=>
   have b:(decide (0<=i)&&decide (i<=1000000000))=true:=h.2;rw[i']at b;show#[a,i,g,rfl,nK b.1,nK b.2]
  |_=>cases h.2
 cases h
noncomputable def HS(a:hA):Int:=if a=[]then 0 else zW a-tr a
inductive Zn(vs:aO)(H:af)(Q:a4)(f':bY):Prop where
 |mk(a:Addr)(hs:fW)(v:ao.V)(d:PyData)(_:vs=[.ref a,v])(_:c7 H (.ref a) (.list hs))(_:c7 H v d)(_:d.depth<=61)(_:Q (.aV (nq hs d)) H)
inductive Xv(vs:aO)(H:af)(Q:a4)(f':bY):Prop where
 |mk(v:ao.V)(hs ds:fW)(_:vs=[v])(_:c7 H v (.list ds))(_:(∀d∈ds,nq hs d=true))(_:∀H',aB H H'->Q (.int (HS (ds.map rP))) H')
inductive D5(C:Addr)(vs:aO)(H:af)(Q:a4)(f':bY):Prop where
 |mk(e:Addr)(v:ao.V)(_:vs=[.ref e,v])(_:H e=some (nw e C))(_:∀ag,H ag=none->ag≠e->Q .b3 (upd (upd H ag (oI ag [("number",v)])) e (nv e C ag)))
noncomputable def oX(a:fW):List PyData->Option Nat
 |[]=>none
 |d::r=>if nq a d=true then(oX a r).map (·+1)else some 0
noncomputable def O_:Option Nat->ao.V
 |some i=>.int i
 |none=>.b3
noncomputable def r1(a ds:fW):Prop:=oX a ds=none/\ds.length<=40/\HS (ds.map rP)<=30
inductive Z9(C c1:Addr)(vs:aO)(H:af)(Q:a4)(E:bY):Prop where
 |mk(x a' b':Addr)(hs:bt)(zs:aO)(v:ao.V)(ds:fW)(_:vs=[.ref x,v])(_:hL C H x a' b' (cN hs) zs)(_:Good hs)(_:c7 H v (.list ds))(_:(YF ds).depth<=62)(_:(r1 (bI hs) ds->∀l H',H l=none->aB H H'->c7 H' (.ref l) (.list ds)->Q (.ref l) H'))(_:(¬r1 (bI hs) ds->∀ag H',H ag=none->aB H H'->H' ag=some (oI ag [("number",O_ (oX (bI hs) ds))])->E (.ref c1) (some ag) H'))
section
variable{P:cx}{w:bf}{K:aN}{mg:cb}{base:Heap}
noncomputable abbrev T3:Stmt:=fS (top 6) 0
theorem amW:cI d4 d4 (b5 T3):={}
theorem akS{f:Addr}(F:cj K "__init__" "NoLetter.__init__" T3 f fd)(a:qN K mg "RoadError" C R)(d:mg "RoadError"=some (.ref R))(c:cD K (.ref C) "number"=some none):aD P w K mg base a3 1 f fd d4 (D5 C):=by
 refine F.ok amW (λ_ A _ s H vs Q E g h=>?_);obtain⟨e,v,rfl,b,q⟩:=h;show#[_,(a6 (hj (afU (by rfl) d a.a_ a.PT a.T5 (ak (ae 0) (ak cn aA))))
  (a7 (ahy (y:="RoadError") (R:=R) (ae 0) (ae 1) rfl))),?_]
 try dsimp only[cT,cS]
 show#[_,rfl,e,C,_,rfl,b,a,(by show 1<=sizeLine;decide),?_];show#[_,rfl,_,rfl,e,C,rfl,a,c,.inl #[b,q]]
noncomputable abbrev I8:Stmt:=top 24
theorem ak5:cI pP pP (b5 I8):={}
theorem aj2{f:Addr}(F:cj K "is_letter" "is_letter" I8 f fd)(I:I7 mg)(O:cu K mg "is_tuple_of" Hf vI f1 j)(V:aD P w K mg base a3 1 f1 j vI Vw)(G:cu K mg "are_unlike_houses" Cx sf f2 x)(L:aD P w K mg base a3 1 f2 x sf LJ)(M:cu K mg "is_whole_within" GW vF cP C)(N:aD P w K mg base a3 2 cP C vF U0):
  aD P w K mg base a3 3 f fd pP Zn:=by
 refine F.ok ak5 (λ_ A _ s H vs Q E l h=>?_);obtain⟨a,n,v,d,rfl,i,h,u,q⟩:=h;show#[_,(a7 (cd (o9 (d9 V O l.mono b0 (ak (ae 1) (ak aZ aA))) (o9 (d9 L G l.mono b0 (ak (ae 0) (ak (b8 eH (ae 1) aZ) (ak (b8 eH (ae 1) aZ) aA)))) (ta (d9 N M l.mono b0 (ak (b8 eH (ae 1) aZ) (ak aZ (ak (uP (by rfl) I.Yl) aA))))))))),?_]
 try dsimp only[cT,cS]
 show#[_,rfl,v,d,_,rfl,h,_,rfl,?_];cases h with
 |@tup r xs ds e z t=>
  show if decide ((ds.length:Int)=3)=true then _ else _
  by_cases y:ds.length=3
  .refine eQ (cE (by omega)) ?_;have J:xs.length=3:=by rw[t.len];exact y
   obtain⟨p,m,o,rfl⟩:∃p m o,xs=[p,m,o]:=by rcases xs with _|⟨a,_|⟨b,_|⟨c,_|⟨d,r⟩⟩⟩⟩<;>first|exact⟨_,_,_,rfl⟩|(simp at J)
   cases t with
   |cons t0 t=>
    cases t with
    |cons t1 t=>
     cases t with
     |cons gP t=>
      cases t;rename_i fp k g;have q:Q (.aV (iI n fp g&&s5 0 1000000000 k)) H:=q;have R:qI [fp,k,g]+1<=61:=u;have D:fp.depth<=60:=dX (B5 (by simp:fp∈[fp,k,g])) (by omega);have B:g.depth<=60:=dX (B5 (by simp:g∈[fp,k,g])) (by omega);show#[_,rfl,_,rfl,r,_,_,_,rfl,rfl,cV.of e,rfl,_,rfl,r,_,_,_,rfl,rfl,cV.of e,rfl,a,n,p,o,fp,g,rfl,i,t0,gP,D,B,_,rfl,?_];cases ah:iI n fp g with
      |false=>
       rw[ah]at q;exact fR q
      |true=>
       rw[ah,qB]at q;exact hU #[_,rfl,r,_,_,_,rfl,rfl,cV.of e,rfl,m,k,_,_,rfl,t1,q]
  refine dA (dt (by omega)) ?_;rw[abM y]at q;exact q
 |_=>exact fR q
noncomputable abbrev HT:Stmt:=top 25
theorem Xw:cI ["letters","turns"] ["letters"] (b5 HT):={}
theorem We:∀{vs:aO}{ds:fW},eC H vs ds->(∀d∈ds,nq hs d=true)->vs.map (λv=>V.int (rP (um H v)))=(ds.map rP).map V.int
 |_,_,.nil,_=>rfl
 |_,_,.cons a b,h=>by simp only[jd];rw[Gh a,We b λd c=>h d (n3 _ c)]
theorem agB{f:Addr}(F:cj K "turns_apart" "turns_apart" HT f fd)(B:ft mg):aD P w K mg base a3 1 f fd ["letters"] Xv:=by
 refine F.ok Xw (λ_ A _ s H vs Q E I h=>?_);obtain⟨v,X,ds,rfl,e,g,q⟩:=h;obtain⟨a,xs,rfl,k,b,t⟩:=Ng e;show#[_,(a6 (wA (i:=1) Xw.aI rfl rfl rfl (N':=["letter"]) (cs:=[none]) rfl (jE (ae 0)) rfl (by decide+kernel) rfl (by decide+kernel) (lE (λp o=>bG o (e3))) rfl
   (.own .nil)
   (λC M O T U=>#[(fG 0 (by show(["letter"]:cK).Nodup;decide+kernel)),o5,(b8 (Cu (K:=K) rfl) (ae 0) aZ)]))
  (a7 (cd (bO Hj (Z5 true zW rfl rfl (by rfl) B.max (ak (ae 1) aA) aZ) (Z5 false tr rfl rfl (by rfl) B.min (ak (ae 1) aA) aZ))))),?_]
 try dsimp only[cT,cS]
 dsimp only[gN,vm];refine Cw (J:=n2 K a) (H1:=H) (xs:=xs) (rest:=[]) (λR h=>#[_,rfl,a,rfl,#[_,aQ.of k],h]) rfl (s4 (aQ.of k)) (e' (by omega)) (λv=>.int (rP (um H v))) (λi x y R j L l=>?_) (λD H' G c V=>?_)
 .obtain⟨d,cF,m⟩:=t.get j;obtain⟨anJ,N,df,rfl,_,_⟩:=abN (g d (fC cF));have n:=l y (aB.refl _);rw[Gh m]at n;clear l;obtain⟨r,Y,rfl,u,_,ty⟩:=Y3 (m.same L);cases ty with
  |cons t0 ty=>
   cases ty with
   |cons t1 ty=>
    cases ty with
    |cons gP ty=>
     cases ty;obtain rfl:=aiZ t1;show#[_,rfl,r,_,_,_,rfl,rfl,cV.of u,rfl,n]
 rw[We t g]at c;have q:=q H' V;unfold HS at q;by_cases b:ds.map rP=[]
 .rw[bS b]at q;show#[_,rfl,.int 0,D,ds.map rP,rfl,rfl,aQ.of c,λ_=>?_,λz=>bG b z];show#[_,rfl,.int 0,D,ds.map rP,rfl,rfl,aQ.of c,λ_=>#[_,_,rfl,rfl,q],λz=>bG b z]
 rw[bx b]at q;show#[_,rfl,.int 0,D,ds.map rP,rfl,rfl,aQ.of c,λz=>bG z b,λ_=>?_];show#[_,rfl,.int 0,D,ds.map rP,rfl,rfl,aQ.of c,λz=>bG z b,λ_=>#[_,_,rfl,rfl,q]]
noncomputable abbrev IZ:Stmt:=top 26
theorem Ib:cI ["net","some","houses","number","thing"] DL (b5 IZ):={}
theorem aaX:∀{ds:fW}{i:Nat},(∀j,j<i->∀d,ds[j]?=some d->nq hs d=true)->(∃d,ds[i]?=some d/\nq hs d=false)->oX hs ds=some i
 |[],i,_,⟨d,e,_⟩=>by simp at e
 |x::r,0,_,⟨d,e,h⟩=>by simp at e;subst e;unfold oX;rw[bx (by rw[h];exact ha)]
 |x::r,i+1,q,⟨d,e,h⟩=>by unfold oX;rw[bS (q 0 (by omega) x rfl),aaX (ds:=r) (i:=i) (λj a d cF=>q (j+1) (by omega) d (by simpa using cF)) #[d,by simpa using e,h]];rfl
theorem Kw:∀{ds:fW},(∀d∈ds,nq hs d=true)↔oX hs ds=none
 |[]=>by simp[oX]
 |x::r=>by
  unfold oX;by_cases h:nq hs x=true
  .rw[bS h];constructor
   .intro q;rw[Kw.mp λd hd=>q d (n3 _ hd)];rfl
   intro q;have a:oX hs r=none:=by
    cases e:oX hs r with
    |none=>rfl
    |some k=>rw[e]at q;cases q
   intro d hd;rcases dr.mp hd with rfl|hd
   .exact h
   exact Kw.mpr a d hd
  rw[bx h];constructor
  .intro q;exact bG (q x (vD ..)) h
  intro q;cases q
theorem aj3{f:Addr}(F:cj K "letters_of" "letters_of" IZ f fd)(B:ft mg)(r6:I7 mg)(gu:dM K C)(iE:cH K C "houses" "Net.houses" wB cG f1 c2)(mw:aD P w K mg base a3 1 f1 c2 cG (BS C))(Bn:cu K mg "is_letter" I8 pP f2 eW)(Ul:aD P w K mg base a3 3 f2 eW pP Zn)(Bk:cu K mg "turns_apart" HT ["letters"] cP jZ)(Tq:aD P w K mg base a3 1 cP jZ ["letters"] Xv)(v_:qN K mg "RoadError" D R)(p1:mg "NoLetter"=some (.ref D))(K5:mj K (.ref D)=true)(K6:cD K (.ref D) "__init__"=some (some (.ref oV)))(K7:ua K (.ref oV)=true)(yb:aD P w K mg base a3 1 oV PY d4 (D5 D))(Lb:Binds K PY d4 []):
  aD P w K mg base (iz P w) 4 f fd DL (Z9 C D):=by
 refine y3 F Ib (λ_ A _ s H vs Q E L h=>?_);obtain⟨x,a',b',hs,zs,v,ds,rfl,n,G,bb,dd,q,fq⟩:=h;obtain⟨c,ar⟩:=n.ins;obtain⟨a,xs,rfl,O,aC,t⟩:=Ng bb;show#[_,(a6 (dO 2 Ib.aI (iG (ae 0) gu iE.dQ mw L.mono iE.bd .nil b0))
  (a6 (lD PassesOwn.leaving rfl (Xg rfl B.enumerate (ak (ae 1) aA)) (Yy rfl (sW (fG 3 Ib.aI) (sW (fG 4 Ib.aI) GO)))
   (a7 (d8 (j0 (kU (d9 Ul Bn L.mono b0 (ak (ae 2) (ak (ae 4) aA))))) (a7 (UZ v_ p1 K5 K6 K7 yb L.mono Lb rfl (ak (ae 3) aA))) ed)))
  (a6 (d8 (kJ.pt (zO (eN zI (eD kN B.len jI (ak (ae 1) aA)) (uP (by rfl) r6.adV) (ek _)) (CF (eN zI (d9 Tq Bk L.mono b0 (ak (ae 1) aA)) (uP (by rfl) r6.adT) (ek _))))) (a7 (UZ v_ p1 K5 K6 K7 yb L.mono Lb rfl (ak kT aA))) ed)
  (a7 (cd (hC Br B.list wL (ak (ae 1) aA))))))),?_]
 try dsimp only[cT,cS]
 show#[_,rfl,x,c,_,rfl,ar,rfl,x,a',b',_,_,rfl,n,λl nl=>?_];have M:aB H (upd H l (.lst (cN hs))):=bF nl;have j3:=C8 (H:=upd H l (.lst (cN hs))) G aK;generalize upd H l (.lst (cN hs))=H1 at M j3⊢;have Y:∀(g:af)(v:ao.V),aB H g->v=O_ (oX (bI hs) ds)->¬r1 (bI hs) ds->∀e,g e=none->D5 D (V.ref e::[v]) (upd g e (nw e D)) (λu X=>u=.b3/\∃c,X e=some (nv e D c)/\E (.ref D) (some c) (del X e)) kC:=λg v r ev uJ e ne=>by
  show#[e,v,rfl,aK,λc aI wD=>#[rfl,c,aK,?_]];have B4:g c=none:=by rw[aJ wD]at aI;exact aI
  have aH:del (upd (upd (upd g e (nw e D)) c (oI c [("number",v)])) e (nv e D c)) e=upd g c (oI c [("number",v)]):=by
   funext b;by_cases k:b=e
   .subst k;rw[Vv,aJ (dY wD)];exact ne.symm
   rw[uY k,aJ k];by_cases kq:b=c
   .subst kq;rw[aK,aK]
   rw[aJ kq,aJ kq,aJ k]
  rw[aH];refine fq uJ c _ (r.free B4) (r.trans (bF B4)) ?_;rw[aK,ev]
 show#[_,rfl,a,rfl,#[_,aQ.of (M _ _ O)],?_];refine afW (K:=K) (a:=a) (xs:=xs) (λi U g=>aB H1 g/\(∀j,j<i->∀d,ds[j]?=some d->nq (bI hs) d=true)/\∃u v,U=[some (.ref x),some (.ref a),some (.ref l),u,v]) #[aB.refl _,λj N=>bG N (by omega),none,none,rfl] (λi U g h=>aQ.of (h.1 _ _ (M _ _ O))) ?_ ?_
 .rintro i z U g p fQ ⟨r,k,u,v,rfl⟩ np;obtain⟨d,cF,Z⟩:=t.get fQ;have I:=bF (o:=.tup [V.int (i:Int),z]) np;have m:=M.trans (r.trans I);have QU:qI ds+1<=62:=dd;have n9:d.depth<=61:=dX (B5 (fC cF)) (by omega);show#[p,_,rfl,cV.of aK,rfl,_,_,rfl,_,_,rfl,rfl,?_];show#[_,rfl,_,rfl,l,bI hs,z,d,rfl,j3.same (r.trans I),Z.same m,n9,_,rfl,?_];cases hi:nq (bI hs) d with
  |true=>exact fR #[r.trans I,λj N d' yc=>by
    rcases xH j i with h|h
    .exact k j h d' yc
    rw[show j=i by omega,cF]at yc;cases yc;exact hi,some (.int (i:Int)),some z,rfl]
  |false=>
   have y:=aaX (hs:=bI hs) k #[d,cF,hi];refine hU #[_,rfl,(by show 1<=sizeLine;decide),Y _ _ m (by rw[y];rfl) λJ=>?_];have:=J.1;rw[y]at this;cases this
 rintro U g ⟨r,k,u,v,rfl⟩;have T:=M.trans r;have Ę:∀d∈ds,nq (bI hs) d=true:=λd Z=>by obtain⟨j,N,rfl⟩:=NM.mp Z;exact k j (by rw[t.len];exact N) _ (dw N)
 have y:=Kw.mp Ę;have J6:=T _ _ O;have hlen:=t.len;show#[_,rfl,a,xs,rfl,.inl (aQ.of J6),_,_,rfl,rfl,_,rfl,?_];by_cases EF:ds.length<=40
 .refine dA (dt (by omega)) #[_,rfl,.ref a,bI hs,ds,rfl,bb.same T,Ę,λX I=>?_];have m:=T.trans I;show#[_,_,rfl,rfl,_,rfl,?_];by_cases ú:HS (ds.map rP)<=30
  .refine dA (dt (by omega)) ?_;show#[_,rfl,a,xs,rfl,.inl (aQ.of (m _ _ O)),λdG pa=>?_];have cc:=bF (o:=.lst xs) pa;exact q #[y,EF,ú] dG _ (m.free pa) (m.trans cc) (.lst aK aC (t.same (m.trans cc)))
  refine eQ (cE (by omega)) #[(by show 1<=sizeLine;decide),Y _ _ m (by rw[y];rfl) λJ=>ú J.2.2]
 refine eQ (cE (by omega)) ?_;exact hU #[(by show 1<=sizeLine;decide),Y _ _ T (by rw[y];rfl) λJ=>EF J.2.1]
noncomputable def qn(n l y:Addr)(d:ao.V):List (Str×ao.V):=[("net",.ref n),("kept_letters",.ref l),("ways",.ref y),("day",d)]
end
structure va(K:aN)(C:Addr):Prop where
 cl:dM K C
 nn:cD K (.ref C) "net"=some none
 nl:cD K (.ref C) "kept_letters"=some none
 e8:cD K (.ref C) "ways"=some none
 aI:cD K (.ref C) "day"=some none
set_option genInjectivity false in
structure fU where
 (ag n l y t a' b':Addr)
 rs:List Addr
 d:ao.V
set_option genInjectivity false in
structure h0 where
 hs:List b7
 ds:List cw.fD
 bB:List xW
 bj:List Row
noncomputable def aqz(d:xW):PyData:=.tuple [.str d.1,.int d.2.1,.str d.2.2]
structure vO(H:af)(A c0:fU):Prop where
 t:c0.t=A.t\/H c0.t=none
 l:c0.l=A.l\/H c0.l=none
 a:c0.a'=A.a'\/H c0.a'=none
 b:c0.b'=A.b'\/H c0.b'=none
 y:c0.y=A.y\/H c0.y=none
 n:c0.n=A.n\/H c0.n=none
 d:c0.d=A.d
structure g8(aL aw aq:Addr)(H:af)(x:Addr)(A:fU)(s:h0):Prop where
 ins:H x=some (.ins aL A.ag (qn A.n A.l A.y A.d))
 d3:rF aw aq H A.y A.n A.t A.a' A.b' (cN s.hs) (aS A.rs) (hD s.bj)
 fJ:gs H s.hs A.rs s.ds
 lt:c7 H (.ref A.l) (.list (s.bB.map aqz))
theorem g8.same{A:fU}{s:h0}(D:g8 e j i H x A s)(a:aB H H'):g8 e j i H' x A s:=#[a _ _ D.ins,D.d3.same a,D.fJ.same a,D.lt.same a]
noncomputable def Tame(o:gQ):Prop:=(∀C d n l y v,o≠.ins C d (qn n l y v))/\∀k,o≠.dB k
noncomputable def vc(H H':af):Prop:=∀b o,Tame o->H b=some o->H' b=some o
theorem rv:Tame (.lst l):=#[λ_ _ _ _ _ _=>nofun,λ_=>nofun]
theorem VH:Tame (.tup l):=#[λ_ _ _ _ _ _=>nofun,λ_=>nofun]
theorem U3{t:Addr}:Tame (.ins C d (kW n t)):=#[λ_ _ _ _ _ _ h=>(by injection h with _ _ h;exact bG (fa sb h) (show¬(2:Nat)=4 by decide)),λ_=>nofun]
theorem L7:Tame (.ins C d (Ae a b)):=#[λ_ _ _ _ _ _ h=>(by injection h with _ _ h;exact bG (fa sb h) (show¬(2:Nat)=4 by decide)),λ_=>nofun]
theorem hL.lg(n:hL C H x a' b' xs e)(a:vc H H'):hL C H' x a' b' xs e:=
 let⟨b,h⟩:=n.ins
 #[#[b,a _ _ L7 h],a _ _ rv n.jL,a _ _ rv n.ky]
theorem eE.lg{rs ds}(h:eE H rs ds)(a:vc H H'):eE H' rs ds:=b2.fT h λ_ _ e=>a _ _ VH e
theorem gs.lg{hs rs ds}(r:gs H hs rs ds)(a:vc H H'):gs H' hs rs ds:=#[r.gz.lg a,r.ok]
mutual
theorem c7.lg{H:af}:∀{v:ao.V}{d:PyData},c7 H v d->vc H H'->c7 H' v d
 |_,_,.b3,_=>.b3
 |_,_,.aV b,_=>.aV b
 |_,_,.int i,_=>.int i
 |_,_,.str x z ok,_=>.str x z ok
 |_,_,.lst h z t,au=>.lst (au _ _ rv h) z (eC.lg t au)
 |_,_,.tup h z t,au=>.tup (au _ _ VH h) z (eC.lg t au)
theorem eC.lg{H:af}:∀{vs:aO}{ds:fW},eC H vs ds->vc H H'->eC H' vs ds
 |_,_,.nil,_=>.nil
 |_,_,.cons a b,au=>.cons (c7.lg a au) (eC.lg b au)
end
noncomputable def z6(x t:Addr)(H H':af):Prop:=∀b o,b≠x->b≠t->H b=some o->H' b=some o
theorem VI{a b:bt}{k:Nat}(h:k<a.length):(a++b).getD k []=a.getD k []:=by rw[ea,ea,Iu h]
theorem WF{a:bt}{d:cw.fD}(ok:d.Ok a.length)(b:bt):gY (a++b) d=gY a d:=by unfold gY;rw[VI ok.a,VI ok.b]
theorem gs.yp{hs rs ds}(r:gs H hs rs ds)(a:bt):gs H (hs++a) rs ds:=by
 show#[?_,λd b=>?_]
 .rw[t4 λd b=>WF (r.ok d b) a];exact r.gz
 have o:=r.ok d b;have l:(hs++a).length=hs.length+a.length:=eM;show#[by rw[l];exact jx o.a (NQ ..),by rw[l];exact jx o.b (NQ ..),o.ne,o.t,o.m]
structure nH(hs:bt)(ds:cC)(r:Row):Prop where
 a:r.1∈hs.map S
 b:r.2.1∈hs.map S
 ne:r.1≠r.2.1
 at_:∃(k:Nat)(d:cw.fD),r.2.2=(k:Int)/\ds[k]?=some d/\S (hs.getD d.a [])=r.1
theorem nH.un{r:Row}(o:nH hs ds r):iI (bI hs) (.str r.1) (.str r.2.1)=true:=y' o.a o.b o.ne
theorem WY{a:bt}{ds:cC}{k:Nat}{d:cw.fD}{h:Str}(e:ds[k]?=some d)(b:S (a.getD d.a [])=h):(k:Int)∈kz a ds (·.a) h:=by
 unfold kz Hg;refine cm.mpr #[k,g4.mpr #[lp.mpr (gn.mp e).1,cE ?_],rfl];have cF:ds.getD k fp=d:=by rw[ea,e];rfl
 rw[cF];exact fa V.str b
theorem nH.asy{r:Row}(o:nH hs ds r):r.2.2∈kz hs ds (·.a) r.1:=by obtain⟨k,d,e,cF,a⟩:=o.at_;rw[e];exact WY cF a
theorem nH.yp{a:bt}{ds:cC}{r:Row}(o:nH a ds r)(ok:∀d∈ds,d.Ok a.length)(c:bt):nH (a++c) ds r:=by
 obtain⟨k,d,e,cF,b⟩:=o.at_;show#[?_,?_,o.ne,k,d,e,cF,?_]
 .rw[eK];exact z8 _ o.a
 .rw[eK];exact z8 _ o.b
 rw[VI (ok d (fC cF)).a];exact b
theorem nH.ø{ds:cC}{r:Row}(o:nH hs ds r)(a:cC):nH hs (ds++a) r:=by obtain⟨k,d,e,cF,b⟩:=o.at_;show#[o.a,o.b,o.ne,k,d,e,?_,b];rw[Iu (gn.mp cF).1];exact cF
structure qy(hs:bt)(ds:cC)(bj:List Row):Prop where
 aI:(bj.map λr=>(r.1,r.2.1)).Nodup
 c3:bj.length<64
 ok:∀r∈bj,nH hs ds r
section
variable{P:cx}{w:bf}{K:aN}{mg:cb}{base:Heap}
inductive O1(aL aw aq:Addr)(vs:aO)(H:af)(Q:a4)(E:bY):Prop where
 |mk(x eR a2 fF:Addr)(A:fU)(s:h0)(hs:bt)(rs:bL)(ds:cC)(_:vs=[.ref x,.ref eR])(_:g8 aL aw aq H x A s)(_:hL aq H eR a2 fF (cN hs) (aS rs))(_:Good hs)(_:gs H hs rs ds)(_:rs.length<=40)(_:qy hs ds s.bj)
   (jR:∀H' fe t',H fe=none->H t'=none->(∀b o,b≠x->H b=some o->H' b=some o)->g8 aL aw aq H' x #[A.ag,eR,A.l,fe,t',a2,fF,rs,A.d] #[hs,ds,s.bB,lI s.bj]->Q .b3 H')
noncomputable abbrev Gm:Stmt:=fS (top 120) 2
theorem O2:cI ["self","net","ways","pair"] lV (b5 Gm):={}
inductive acE(ai:af)(x eR fe t':Addr)(rows:List Row)(j:Nat)(U:ao.St)(H:af):Prop where
 |mk(v:lY)(_:U=[some (.ref x),some (.ref eR),some (.ref fe),v])(_:∀b o,b≠t'->ai b=some o->H b=some o)(_:H t'=some (.dB (hD (rows.take j))))
theorem ak6{f:Addr}(F:cj K "change_net" "Desk.change_net" Gm f fd)(p:va K u)(kQ:dM K i)(rp:mg "Ways"=some (.ref i))(G2:lq K i l2)(nh:jc K i "Ways.__init__" Ck lV l2 ri)(uA:aD P w K mg base a3 1 l2 ri lV (I0 i))(yE:cH K i "pairs" "Ways.pairs" Lv cG f1 c2)(Y:aD P w K mg base a3 1 f1 c2 cG (τ i))(nd:cH K i "set_way" "Ways.set_way" Cj se f2 eW)(uk:aD P w K mg base (fg P w) 3 f2 eW se (I2 i aq fh dW)):
  aD P w K mg base a3 4 f fd lV (O1 u i aq):=by
 refine F.ok O2 (λ_ i9 _ s0 H vs Q E Z h=>?_);obtain⟨x,g,a2,fF,A,s,hs,rs,ds,rfl,D,N,G,R,Ga,T,q⟩:=h;show#[_,(a6 (dO 2 O2.aI (o4 G2 uA Z.mono (by rfl) rp nh.bd .nil b0 (ak (ae 1) aA)))
  (a6 (lD lW rfl (jE (iG (d5 (ae 0)) kQ yE.dQ Y Z.mono yE.bd .nil b0)) (fG 3 O2.aI)
   (a7 (hj (fy (ae 2) kQ nd.dQ uk Z.mono nd.bd .nil Dc (ak (b8 eH (ae 3) aZ) (ak (b8 eH (ae 3) aZ) (ak (b8 eH (ae 3) aZ) aA)))))))
  (a6 (h5 (ae 0) (ae 1) rfl)
  (a7 (h5 (ae 0) (ae 2) rfl))))),?_]
 try dsimp only[cT,cS]
 refine cut λI V=>?_;show#[_,rfl,λc bh e8 Fw Ũ=>#[c,bh,_,rfl,aK,λd ec=>#[rfl,?_]]];have B:H d=none:=eU (gJ (o:=.ins i bh []) e8 (bF (o:=.own c) Fw)) ec;have ty:c≠d:=b1 (H:=upd (upd H bh (.own c)) c (.ins i bh [])) aK ec;have ma:aB H (upd (upd (upd (upd H bh (.own c)) c (.ins i bh [])) d (.dB [])) c (.ins i bh (kW g d))):=gJ e8 (gJ B (gJ e8 (bF Fw)));have X:upd (upd (upd (upd H bh (.own c)) c (.ins i bh [])) d (.dB [])) c (.ins i bh (kW g d)) c=some (.ins i bh (kW g d)):=aK;have M:upd (upd (upd (upd H bh (.own c)) c (.ins i bh [])) d (.dB [])) c (.ins i bh (kW g d)) d=some (.dB []):=by rw[aJ (dY ty),aK]
 refine f3 I V λI V=>?_;show gN _ _ _ _ (upd (upd (upd (upd H bh (.own c)) c (.ins i bh [])) d (.dB [])) c (.ins i bh (kW g d)));generalize upd (upd (upd (upd H bh (.own c)) c (.ins i bh [])) d (.dB [])) c (.ins i bh (kW g d))=acj at ma X M⊢;obtain⟨Õ,į⟩:=D.d3.ins;have di:x≠d:=b1 D.ins B;show#[_,rfl,x,u,A.ag,_,_,rfl,ma _ _ D.ins,p.cl,p.e8,rfl,A.y,Õ,_,rfl,ma _ _ į,rfl,A.y,Õ,A.n,A.t,s.bj,rfl,ma _ _ į,ma _ _ D.d3.told,T.c3,λl ai ts nl y ax bQ=>#[l,rfl,#[_,aQ.of ax],?_]];obtain⟨iS,PK,CC⟩:=agN bQ;rw[PK]at ax;have KX:l≠d:=dY (b1 M nl);have Ň:=CC.len;rw[bP]at Ň;have pm:(lI s.bj).Perm s.bj:=BJ s.bj;have aqQ:((lI s.bj).map λr=>(r.1,r.2.1)).Nodup:=(pm.map _).nodup_iff.mpr T.aI;have c3:(lI s.bj).length<64:=by rw[pm.length_eq];exact T.c3
 refine qa (K:=K) (a:=l) (xs:=aS iS) (acE ai x g c d (lI s.bj)) #[none,rfl,λb o _ e=>e,y _ _ M] (λj U m _⟨_,_,h,_⟩=>aQ.of (h l _ KX ax)) ?_ ?_
 .rintro j v U m ev ⟨lj,rfl,n,C⟩;unfold aS at ev;rw[dV]at ev;obtain⟨J,A1,rfl⟩:=gS.mp ev;obtain⟨cJ,æ,yB⟩:=b2.get CC A1;rw[dV]at æ;obtain⟨r,gW,rfl⟩:=gS.mp æ;have ok:=T.ok r (pm.mem_iff.mp (fC gW));have k:aB H m:=λb o e=>n b o (b1 e B) (y _ _ (ma _ _ e));have O:=cV.of (K:=K) (n J _ (ao.eg yB (y _ _ M) (by intro z;cases z)) yB);have L:=n c _ ty (y _ _ X);show#[_,rfl,c,bh,_,rfl,L,rfl,_,rfl,J,_,_,_,rfl,rfl,O,rfl,_,rfl,J,_,_,_,rfl,rfl,O,rfl,_,rfl,J,_,_,_,rfl,rfl,O,rfl,c,g,d,a2,fF,hs,rs,ds,hD ((lI s.bj).take j),r.1,r.2.1,r.2.2,rfl,#[#[bh,L],N.same k,C],G,R.same k,Ga,tb G ok.a,tb G ok.b,e' ?_,λ_ _ bz bp=>#[_,rfl,λb o t e=>?_,?_],λno=>bG (ok.un.symm.trans no) (by decide),λ_ no=>bG ok.asy no]
  .unfold hD;rw[bP,ll];omega
  .rw[aJ t];exact bp _ _ (n b o t e)
  rw[aK,aei aqQ gW]
 rintro U m ⟨lj,rfl,n,C⟩;rw[fo,Ň,n4]at C;have k:aB H m:=λb o e=>n b o (b1 e B) (y _ _ (ma _ _ e));have L:=n c _ ty (y _ _ X);refine f3 I V λI V=>?_;show#[_,rfl,_,rfl,x,u,A.ag,_,rfl,k _ _ D.ins,p.cl,p.nn,(by show 4<1000;decide),?_];subst V;show#[_,rfl,_,rfl,x,u,A.ag,_,rfl,aK,p.cl,p.e8,(by show 4<1000;decide),?_];rw[y9];have ax2:=ao.eg L (k _ _ D.ins) (by intro z;cases z);have nz:∀b o,b≠x->m b=some o->upd m x (.ins u A.ag (qn g A.l c A.d)) b=some o:=λb o t e=>by rw[aJ t];exact e
 have st:vc m (upd m x (.ins u A.ag (qn g A.l c A.d))):=λb o to e=>nz b o (λz=>to.1 _ _ _ _ _ _ (hI (e.symm.trans ((fa m z).trans (k _ _ D.ins))))) e;exact q _ c d e8 B (λb o t e=>nz b o t (k _ _ e)) #[aK,#[#[bh,st _ _ U3 L],(N.same k).lg st,nz _ _ (dY di) C],(R.same k).lg st,(D.lt.same k).lg st]
structure oM(s:h0):Prop where
 g:Good s.hs
 c3:s.ds.length<=40
 bj:qy s.hs s.ds s.bj
inductive O3(K:aN)(C eS:Addr)(vs:aO)(H:af)(Q:a4)(E:bY):Prop where
 |good(_:Hd K C vs H Q E)
 |bad(_:MU C eS vs H Q E)
theorem ak7{f:Addr}{k:Nat}(F:aD P w K mg base a3 k f fd i (Hd K C))(G:aD P w K mg base (fg P w) 5 f fd i (MU C j))(m:k<=5):aD P w K mg base (fg P w) 5 f fd i (O3 K C j):=
 #[λvs H Q E q=>by
  rcases q with q|q
  .exact F.len vs H Q E q
  .exact G.len vs H Q E q,λA a s H args l vs Q E c g b d n=>by
  rcases n with q|q
  .refine q6 ((F.mono m).run A a s H args l vs Q E c g b d q) λr o h=>?_;cases r with
   |ok v=>cases v<;>exact h
   |error e=>exact h.elim
  exact G.run A a s H args l vs Q E c g b d q]
noncomputable abbrev O4:Stmt:=top 97
theorem ak8:cI m6 m6 (b5 O4):={}
inductive Z'(aL aw aq eS:Addr)(vs:aO)(H:af)(Q:a4)(E:bY):Prop where
 |mk(x v:Addr)(A:fU)(s:h0)(u:Str)(_:vs=[.ref x,.ref v])(_:g8 aL aw aq H x A s)(_:H v=some (.lst [.str u]))(_:oM s)(_:c7 H (.str u) (.str u))
   (e1:(∃n,u=S n/\Good (s.hs++[n])/\∀H'(c0:fU),vO H A c0->(∀b o,b≠x->H b=some o->H' b=some o)->g8 aL aw aq H' x c0 #[s.hs++[n],s.ds,s.bB,lI s.bj]->Q (.str "ok") H')\/(wq (.list (bI s.hs++[.str u]))=false/\∀H',aB H H'->E (.ref eS) none H'))
theorem ajx{f:Addr}(F:cj K "take_house" "take_house" O4 f fd)(B:va K j)(kk:dM K j)(Y:dM K i)(ot:mg "Net"=some (.ref i))(ut:lq K i l2)(kg:jc K i "Net.__init__" w5 oP l2 ri)(rd:aD P w K mg base (fg P w) 5 l2 ri oP (O3 K i eS))(Z:cH K i "houses" "Net.houses" wB cG f1 c2)(mw:aD P w K mg base a3 1 f1 c2 cG (BS i))(ng:cH K i "roads" "Net.roads" Cy cG f2 eW)(uz:aD P w K mg base a3 1 f2 eW cG (LW i))(qP:cH K j "change_net" "Desk.change_net" Gm lV cP jZ)(RB:aD P w K mg base a3 4 cP jZ lV (O1 j aw i)):
  aD P w K mg base (fg P w) 7 f fd m6 (Z' j aw i eS):=by
 refine nL F ak8 (λ_ i9 _ s0 H vs Q E k h=>?_);show#[_,(a6 (hj (fy (ae 0) kk qP.dQ RB k.mono qP.bd .nil b0 (ak (o4 ut rd k.mono (by rfl) ot kg.bd .nil rq (ak (bO ul (iG (d5 (ae 0)) Y Z.dQ mw k.mono Z.bd .nil b0) (ae 1)) (ak (iG (d5 (ae 0)) Y ng.dQ uz k.mono ng.bd .nil b0) aA))) aA)))
  (a7 (cd cn))),?_]
 try dsimp only[cT,cS]
 refine cut λdz cU=>?_;obtain⟨x,v,A,s,u,rfl,D,bb,d,dh,q⟩:=h;obtain⟨T,R⟩:=D.d3.el.ins;have oe:=d.g.c3;show#[_,rfl,x,A.ag,_,rfl,D.ins,rfl,#[_,rfl,x,j,A.ag,_,_,rfl,D.ins,B.cl,B.nn,rfl,A.n,T,_,rfl,R,rfl,A.n,A.a',A.b',_,_,rfl,D.d3.el,λl J=>#[_,rfl,l,v,_,_,rfl,rfl,aK,bF J _ _ bb,e' (by rw[o6];omega),λp np=>?_]]];have G:=eU (bF (o:=.lst (cN s.hs)) J) np;have g:aB H (upd (upd H l (.lst (cN s.hs))) p (.lst (cN s.hs++[.str u]))):=gJ G (bF J);have N:upd (upd H l (.lst (cN s.hs))) p (.lst (cN s.hs++[.str u])) p=some (.lst (cN s.hs++[.str u])):=aK;generalize upd (upd H l (.lst (cN s.hs))) p (.lst (cN s.hs++[.str u]))=L at g N⊢;show#[_,rfl,x,j,A.ag,_,_,rfl,g _ _ D.ins,B.cl,B.nn,rfl,A.n,T,_,rfl,g _ _ R,rfl,A.n,A.a',A.b',_,_,rfl,D.d3.el.same g,λr iP=>?_];have z:aB L (upd L r (.lst (aS A.rs))):=bF iP;have C:upd L r (.lst (aS A.rs)) r=some (.lst (aS A.rs)):=aK;generalize upd L r (.lst (aS A.rs))=V at z C⊢;intro a c nn aI SR;have m:aB V (upd (upd V c (.own a)) a (.ins i c [])):=gJ nn (bF aI);have I:upd (upd V c (.own a)) a (.ins i c []) a=some (.ins i c []):=aK;generalize upd (upd V c (.own a)) a (.ins i c [])=bz at m I⊢;have t:=g.trans (z.trans m);have U:A.rs.length<=40:=by rw[D.fJ.len];exact d.c3
 rcases q with⟨n,rfl,M,q⟩|⟨no,q⟩
 .have e:cN s.hs++[.str (S n)]=cN (s.hs++[n]):=by unfold cN;rw[eK];rfl
  rw[e]at N;refine .good #[a,c,p,r,s.hs++[n],A.rs,s.ds,rfl,I,m _ _ (z _ _ N),M,m _ _ C,(D.fJ.same t).yp [n],U,λda O X cL ah aj bZ cA iu=>#[rfl,?_]];have wG:=eU (g.trans z) nn;have y:aB H da:=λb o e=>cL b o (b1 e wG) (t _ _ e);show#[x,a,O,X,A,s,s.hs++[n],A.rs,s.ds,rfl,D.same y,#[#[c,ah],aj,bZ],M,(D.fJ.same y).yp [n],U,#[d.bj.aI,d.bj.c3,λr k=>(d.bj.ok r k).yp D.fJ.ok [n]],λbK fe t' e8 ec aP cg=>?_];subst cU;exact q bK #[A.ag,a,A.l,fe,t',O,X,A.rs,A.d] #[.inr (eU y ec),.inl rfl,.inr (eU t cA),.inr (eU t iu),.inr (eU y e8),.inr wG,rfl] (λb o nb e=>aP b o nb (y _ _ e)) cg
 exact .bad #[a,c,.ref p,.ref r,_,_,rfl,I,(c7.lst N (by rw[eM,o6];show s.hs.length+1<=100;omega) ((Nh d.g.nm).append (.cons (dh.same g) .nil))).same (z.trans m),.lst (m _ _ C) (by rw[fo];omega) (HK d.g (D.fJ.gz.same t) D.fJ.ok),dX (V2 _ _) (by decide),.inl no,λH' au=>q H' (t.trans au)]
noncomputable abbrev O5:Stmt:=top 98
theorem Z_:cI ["desk","values","roads"] m6 (b5 O5):={}
noncomputable def pC(a b:Str)(t m:Int):List ao.V:=[.str a,.str b,.int t,.int m]
noncomputable def ata(a b:Str)(t m:Int):PyData:=.tuple [.str a,.str b,.int t,.int m]
inductive γ(aL aw aq eS:Addr)(vs:aO)(H:af)(Q:a4)(E:bY):Prop where
 |mk(x v:Addr)(A:fU)(s:h0)(a b:Str)(t m:Int)(_:vs=[.ref x,.ref v])(_:g8 aL aw aq H x A s)(_:H v=some (.lst (pC a b t m)))(_:oM s)(_:c7 H (.str a) (.str a))(_:c7 H (.str b) (.str b))
   (hu:(∃d:cw.fD,d.Ok s.hs.length/\s.ds.length<40/\pC a b t m=gY s.hs d/\∀H'(c0:fU),vO H A c0->(∀b o,b≠x->H b=some o->H' b=some o)->g8 aL aw aq H' x c0 #[s.hs,s.ds++[d],s.bB,lI s.bj]->Q (.str (S (df s.ds.length))) H')\/(LY (bI s.hs) (.list (s.ds.map (tc s.hs)++[ata a b t m]))=false/\∀H',aB H H'->E (.ref eS) none H'))
theorem ajy{f:Addr}(F:cj K "take_road" "take_road" O5 f fd)(B:ft mg)(Z:va K G)(kk:dM K G)(gu:dM K i)(ot:mg "Net"=some (.ref i))(ut:lq K i l2)(kg:jc K i "Net.__init__" w5 oP l2 ri)(rd:aD P w K mg base (fg P w) 5 l2 ri oP (O3 K i eS))(iE:cH K i "houses" "Net.houses" wB cG f1 c2)(mw:aD P w K mg base a3 1 f1 c2 cG (BS i))(ng:cH K i "roads" "Net.roads" Cy cG f2 eW)(uz:aD P w K mg base a3 1 f2 eW cG (LW i))(qP:cH K G "change_net" "Desk.change_net" Gm lV cP jZ)(RB:aD P w K mg base a3 4 cP jZ lV (O1 G aw i)):
  aD P w K mg base (fg P w) 7 f fd m6 (γ G aw i eS):=by
 refine nL F Z_ (λ_ i9 _ s0 H vs Q E I h=>?_);show#[_,(a6 (dO 2 Z_.aI (iG (d5 (ae 0)) gu ng.dQ uz I.mono ng.bd .nil b0))
  (a6 (hj (fy (ae 0) kk qP.dQ RB I.mono qP.bd .nil b0 (ak (o4 ut rd I.mono (by rfl) ot kg.bd .nil rq (ak (iG (d5 (ae 0)) gu iE.dQ mw I.mono iE.bd .nil b0) (ak (bO ul (ae 2) (g7 (ak (hC aaq B.tuple Vs (ak (ae 1) aA)) aA))) aA))) aA)))
  (a7 (cd (hC kM B.str j1 (ak (eD kN B.len jI (ak (ae 2) aA)) aA)))))),?_]
 try dsimp only[cT,cS]
 refine cut λdz cU=>?_;obtain⟨x,v,A,s,a,b,t,m,rfl,D,bb,V,az,aa,q⟩:=h;obtain⟨eV,aM⟩:=D.d3.el.ins;have oe:=V.g.c3;have f9:A.rs.length=s.ds.length:=D.fJ.len;have Lk:=V.c3;show#[_,rfl,x,G,A.ag,_,_,rfl,D.ins,Z.cl,Z.nn,rfl,A.n,eV,_,rfl,aM,rfl,A.n,A.a',A.b',_,_,rfl,D.d3.el,λr iP=>?_];have u:aB H (upd H r (.lst (aS A.rs))):=bF iP;have U:upd H r (.lst (aS A.rs)) r=some (.lst (aS A.rs)):=aK;refine f3 dz cU λdz cU=>?_;show gN _ _ _ _ (upd H r (.lst (aS A.rs)));generalize upd H r (.lst (aS A.rs))=iC at u U⊢;show#[_,rfl,x,A.ag,_,rfl,u _ _ D.ins,rfl,#[_,rfl,x,G,A.ag,_,_,rfl,u _ _ D.ins,Z.cl,Z.nn,rfl,A.n,eV,_,rfl,u _ _ aM,rfl,A.n,A.a',A.b',_,_,rfl,D.d3.el.same u,λl nl=>?_]];have O:aB iC (upd iC l (.lst (cN s.hs))):=bF nl;have ax:upd iC l (.lst (cN s.hs)) l=some (.lst (cN s.hs)):=aK;generalize upd iC l (.lst (cN s.hs))=T at O ax⊢;have apZ:=O _ _ (u _ _ bb);show#[_,rfl,_,rfl,v,_,rfl,.inl #[aQ.of apZ,λg lK=>#[(by show 1<=sizeLine;decide),λp np=>#[r,p,_,_,rfl,rfl,bF np _ _ (bF lK _ _ (O _ _ U)),aK,e' (by rw[fo];omega),λc qk=>?_]]]];have KZ:=eU (bF (o:=.tup (pC a b t m)) lK) np;have aqP:=eU (gJ (o:=.lst [.ref g]) KZ (bF (o:=.tup (pC a b t m)) lK)) qk;have R:aB T (upd (upd (upd T g (.tup (pC a b t m))) p (.lst [.ref g])) c (.lst (aS A.rs++[.ref g]))):=gJ aqP (gJ KZ (bF lK));have Y:upd (upd (upd T g (.tup (pC a b t m))) p (.lst [.ref g])) c (.lst (aS A.rs++[.ref g])) c=some (.lst (aS A.rs++[.ref g])):=aK;have M:upd (upd (upd T g (.tup (pC a b t m))) p (.lst [.ref g])) c (.lst (aS A.rs++[.ref g])) g=some (.tup (pC a b t m)):=bF qk _ _ (bF np _ _ aK);generalize upd (upd (upd T g (.tup (pC a b t m))) p (.lst [.ref g])) c (.lst (aS A.rs++[.ref g]))=X at R Y M⊢;intro k N nn aI SR;have L:aB X (upd (upd X N (.own k)) k (.ins i N [])):=gJ nn (bF aI);have kr:upd (upd X N (.own k)) k (.ins i N []) k=some (.ins i N []):=aK;generalize upd (upd X N (.own k)) k (.ins i N [])=bz at L kr⊢;have gO:=u.trans (O.trans R);have j:=gO.trans L;rcases q with⟨d,dS,ui,cF,q⟩|⟨no,q⟩
 .rw[cF]at M;have gW:aS A.rs++[.ref g]=aS (A.rs++[g]):=by unfold aS;rw[eK];rfl
  rw[gW]at Y;have gd:∀{J:af},aB H J->J g=some (.tup (gY s.hs d))->gs J s.hs (A.rs++[g]) (s.ds++[d]):=λ{J}C c'=>by
   show#[?_,λe he=>?_]
   .rw[eK];exact(D.fJ.gz.same C).snoc c'
   rcases hy.mp he with h|h
   .exact D.fJ.ok e h
   rw[gp.mp h];exact dS
  have ľ:(A.rs++[g]).length<=40:=by rw[eM];show A.rs.length+1<=40;omega
  refine .good #[k,N,l,c,s.hs,A.rs++[g],s.ds++[d],rfl,kr,L _ _ (R _ _ ax),V.g,L _ _ Y,gd j (L _ _ M),ľ,λJ a2 fF cL ah aj bZ cA iu=>#[rfl,?_]];have wG:=eU gO nn;have C:aB H J:=λb o e=>cL b o (b1 e wG) (j _ _ e);show#[x,k,a2,fF,A,s,s.hs,A.rs++[g],s.ds++[d],rfl,D.same C,#[#[N,ah],aj,bZ],V.g,gd C (cL _ _ (b1 M nn) (L _ _ M)),ľ,#[V.bj.aI,V.bj.c3,λr I=>(V.bj.ok r I).ø [d]],λbK fe t' e8 ec aP cg=>?_];subst cU;have apN:bK r=some (.lst (aS A.rs)):=aP _ _ (ao.eg (u _ _ D.ins) U (by intro z;cases z)).symm (cL _ _ (b1 (R _ _ (O _ _ U)) nn) (L _ _ (R _ _ (O _ _ U))));show#[_,rfl,r,_,rfl,.inl (aQ.of apN),((s.ds.length:Nat):Int),?_,qb (by omega),?_]
  .rw[fo,f9]
  show Q (.str (bc (toString ((s.ds.length:Nat):Int)))) bK;rw[kn];exact q bK #[A.ag,k,A.l,fe,t',a2,fF,A.rs++[g],A.d] #[.inr (eU C ec),.inl rfl,.inr (eU j cA),.inr (eU j iu),.inr (eU C e8),.inr wG,rfl] (λb o nb e=>aP b o nb (C _ _ e)) cg
 refine .bad #[k,N,.ref l,.ref c,_,_,rfl,kr,(C8 V.g ax).same (R.trans L),.lst (L _ _ Y) (by rw[eM,fo];show A.rs.length+1<=100;omega) ((HK V.g (D.fJ.gz.same j) D.fJ.ok).append (.cons (.tup (ds:=[.str a,.str b,.int t,.int m]) (L _ _ M) (by show 4<=100;decide) (.cons (az.same j) (.cons (aa.same j) (.cons (.int t) (.cons (.int m) .nil))))) .nil)),?_,.inr #[_,rfl,no],λH' au=>q H' (j.trans au)];simp only[DV];refine dX (NV (LI (n:=1) λe he=>?_)) (by decide);rcases hy.mp he with h|h
 .obtain⟨y,_,rfl⟩:=cm.mp h;exact WI _ y
 rw[gp.mp h];exact cB 1
noncomputable abbrev oE(r:Row):Str×Str:=(r.1,r.2.1)
noncomputable def k_(a:List Row)(h g:Str)(i:Int):List Row:=if(a.any λr=>decide (oE r=(h,g)))=true then a.map (λr=>if oE r=(h,g)then(r.1,r.2.1,i)else r)else a++[(h,g,i)]
theorem Nv(r:Row)(h g:Str):([.inr r.1,.inr r.2.1]:List bq)=f6 h g↔oE r=(h,g):=by unfold f6 oE;simp only[NC,agJ,and_true,Prod.mk.injEq]
theorem agC(a:List Row)(h g:Str)(i:Int):fw (hD a) (f6 h g) (.int i)=hD (k_ a h g i):=by
 have e:((hD a).any λb=>decide (b.1=f6 h g))=a.any λr=>decide (oE r=(h,g)):=by unfold hD;rw[adi];refine fa (a.any ·) (funext λr=>?_);exact decide_eq_decide.mpr (Nv r h g)
 unfold fw k_;rw[e];split
 .unfold hD;rw[hc,hc];refine t4 λr _=>?_;show(if _ then _ else _)=_;by_cases z:oE r=(h,g)
  .rw[bS ((Nv r h g).mpr z)];show _=((λr:Row=>(([.inr r.1,.inr r.2.1]:List bq),ao.V.int r.2.2)) (if oE r=(h,g)then(r.1,r.2.1,i)else r));rw[bS z]
  rw[bx λy=>z ((Nv r h g).mp y)];show _=((λr:Row=>(([.inr r.1,.inr r.2.1]:List bq),ao.V.int r.2.2)) (if oE r=(h,g)then(r.1,r.2.1,i)else r));rw[bx z]
 unfold hD;rw[eK];rfl
theorem qy.perm{b a:List Row}(T:qy hs ds b)(p:a.Perm b):qy hs ds a:=
 #[(p.map _).nodup_iff.mpr T.aI,by rw[p.length_eq];exact T.c3,λr c=>T.ok r (p.mem_iff.mp c)]
theorem qy.put{c:List Row}(T:qy hs ds c){i:Int}(n:((k_ c h g i).map oE).Nodup->(∀r∈k_ c h g i,nH hs ds r)->(k_ c h g i).length<64)(o:nH hs ds (h,g,i)):qy hs ds (k_ c h g i):=by
 have f:((k_ c h g i).map oE).Nodup:=by
  unfold k_;split
  .rw[hc];have e:c.map (oE∘λr=>if oE r=(h,g)then(r.1,r.2.1,i)else r)=c.map oE:=t4 λr _=>by show oE (if _ then _ else _)=_;split<;>rfl
   rw[e];exact T.aI
  rename_i k;rw[eK];refine vE.mpr #[T.aI,by simp,λa m b l=>?_];rw[gp.mp l];rintro rfl;refine k (pM.mpr ?_);obtain⟨r,d,e⟩:=cm.mp m;show#[r,d,cE e]
 have ok:∀r∈k_ c h g i,nH hs ds r:=λr d=>by
  unfold k_ at d;split at d
  .obtain⟨t,p,e⟩:=cm.mp d;split at e
   .rename_i z;subst e;cases z;exact o
   subst e;exact T.ok _ p
  rcases hy.mp d with h|h
  .exact T.ok r h
  rw[gp.mp h];exact o
 show#[f,n f ok,ok]
theorem ru.alike{c d:gm}(a:ru hs ds c)(b:ru hs ds d)(h g:Str):dk c (f6 h g)=dk d (f6 h g):=by
 by_cases m:h∈hs.map S/\h≠g/\(j' hs ds h g).isSome=true
 .rw[a.lu.yes h g m,b.lu.yes h g m]
 rw[a.lu.no h g m,b.lu.no h g m]
end
end dR
namespace b_
open PySem PySem.Spec PyProof.Rows ao
section
variable{P:cx}{w:bf}{K:aN}{mg:cb}{base:Heap}{N:cK}{qual:Str}{scope:Scope}{f:Addr}{cdv:Value}{A:eu}{outer:List Env}{s:aW}{H:af}{E:bY}
theorem agz{E2:cW}(I:Inv (gK P w K mg base N qual scope f cdv A outer s H E) pins U j sc)(T:o' P w (gK P w K mg base N qual scope f cdv A outer s H E).stack j sc i cls C H' B x)(G:E cls none H'):
  aT (bg P w) (A.deeper (p4 qual scope s.heap.objs.size f cdv)) (leaving (p4 qual scope s.heap.objs.size f cdv) (.ref i)) (λ_ X=>fg P w outer H s E (.ref i) X) E2 x:=by
 refine as1 I.ok.frames rfl T.gi λZ k J=>?_;have L:iD (fY (gK P w K mg base N qual scope f cdv A outer s H E).stack) [] j H' sc.heap x.heap:=T.un;have p:∀b o,s.heap.get? b=some o->b∉fY outer->∃c,B.get? b=some c/\(H b=none->c=o):=λb o e a=>by obtain⟨m,z⟩:=I.base.there b o e (by simp[gK,j8]);obtain⟨c,l,q⟩:=T.l6 b m z (Cm I e a);show#[c,l,λn=>?_];have g:=I.base.keep b o e n a (by simp[gK,j8]);rw[z]at g;cases g;exact q (I.base.free b _ e n (by simp[gK,j8]))
 show#[i,cls,C,H',B,rfl,#[k,T.os.trans I.os,T.bare,T.ok,#[λb o e n a d=>?_,λb o e n a d=>?_,λb o e n d=>?_,λb o e d=>?_,λb V q=>T.un.gz b V (I.base.gz b V q),λb o u q=>T.un.jH b o u (I.base.jH b o u q),λb R q=>?_],p],G]
 .obtain⟨c,z,q⟩:=p b o e a;rw[q n]at z;exact k.1 b o z
 .obtain⟨bM,z⟩:=I.base.slot b o e n a d;have r:b∈fY (gK P w K mg base N qual scope f cdv A outer s H E).stack:=by show b∈fY (_::outer);unfold fY;rw[Ir];exact n3 _ a
  obtain⟨Y,g⟩:=L.slot b _ z (I.base.free b o e n d) r (by simp);obtain⟨_,y,h,t⟩:=T.gi.2.2.1.mem r;rw[g]at h;cases h;obtain⟨Q,l⟩:=J b _ g t;show#[Q,l]
 .obtain⟨m,z⟩:=I.base.there b o e d;exact L.free b m z (I.base.free b o e n d) (by simp)
 .by_cases a:b∈fY outer
  .obtain⟨_,y,h,t⟩:=k.2.2.1.mem a;show#[y,h]
  obtain⟨c,z,_⟩:=p b o e a;show#[c,k.1 b c z]
 obtain⟨M,F⟩:=I.base.kb b R q;obtain⟨O,D⟩:=T.un.kb b _ F;show#[M++O,by rw[D,V0]]
theorem nr:ou (iz P w) (kj P w K mg base N qual scope f cdv A outer s H E) E:=by rintro g U J Q e M I ⟨p,d,G,H',B,j,rfl,T,L,u⟩;have V:=agz (K:=K) (mg:=mg) (base:=base) (N:=N) (qual:=qual) (scope:=scope) (f:=f) (cdv:=cdv) (A:=A) (outer:=outer) (s:=s) (H:=H) (E:=λc _ F=>c=d/\F=H') (E2:=λ_ _=>False) (I.nR _) T #[rfl,rfl];refine ih (Wz aaz V) (λ_ O y=>?_) λ_ _ z=>z.1.elim;obtain⟨⟨R,b,a,t,x,n,h,m,i⟩,q⟩:=y;cases n;subst m i;show#[p,b,a,t,x,j,rfl,h,λr C=>?_,u];obtain⟨o,aX,l⟩:=L r C;obtain⟨D,k,_⟩:=h.gi.there;show#[D,k,(q.dict aX k).trans l]
end
end b_
namespace dR
open PySem ao b_ cw
section
variable{P:cx}{w:bf}{K:aN}{mg:cb}{base:Heap}
noncomputable abbrev O6:Stmt:=top 100
theorem ak9:cI m6 m6 (b5 O6):={}
inductive δ(aL aw aq:Addr)(vs:aO)(H:af)(Q:a4)(E:bY):Prop where
 |mk(x v:Addr)(A:fU)(s:h0)(a b:Str)(i:Nat)(_:vs=[.ref x,.ref v])(_:g8 aL aw aq H x A s)(_:H v=some (.lst [.str a,.str b,.int (i:Int)]))(_:oM s)(_:c7 H (.str a) (.str a))(_:c7 H (.str b) (.str b))(_:iI (bI s.hs) (.str a) (.str b)=true)(_:((i:Nat):Int)∈kz s.hs s.ds (·.a) a)
   (qA:∀H',z6 x A.t H H'->g8 aL aw aq H' x A #[s.hs,s.ds,s.bB,k_ s.bj a b i]->Q (.str "ok") H')
noncomputable def aag:fu:=λ_ _ _ _=>False
theorem amX{k:Nat}{f:Addr}:aD P w K mg base a3 k f fd e aag:=#[λ_ _ _ _ h=>h.elim,λ_ _ _ _ _ _ _ _ _ _ _ _ _ h=>h.elim]
theorem ajz{f:Addr}(F:cj K "take_way" "take_way" O6 f fd)(L:va K u)(N:dM K j)(p:cH K j "drop_way" "Ways.drop_way" Ž iU f1 J)(V:cH K j "set_way" "Ways.set_way" Cj se f2 R)(Y:aD P w K mg base (fg P w) 3 f2 R se (I2 j C fh dW)):
  aD P w K mg base a3 4 f fd m6 (δ u j C):=by
 have g:aD P w K mg base a3 3 f1 J iU aag:=amX;refine F.ok ak9 (λ_ i9 _ s0 H vs Q E t h=>?_);show#[_,(a6 (d8 (eN zt (b8 eO (ae 1) aZ) kT (ek _)) (a7 (hj (fy (d5 (ae 0)) N p.dQ g t.mono p.bd .nil b0 (ak (b8 eO (ae 1) aZ) (ak (b8 eO (ae 1) aZ) aA))))) (a7 (hj (fy (d5 (ae 0)) N V.dQ Y t.mono V.bd .nil Dc (ak (b8 eO (ae 1) aZ) (ak (b8 eO (ae 1) aZ) (ak (b8 eO (ae 1) aZ) aA)))))))
  (a7 (cd cn))),?_]
 try dsimp only[cT,cS]
 refine cut λdz M=>?_;obtain⟨x,v,A,s,a,b,i,rfl,D,I,k,G,B,Z,O,q⟩:=h;obtain⟨bh,y⟩:=D.d3.ins;have d:=aQ.of (K:=K) I;have zB:x≠A.t:=ao.eg D.ins D.d3.told (by intro z;cases z);have T:A.rs.length<=40:=by rw[D.fJ.len];exact k.c3
 show#[_,rfl,v,_,_,_,rfl,rfl,d,rfl,rfl,_,rfl,dA (dt (by intro z;cases z)) #[_,rfl,x,u,A.ag,_,_,rfl,D.ins,L.cl,L.e8,rfl,A.y,bh,_,rfl,y,rfl,_,rfl,v,_,_,_,rfl,rfl,d,rfl,_,rfl,v,_,_,_,rfl,rfl,d,rfl,_,rfl,v,_,_,_,rfl,rfl,d,rfl,A.y,A.n,A.t,A.a',A.b',s.hs,A.rs,s.ds,_,a,b,(i:Int),rfl,D.d3,k.g,D.fJ,T,G,B,e' ?_,λ_ _ r U=>?_,λm=>bG (Z.symm.trans m) nofun,λ_ m=>bG O m]]
 .unfold hD;rw[bP];exact dX (mi k.bj.c3) (by decide)
 subst M;rw[agC];have n:∀c o,c≠A.t->H c=some o->upd r A.t (.dB (hD (k_ s.bj a b i))) c=some o:=λc o l e=>by rw[aJ l];exact U _ _ e
 have st:vc H (upd r A.t (.dB (hD (k_ s.bj a b i)))):=λb o X e=>n b o (λz=>X.2 _ (hI (e.symm.trans ((fa H z).trans D.d3.told)))) e;exact q _ (λb o _ l e=>n b o l e) #[n _ _ zB D.ins,#[#[bh,st _ _ U3 y],D.d3.el.lg st,aK],D.fJ.lg st,D.lt.lg st]
noncomputable abbrev Lp:Stmt:=fS (top 120) 0
theorem amY:cI cG cG (b5 Lp):={}
inductive ω(aL aw aq:Addr)(vs:aO)(H:af)(Q:a4)(E:bY):Prop where
 |mk(x ag:Addr)(_:vs=[.ref x])(_:H x=some (.ins aL ag []))(_:∀H'(A:fU),A.ag=ag->A.d=.b3->H A.t=none->(∀b o,b≠x->H b=some o->H' b=some o)->g8 aL aw aq H' x A ⟨[],[],[],[]⟩->Q .b3 H')
theorem ala{f:Addr}(F:cj K "__init__" "Desk.__init__" Lp f fd)(g:va K i)(kk:dM K i)(ot:mg "Net"=some (.ref s))(rp:mg "Ways"=some (.ref j))(ut:lq K s kR)(kg:jc K s "Net.__init__" w5 oP kR ur)(rd:aD P w K mg base a3 5 kR ur oP (Hd K s))(G2:lq K j l2)(nh:jc K j "Ways.__init__" Ck lV l2 ri)(uA:aD P w K mg base a3 1 l2 ri lV (I0 j)):
  aD P w K mg base a3 7 f fd cG (ω i j s):=by
 refine F.ok amY (λ_ i9 _ s0 H vs Q E al h=>?_);show#[_,(a6 (h5 (ae 0) (o4 ut rd al.mono (by rfl) ot kg.bd .nil b0 (ak (g7 aA) (ak (g7 aA) aA))) rfl)
  (a6 (h5 (ae 0) (g7 aA) rfl)
  (a6 (h5 (ae 0) (o4 G2 uA al.mono (by rfl) rp nh.bd .nil b0 (ak (d5 (ae 0)) aA)) rfl)
  (a7 (h5 (ae 0) kT rfl))))),?_]
 try dsimp only[cT,cS]
 refine cut λJ V=>?_;obtain⟨x,c,rfl,G,q⟩:=h;show#[(by show 0<=sizeLine;decide),λa na=>#[(by show 0<=sizeLine;decide),λb d=>?_]];have B:aB H (upd (upd H a (.lst [])) b (.lst [])):=(bF na).trans (bF d);have az:upd (upd H a (.lst [])) b (.lst []) a=some (.lst []):=bF d _ _ aK;have aa:upd (upd H a (.lst [])) b (.lst []) b=some (.lst []):=aK;generalize upd (upd H a (.lst [])) b (.lst [])=H1 at B az aa⊢;intro n M nn aI SR;have C:aB H1 (upd (upd H1 M (.own n)) n (.ins s M [])):=gJ nn (bF aI);show#[n,M,a,b,[],[],[],rfl,aK,C _ _ az,#[λ_ z=>bG z e3,sd,e4 _],C _ _ aa,WJ [],e4 _,λk Y fF cL ah aj bZ cA iu=>#[rfl,?_]];have wG:=eU B nn;have bp:aB H k:=λb o e=>cL b o (b1 e wG) (C _ _ (B _ _ e));have r:x≠Y:=b1 (C _ _ (B _ _ G)) cA;have A:x≠fF:=b1 (C _ _ (B _ _ G)) iu;show#[_,rfl,x,i,c,_,rfl,bp _ _ G,g.cl,g.nn,(by show 0<1000;decide),?_];refine f3 J V λJ V=>?_;show gN _ _ _ _ (upd k x (.ins i c [("net",.ref n)]));have L:n≠x:=(b1 G wG).symm;have O:∀b o,b≠x->k b=some o->upd k x (.ins i c [("net",.ref n)]) b=some o:=λb o d e=>by rw[aJ d];exact e
 have pn:∀b o,b≠x->H b=some o->upd k x (.ins i c [("net",.ref n)]) b=some o:=λb o d e=>O b o d (bp _ _ e);have N:hL s (upd k x (.ins i c [("net",.ref n)])) n Y fF (cN []) (aS []):=#[#[M,O _ _ L ah],O _ _ r.symm aj,O _ _ A.symm bZ]
 have X:upd k x (.ins i c [("net",.ref n)]) x=some (.ins i c [("net",.ref n)]):=aK;generalize upd k x (.ins i c [("net",.ref n)])=m at pn N X⊢;show#[(by show 0<=sizeLine;decide),λl nl=>#[_,rfl,x,i,c,_,rfl,bF nl _ _ X,g.cl,g.nl,(by show 1<1000;decide),?_]];refine f3 J V λJ V=>?_;show gN _ _ _ _ (upd (upd m l (.lst [])) x (.ins i c [("net",.ref n),("kept_letters",.ref l)]));have mc:l≠x:=(b1 X nl).symm;have U:∀b o,b≠x->m b=some o->upd (upd m l (.lst [])) x (.ins i c [("net",.ref n),("kept_letters",.ref l)]) b=some o:=λb o d e=>by rw[aJ d];exact bF nl _ _ e
 have l5:upd (upd m l (.lst [])) x (.ins i c [("net",.ref n),("kept_letters",.ref l)]) l=some (.lst []):=by rw[aJ mc];exact aK
 have u:upd (upd m l (.lst [])) x (.ins i c [("net",.ref n),("kept_letters",.ref l)]) x=some (.ins i c [("net",.ref n),("kept_letters",.ref l)]):=aK;generalize upd (upd m l (.lst [])) x (.ins i c [("net",.ref n),("kept_letters",.ref l)])=p at U l5 u⊢;show#[_,rfl,x,i,c,_,_,rfl,u,g.cl,g.nn,rfl,λy bh e8 Fw Ũ=>#[y,bh,_,rfl,aK,λt ec=>#[rfl,?_]]];have R:p t=none:=eU (gJ (o:=.ins j bh []) e8 (bF (o:=.own y) Fw)) ec;have ty:y≠t:=b1 (H:=upd (upd p bh (.own y)) y (.ins j bh [])) aK ec;have I:aB p (upd (upd (upd (upd p bh (.own y)) y (.ins j bh [])) t (.dB [])) y (.ins j bh [("net",.ref n),("told",.ref t)])):=gJ e8 (gJ R (gJ e8 (bF Fw)));have Į:upd (upd (upd (upd p bh (.own y)) y (.ins j bh [])) t (.dB [])) y (.ins j bh [("net",.ref n),("told",.ref t)]) y=some (.ins j bh [("net",.ref n),("told",.ref t)]):=aK;have Rh:upd (upd (upd (upd p bh (.own y)) y (.ins j bh [])) t (.dB [])) y (.ins j bh [("net",.ref n),("told",.ref t)]) t=some (.dB []):=by rw[aJ (dY ty),aK]
 generalize upd (upd (upd (upd p bh (.own y)) y (.ins j bh [])) t (.dB [])) y (.ins j bh [("net",.ref n),("told",.ref t)])=bK at I Į Rh⊢;show#[_,rfl,x,i,c,_,rfl,I _ _ u,g.cl,g.e8,(by show 2<1000;decide),?_];subst V;show#[_,rfl,x,i,c,_,rfl,aK,g.cl,g.aI,(by show 3<1000;decide),?_];rw[y9];have atf:y≠x:=(b1 u e8).symm;have zB:t≠x:=(b1 u R).symm;have T:∀b o,b≠x->bK b=some o->upd bK x (.ins i c (qn n l y .b3)) b=some o:=λb o d e=>by rw[aJ d];exact e
 have D:∀b o,b≠x->m b=some o->upd bK x (.ins i c (qn n l y .b3)) b=some o:=λb o d e=>T b o d (I _ _ (U b o d e));obtain⟨jg,kr⟩:=N.ins;have Z:H t=none:=by
  cases e:H t with
  |none=>rfl
  |some o=>rw[U t o zB (pn t o zB e)]at R;cases R
 refine q _ #[c,n,l,y,t,Y,fF,[],.b3] rfl rfl Z (λb o d e=>D b o d (pn b o d e)) #[aK,#[#[bh,T _ _ atf Į],#[#[jg,D _ _ L kr],D _ _ ?_ N.jL,D _ _ ?_ N.ky],T _ _ zB Rh],WJ [],.lst (T _ _ mc (I _ _ l5)) (e4 _) .nil]
 .exact r.symm
 exact A.symm
end
theorem aD.wide{w:bf}{K:aN}{m:cb}{a:Heap}{d g:nV}{j k:Nat}{f:Addr}(F:aD P w K m a d j f fd i sp)(h:∀l H s E e c,d l H s E e c->g l H s E e c)(p:j<=k):aD P w K m a g k f fd i sp:=
 #[F.len,λA b s H args L vs Q E o y n t z=>by
  refine q6 ((F.mono p).run A b s H args L vs Q E o y n t z) λr c q=>?_;cases r with
  |ok v=>cases v<;>exact q
  |error e=>exact h _ _ _ _ _ _ q]
section
variable{P:cx}{w:bf}{K:aN}{mg:cb}{base:Heap}
noncomputable abbrev Ah:Stmt:=fS (top 120) 1
theorem zX:cI ["self","row","words","values"] qG (b5 Ah):={}
inductive abf(K:aN)(cR eb g5:Addr)(cs:Addr->fu->Prop)(kw:Str)(x:Addr)(d:ao.V)(us:aO)(H:af)(Q:a4)(E:bY):Prop where
 |vY(f:Addr)(sp:fu)(_:e5 K cR kw=some (some (.ref f)))(_:cs f sp)(_:∀l H',H l=none->aB H H'->H' l=some (.lst us)->sp [.ref x,.ref l] H' Q E)
 |day(bh:Addr)(f:Addr)(sp:fu)(_:e5 K cR kw=some none)(_:d=.ref bh)(_:e5 K eb kw=some (some (.ref f)))(_:cs f sp)(_:∀l H',H l=none->aB H H'->H' l=some (.lst us)->sp [.ref bh,.ref l] H' Q E)
 |none(_:e5 K cR kw=some none)(_:d=.b3)(_:∀H',aB H H'->E (.ref g5) none H')
inductive Jp(K:aN)(aL g5:Addr)(R:jU)(cO cR eb:Addr)(cs:Addr->fu->Prop)(vs:aO)(H:af)(Q:a4)(E:bY):Prop where
 |mk(x ag n l y:Addr)(d:ao.V)(ps:bt)(kw:Str)(ws:cK)(dv:List mm)(us:aO)(_:vs=[.ref x,.str (S (d1 [32] ps))])(_:H x=some (.ins aL ag (qn n l y d)))(_:tN ps)(_:ps.map S=kw::ws)(_:h6 K cO kw (dv.map R.f))(_:pU dv ws us)(_:dv.length<=10)(_:abf K cR eb g5 cs kw x d us H Q E)
inductive Dl(K:aN)(aL g5:Addr)(R:jU)(cO cR:Addr)(vs:aO)(H:af)(Q:a4)(E:bY):Prop where
 |mk(x ag n l y:Addr)(ps:bt)(kw:Str)(ws:cK)(dv:List mm)(us:aO)(_:vs=[.ref x,.str (S (d1 [32] ps))])(_:H x=some (.ins aL ag (qn n l y .b3)))(_:tN ps)(_:ps.map S=kw::ws)(_:h6 K cO kw (dv.map R.f))(_:pU dv ws us)(_:dv.length<=10)(_:e5 K cR kw=some none)(_:∀H',aB H H'->E (.ref g5) none H')
noncomputable def amZ:Addr->fu->Prop:=λ_ _=>False
theorem ah5{f:Addr}{R:jU}(F:cj K "say" "Desk.say" Ah f fd)(p:va K i)(V:mg "DESK_ANSWERS"=some (.ref e))(v3:mg "DAY_ANSWERS"=some (.ref eb))(B:TopD w K e)(k:vo C1 Z sU bm)(G:Exc K mg "NoDay" Y bm Z)(uN:cu K mg "words_of" Gx ["row"] f1 O)(D:aD P w K mg base a3 1 f1 O ["row"] O0)(uB:cu K mg "values_of" D1 ["words"] f2 X)(C:aD P w K mg base a3 4 f2 X ["words"] (Oe K R T)):aD P w K mg base (fg P w) 9 f fd qG (λvs H Q E=>Dl K i Y R T e vs H Q E):=by
 have t:∀g sp,amZ g sp->Ai P w K mg base a3 8 g sp:=λ_ _ z=>z.elim;refine nL F zX (λ_ i9 _ s0 H vs Q E d h=>?_);show#[_,(a6 (dO 2 zX.aI (d9 D uN d.mono b0 (ak (ae 1) aA)))
  (a6 (dO 3 zX.aI (d9 C uB d.mono b0 (ak (ae 2) aA)))
  (a6 (d8 (Hh (Y6 (b8 eO (ae 2) aZ) (km V))) (a7 (cd (Gi (GU (km V) (b8 eO (ae 2) aZ) (λ_ _=>rfl)) t d.mono b0 (ak (ae 0) (ak (ae 3) aA))))) ed)
  (a6 (d8 (eN zt (d5 (ae 0)) kT (ek _)) (a7 (yX k G rfl (ak cn aA))) ed)
  (a7 (cd (Gi (GU (km v3) (b8 eO (ae 2) aZ) (λ_ _=>rfl)) t d.mono b0 (ak (d5 (ae 0)) (ak (ae 3) aA))))))))),?_]
 try dsimp only[cT,cS]
 refine cut λr o=>?_;obtain⟨x,J,n,l,y,ps,b,c,U,us,rfl,M,u,ly,kR,I,s,hK,q⟩:=h;show#[_,rfl,ps,rfl,u,λa na=>?_];rw[ly];have L:aB H (upd H a (.lst (i2 (b::c)))):=bF na;have m:upd H a (.lst (i2 (b::c))) a=some (.lst (i2 (b::c))):=aK;refine f3 r o λr o=>?_;show gN _ _ _ _ (upd H a (.lst (i2 (b::c))));generalize upd H a (.lst (i2 (b::c)))=H1 at L m⊢;show#[_,rfl,a,b,c,U,us,rfl,m,kR,I,s,λdG ai nl N ax=>?_];subst o;have kf:ao.gT (i2 (b::c)) 0=some (.str b):=iH (j:=0) rfl;have A:=L.trans N;show#[_,rfl,a,_,_,_,rfl,rfl,aQ.of (N _ _ m),kf,b,e,_,rfl,rfl,B,hK,_,rfl,dA rfl ?_];show#[_,rfl,x,i,J,_,_,rfl,A _ _ M,p.cl,p.aI,rfl,rfl,_,rfl,eQ (cE rfl) #[(by show 1<=sizeLine;decide),q _ A]]
theorem ah6{f:Addr}{R:jU}{X:Addr->fu->Prop}(F:cj K "say" "Desk.say" Ah f fd)(o:va K i)(su:mg "DESK_ANSWERS"=some (.ref e))(v3:mg "DAY_ANSWERS"=some (.ref G))(L:TopD w K e)(Ee:TopD w K G)(uN:cu K mg "words_of" Gx ["row"] f1 c2)(Ux:aD P w K mg base a3 1 f1 c2 ["row"] O0)(uB:cu K mg "values_of" D1 ["words"] f2 eW)(TZ:aD P w K mg base a3 4 f2 eW ["words"] (Oe K R U))(gM:∀g sp,X g sp->Ai P w K mg base (iz P w) 8 g sp):aD P w K mg base (iz P w) 9 f fd qG (λvs H Q E=>Jp K i g5 R U e G X vs H Q E/\¬Dl K i g5 R U e vs H Q E):=by
 refine y3 F zX (λ_ i9 _ s0 H vs Q E m h=>?_);show#[_,(a6 (dO 2 zX.aI (d9 Ux uN m.mono b0 (ak (ae 1) aA)))
  (a6 (dO 3 zX.aI (d9 TZ uB m.mono b0 (ak (ae 2) aA)))
  (a6 (d8 (Hh (Y6 (b8 eO (ae 2) aZ) (km su))) (a7 (cd (Gi (GU (km su) (b8 eO (ae 2) aZ) (λ_ _=>rfl)) gM m.mono nr (ak (ae 0) (ak (ae 3) aA))))) ed)
  (a6 (d8 (eN zt (d5 (ae 0)) kT (ek _)) (a7 uO) ed)
  (a7 (cd (Gi (GU (km v3) (b8 eO (ae 2) aZ) (λ_ _=>rfl)) gM m.mono nr (ak (d5 (ae 0)) (ak (ae 3) aA))))))))),?_]
 try dsimp only[cT,cS]
 refine cut λdz D=>?_;obtain⟨⟨x,N,n,l,y,d,ps,b,c,Z,us,rfl,u,J,ly,kR,M,I,an⟩,no⟩:=h;show#[_,rfl,ps,rfl,J,λa na=>?_];have V:=kR;have Bi:=M;rw[ly];have A:aB H (upd H a (.lst (i2 (b::c)))):=bF na;have C:upd H a (.lst (i2 (b::c))) a=some (.lst (i2 (b::c))):=aK;refine f3 dz D λdz D=>?_;show gN _ _ _ _ (upd H a (.lst (i2 (b::c))));generalize upd H a (.lst (i2 (b::c)))=H1 at A C⊢;show#[_,rfl,a,b,c,Z,us,rfl,C,kR,M,I,λY O nl s2 T=>?_];subst D;have t:ao.gT (i2 (b::c)) 0=some (.str b):=iH (j:=0) rfl;have p:=A.trans s2;have k:=aQ.of (K:=K) (s2 _ _ C);rcases an with⟨g,sp,r,B,q⟩|⟨bh,g,sp,s,rfl,r,B,q⟩|⟨s,rfl,q⟩
 .show#[_,rfl,a,_,_,_,rfl,rfl,k,t,b,e,_,rfl,rfl,L,r,_,rfl,eQ rfl ?_];show#[_,rfl,a,_,_,_,rfl,rfl,k,t,b,e,g,rfl,rfl,L,r,g,sp,rfl,B,_,rfl,_,rfl,q Y O (eU A nl) p T]
 .show#[_,rfl,a,_,_,_,rfl,rfl,k,t,b,e,_,rfl,rfl,L,s,_,rfl,dA rfl ?_];show#[_,rfl,x,i,N,_,_,rfl,p _ _ u,o.cl,o.aI,rfl,rfl,_,rfl,dA (dt (by intro z;cases z)) ?_];show#[_,rfl,a,_,_,_,rfl,rfl,k,t,b,G,g,rfl,rfl,Ee,r,g,sp,rfl,B,_,rfl,x,i,N,_,_,rfl,p _ _ u,o.cl,o.aI,rfl,_,rfl,q Y O (eU A nl) p T]
 exact bG #[x,N,n,l,y,ps,b,c,Z,us,rfl,u,J,ly,V,Bi,I,s,q] no
theorem ajA{f:Addr}{R:jU}{o:Addr->fu->Prop}(A:aD P w K mg base (iz P w) 9 f fd qG (λvs H Q E=>Jp K e q R i j u o vs H Q E/\¬Dl K e q R i j vs H Q E))(N:aD P w K mg base (fg P w) 9 f fd qG (λvs H Q E=>Dl K e q R i j vs H Q E)):
  aD P w K mg base (iz P w) 9 f fd qG (Jp K e q R i j u o):=
 #[λvs H Q E h=>by
  obtain⟨x,t,n,l,y,d,B,V,C,L,b,rfl,_⟩:=h;rfl,λc a s H args b vs Q E k p g m r=>by
  by_cases z:Dl K e q R i j vs H Q E
  .exact(aD.wide N (λ_ _ _ _ _ _ h=>zD h) (cB _)).run c a s H args b vs Q E k p g m z
  exact A.run c a s H args b vs Q E k p g m #[r,z]]
end
end dR
namespace b_
open PySem PySem.Spec PyProof.Rows ao
theorem Wh:∀{c:List Bool}{a:dx},de (c.map V.aV) a->a=c.map Ek
 |[],_,.nil=>rfl
 |b::c,_,.cons h r=>by cases h;rw[Wh r];rfl
noncomputable def Η:Value->Bool
 |.bool b=>b
 |_=>false
section
variable{X:bH}
inductive ah7(K:aN)(x:ao.V)(vs:aO)(H:af)(Q:a4):Prop where
 |mk(l:Addr)(bs:List Bool)(k:Nat)(_:x=.ref l)(_:vs=[.aV true])(_:aQ K H l (bs.map V.aV))(_:bs.length<=100)(_:bs[k]?=some true)(_:∀j,j<k->bs[j]?=some false)(_:Q (.int (k:Int)) H)
theorem aej:DN X "list.index" (ah7 X.K):=by
 intro g s U H x vs v J Q I L N h;obtain⟨l,K,k,rfl,rfl,t,G,m,E,q⟩:=h;cases L;obtain⟨u,rfl,C⟩:=N.one;cases C;obtain⟨D,r,p,_⟩:=I.list t;have e:=Wh r;subst e;obtain⟨⟨V,i,d,A⟩,aX,c,n,f⟩:=id p.isList;simp only at c f;subst c f;obtain⟨B,o⟩:=gn.mp m;refine En afn #[_,aX,rfl] PySem.F.entry_list_index (PySem.F.args_list_index_2 _ _)
  (at0 l _ n i A (.bool true) Η k (by simpa using B) (by omega) ?_ ?_) #[aX,λy w=>?_,#[.int (k:Int),H,I.tok _,#[_,rfl],q]]
 .simp only[adv,xC];exact o
 .intro j F a;simp only[adv,xC];obtain⟨_,z⟩:=gn.mp (E j a);exact z
 obtain⟨b,_,rfl⟩:=cm.mp (by simpa using w:y∈K.map Ek);have e:(b==true)=Η (.bool b):=by cases b<;>rfl
 rw[<-e];exact atZ b true
end
end b_
namespace dR
open PySem ao b_ cw
noncomputable def qo:List Str:=["net","house","road","letter","bag","way","goals","cut","text","row","day"]
structure m2(K:aN)(g6:Addr)(cs:bL)(C:Addr)(k:Nat):Prop where
 hS:px K C
 sub:qh K C g6=true
 re:ml K (.ref C) (.ref g6)=some true
 UU:ml K (.ref C) (.type "ValueError")=some true
 lt:k<11
 at_:∀(j:Nat)(R:Addr),cs[j]?=some R->ml K (.ref C) (.ref R)=some (decide (j=k))
noncomputable def gx(k:Nat)(a:b7):List ao.V:=(a.map λj=>decide (j=k)).map V.aV
noncomputable def Æ:ao.V->ao.V
 |.aV b=>.int (if b=true then 1 else 0)
 |v=>v
noncomputable def WP(k:Nat):List Int:=[0,1,2,3,4,5,6,7,8,9,10].map λj:Nat=>if j=k then 1 else 0
theorem ah8(k:Nat)(h:k<11):(gx k [0,1,2,3,4,5,6,7,8,9,10]).map Æ=(WP k).map V.int/\(WP k).sum=1/\∀x∈WP k,(0:Int)<=x:=by
 show#[?_,?_,?_]
 .unfold gx WP;rw[hc,hc,hc];refine t4 λj _=>?_;show V.int (if decide (j=k)=true then 1 else 0)=V.int (if j=k then 1 else 0);by_cases z:j=k
  .rw[bS z,bS (cE z)]
  rw[bx z,bx (by rw[dt z];decide)]
 .revert k;decide
 intro x a;obtain⟨j,_,rfl⟩:=cm.mp a;show 0<=if j=k then(1:Int)else 0
 split<;>decide
theorem ajB(k:Nat)(h:k<11):([0,1,2,3,4,5,6,7,8,9,10].map λj=>decide (j=k))[k]?=some true/\∀i,i<k->([0,1,2,3,4,5,6,7,8,9,10].map λj=>decide (j=k))[i]?=some false:=by revert k;decide
section
variable{P:cx}{w:bf}{K:aN}{mg:cb}{base:Heap}
noncomputable abbrev Gp:Stmt:=top 126
theorem Ao:cI ["_law_error","_law_kinds","_law_words"] xF (b5 Gp):={}
inductive O7(K:aN)(g6:Addr)(cs:bL)(vs:aO)(H:af)(Q:a4)(E:bY):Prop where
 |mk(aR C:Addr)(k:Nat)(_:vs=[.ref aR])(_:H aR=some (xp aR C))(_:m2 K g6 cs C k)(_:∀H' y,qo[k]?=some y->aB H H'->Q (.str y) H')
seal hg bA h2 h8
theorem adc{f:Addr}(F:cj K "_law_kind" "_law_kind" Gp f fd)(B:ft mg)(nj:mg "RoadError"=some (.ref g6))(Cd:mg "NoNet"=some (.ref nn))(BK:mg "NoHouse"=some (.ref s8))(B0:mg "NoRoad"=some (.ref iP))(p1:mg "NoLetter"=some (.ref nl))(F0:mg "BadBag"=some (.ref jD))(Gn:mg "NoWay"=some (.ref jn))(E7:mg "ManyGoals"=some (.ref O))(F1:mg "CutOff"=some (.ref co))(F2:mg "NoText"=some (.ref ec))(Go:mg "NoRow"=some (.ref no))(Ce:mg "NoDay"=some (.ref aI)):aD P w K mg base a3 1 f fd xF (O7 K g6 [nn,s8,iP,nl,jD,jn,O,co,ec,no,aI]):=by
 refine F.ok Ao (λcdv A U s H vs Q E al h=>?_);show#[_,(a6 (d8 (kJ.pt (zO (j0 (kU (eD oW B.isinstance kh (ak (ae 0) (ak (km nj) aA))))) (CF (j0 (kU (eD oW B.isinstance kh (ak (ae 0) (ak (wR (by rfl) B.ValueError atq) aA)))))))) (a7 (cd cn)) ed)
  (a6 (dO 1 Ao.aI (g7 (ak (eD oW B.isinstance kh (ak (ae 0) (ak (km Cd) aA))) (ak (eD oW B.isinstance kh (ak (ae 0) (ak (km BK) aA))) (ak (eD oW B.isinstance kh (ak (ae 0) (ak (km B0) aA))) aA)))))
  (a6 (dO 1 Ao.aI (bO ul (ae 1) (g7 (ak (eD oW B.isinstance kh (ak (ae 0) (ak (km p1) aA))) (ak (eD oW B.isinstance kh (ak (ae 0) (ak (km F0) aA))) (ak (eD oW B.isinstance kh (ak (ae 0) (ak (km Gn) aA))) aA))))))
  (a6 (dO 1 Ao.aI (bO ul (ae 1) (g7 (ak (eD oW B.isinstance kh (ak (ae 0) (ak (km E7) aA))) (ak (eD oW B.isinstance kh (ak (ae 0) (ak (km F1) aA))) (ak (eD oW B.isinstance kh (ak (ae 0) (ak (km F2) aA))) aA))))))
  (a6 (dO 1 Ao.aI (bO ul (ae 1) (g7 (ak (eD oW B.isinstance kh (ak (ae 0) (ak (km Go) aA))) (ak (eD oW B.isinstance kh (ak (ae 0) (ak (km Ce) aA))) aA)))))
  (a6 (dO 2 Ao.aI (g7 (ak cn (ak cn (ak cn (ak cn (ak cn (ak cn (ak cn (ak cn (ak cn (ak cn (ak cn aA)))))))))))))
  (a6 (d8 (eN zQ (eD (afQ rfl) B.sum ai2 (ak (tl (N':=["_law_one"]) (cs:=[none]) rfl (jE (ae 1)) rfl (by decide+kernel) rfl (by decide+kernel) (lE (λp aG=>bG aG (e3))) rfl
   (.own .nil)
   (λC G e dc fA=>#[(fG 0 (by show(["_law_one"]:cK).Nodup;decide+kernel)),o5,(hC VN B.int HH (ak (ae 0) aA))])) aA)) aZ (ek _)) (a7 (cd cn)) ed)
  (a7 (cd (b8 eO (ae 2) (oz t_ afn PySem.F.type_list_index aej (ae 1) (ak iK aA)))))))))))),?_]
 try dsimp only[cT,cS]
 refine cut λg d=>?_;obtain⟨c,C,k,rfl,L,D,q⟩:=h;show#[_,rfl,c,C,_,L,D.hS,.inl #[_,rfl,D.re],_,rfl,fR #[_,rfl,c,C,_,L,D.hS,.inr #[_,rfl,D.UU],_,rfl,fR ?_]];refine f3 g d λg d=>?_;have a:=L;show#[_,rfl,c,C,_,a,D.hS,.inl #[_,rfl,D.at_ 0 _ rfl],_,rfl,c,C,_,a,D.hS,.inl #[_,rfl,D.at_ 1 _ rfl],_,rfl,c,C,_,a,D.hS,.inl #[_,rfl,D.at_ 2 _ rfl],(by show 3<=sizeLine;decide),λz cz=>?_];have X:aB H (upd H z (.lst (gx k [0,1,2]))):=bF cz;have ah:upd H z (.lst (gx k [0,1,2])) z=some (.lst (gx k [0,1,2])):=aK;refine f3 g d λg d=>?_;show gN _ _ _ _ (upd H z (.lst (gx k [0,1,2])));generalize upd H z (.lst (gx k [0,1,2]))=H1 at X ah⊢;have a:=X _ _ L;show#[_,rfl,_,rfl,c,C,_,a,D.hS,.inl #[_,rfl,D.at_ 3 _ rfl],_,rfl,c,C,_,a,D.hS,.inl #[_,rfl,D.at_ 4 _ rfl],_,rfl,c,C,_,a,D.hS,.inl #[_,rfl,D.at_ 5 _ rfl],(by show 3<=sizeLine;decide),λp m=>#[z,p,_,_,rfl,rfl,bF m _ _ ah,aK,(by show 6<=sizeLine;decide),λt cA=>?_]];have Y:aB H (upd (upd H1 p (.lst (gx k [3,4,5]))) t (.lst (gx k [0,1,2,3,4,5]))):=X.trans ((bF m).trans (bF cA));have aj:upd (upd H1 p (.lst (gx k [3,4,5]))) t (.lst (gx k [0,1,2,3,4,5])) t=some (.lst (gx k [0,1,2,3,4,5])):=aK;refine f3 g d λg d=>?_;show gN _ _ _ _ (upd (upd H1 p (.lst (gx k [3,4,5]))) t (.lst (gx k [0,1,2,3,4,5])));generalize upd (upd H1 p (.lst (gx k [3,4,5]))) t (.lst (gx k [0,1,2,3,4,5]))=r at Y aj⊢;have a:=Y _ _ L;show#[_,rfl,_,rfl,c,C,_,a,D.hS,.inl #[_,rfl,D.at_ 6 _ rfl],_,rfl,c,C,_,a,D.hS,.inl #[_,rfl,D.at_ 7 _ rfl],_,rfl,c,C,_,a,D.hS,.inl #[_,rfl,D.at_ 8 _ rfl],(by show 3<=sizeLine;decide),λp m=>#[t,p,_,_,rfl,rfl,bF m _ _ aj,aK,(by show 9<=sizeLine;decide),λN iu=>?_]];have G:aB H (upd (upd r p (.lst (gx k [6,7,8]))) N (.lst (gx k [0,1,2,3,4,5,6,7,8]))):=Y.trans ((bF m).trans (bF iu));have bZ:upd (upd r p (.lst (gx k [6,7,8]))) N (.lst (gx k [0,1,2,3,4,5,6,7,8])) N=some (.lst (gx k [0,1,2,3,4,5,6,7,8])):=aK;refine f3 g d λg d=>?_;show gN _ _ _ _ (upd (upd r p (.lst (gx k [6,7,8]))) N (.lst (gx k [0,1,2,3,4,5,6,7,8])));generalize upd (upd r p (.lst (gx k [6,7,8]))) N (.lst (gx k [0,1,2,3,4,5,6,7,8]))=e at G bZ⊢;have a:=G _ _ L;show#[_,rfl,_,rfl,c,C,_,a,D.hS,.inl #[_,rfl,D.at_ 9 _ rfl],_,rfl,c,C,_,a,D.hS,.inl #[_,rfl,D.at_ 10 _ rfl],(by show 2<=sizeLine;decide),λp m=>#[N,p,_,_,rfl,rfl,bF m _ _ bZ,aK,(by show 11<=sizeLine;decide),λl Ft=>?_]];have cc:aB H (upd (upd e p (.lst (gx k [9,10]))) l (.lst (gx k [0,1,2,3,4,5,6,7,8,9,10]))):=G.trans ((bF m).trans (bF Ft));have c':upd (upd e p (.lst (gx k [9,10]))) l (.lst (gx k [0,1,2,3,4,5,6,7,8,9,10])) l=some (.lst (gx k [0,1,2,3,4,5,6,7,8,9,10])):=aK;refine f3 g d λg d=>?_;show gN _ _ _ _ (upd (upd e p (.lst (gx k [9,10]))) l (.lst (gx k [0,1,2,3,4,5,6,7,8,9,10])));generalize upd (upd e p (.lst (gx k [9,10]))) l (.lst (gx k [0,1,2,3,4,5,6,7,8,9,10]))=u at cc c'⊢;show#[(by show 11<=sizeLine;decide),λo Ŧ=>?_];have c4:aB H (upd u o (.lst (qo.map V.str))):=cc.trans (bF Ŧ);have x:upd u o (.lst (qo.map V.str)) l=some (.lst (gx k [0,1,2,3,4,5,6,7,8,9,10])):=bF Ŧ _ _ c';have hw:upd u o (.lst (qo.map V.str)) o=some (.lst (qo.map V.str)):=aK;refine f3 g d λg d=>?_;show gN _ _ _ _ (upd u o (.lst (qo.map V.str)));generalize upd u o (.lst (qo.map V.str))=bK at c4 x hw⊢;have n:=D.lt;dsimp only[gN,xn,N5,Cz,w1,pb];refine Cw (J:=n2 K l) (H1:=bK) (xs:=gx k [0,1,2,3,4,5,6,7,8,9,10]) (rest:=[]) (λR h=>#[_,rfl,l,rfl,#[_,aQ.of x],h]) rfl (s4 (aQ.of x)) (e' (by show 11<=1000;decide)) Æ (λi v r R T au cQ=>?_) (λM g0 wJ Z I=>?_)
 .unfold gx at T;rw[dV]at T;obtain⟨b,_,rfl⟩:=gS.mp T;show#[_,rfl,.inr #[b,rfl,cQ r (aB.refl _)]]
 obtain⟨fQ,es,hK⟩:=ah8 k n;rw[fQ]at Z;show#[M,_,rfl,aQ.of Z,hK,(by rw[es];decide),?_];rw[es];show#[rfl,_,rfl,dA (by decide) ?_];subst d;obtain⟨y,eI⟩:∃y,qo[k]?=some y:=#[_,dw (show k<qo.length from n)]
 obtain⟨hB,fF⟩:=ajB k n;show#[_,rfl,_,rfl,.inl #[rfl,_,aQ.of (I _ _ x)],l,_,k,rfl,rfl,aQ.of (I _ _ x),(by show 11<=100;decide),hB,fF,o,_,_,_,rfl,rfl,aQ.of (I _ _ hw),iH (j:=k) (by rw[dV,eI];rfl),q g0 y eI (c4.trans I)]
unseal hg bA h2 h8
noncomputable def B6(sp:fu):fu:=λvs H Q E=>sp vs H Q λa _ H'=>E a none H'
theorem aD.B6{k:Nat}{f:Addr}(F:aD P w K mg base (iz P w) k f fd i sp):aD P w K mg base (fg P w) k f fd i (B6 sp):=
 #[λvs H Q E h=>F.len vs H Q _ h,λA a s H args p vs Q E l n g m o=>by
  refine q6 (F.run A a s H args p vs Q _ l n g m o) λr y q=>?_;cases r with
  |ok v=>cases v<;>exact q
  |error e=>
   obtain⟨d,b,c,H',B,t,rfl,T,_,q⟩:=q;show#[d,b,c,H',B,rfl,T,q]]
noncomputable abbrev zd:Stmt:=top 127
theorem Ap:cI ["_law_desk","_law_row","_law_error","_law_found","e"] qH (b5 zd):={}
inductive D4(K:aN)(aL g6:Addr)(cs:bL)(sp:fu)(vs:aO)(H:af)(Q:a4)(E:bY):Prop where
 |mk(x ag eV dl bh:Addr)(dd:ao.V)(row:Str)(_:vs=[.ref x,.str row])(_:H x=some (.ins aL ag (qn eV dl bh dd)))
   (bN:∀(sl:a4)(kC:bY),(∀y H',(∀l qD,H' l=none->aB H' qD->qD l=some (.lst [.aV true,.str y])->Q (.ref l) qD)->sl (.str y) H')->(∀C k y o H',m2 K g6 cs C k->qo[k]?=some y->(∀l qD,H' l=none->aB H' qD->qD l=some (.lst [.str y])->Q (.ref l) qD)->kC (.ref C) o H')->sp [.ref x,.str row] H sl kC)
theorem alx{f:Addr}(F:cj K "_law_said" "_law_said" zd f fd)(B:ft mg)(R:dM K j)(T:mg "RoadError"=some (.ref e))(L:qh K e e=true)(g:cH K j "say" "Desk.say" Ah qG f1 G)(r:aD P w K mg base (fg P w) 9 f1 G qG (B6 sp))(X:cu K mg "_law_kind" Gp xF f2 M)(N:aD P w K mg base a3 1 f2 M xF (O7 K e cs)):aD P w K mg base a3 10 f fd qH (D4 K j e cs sp):=by
 refine F.ok Ap (λI A b s H vs Q E d h=>?_);show#[_,(a6 (dO 2 Ap.aI kT)
  (a6 (dO 3 Ap.aI cn)
  (a6 (Y' (i:=4) rfl rfl (WC (XS (i:=3) Ap.aI rfl (IH rfl) (ahH (ae 0) R g.dQ r d.mono g.bd (ak (ae 1) aA)))) Ap.aI rfl rfl rfl T L (λc=>(a7 (dO 2 Ap.aI (ae 4)))))
  (a6 (d8 (eN zt (ae 2) kT (ek _)) (a7 (cd (g7 (ak (eD yV B.isinstance kh (ak (ae 3) (ak (wR (by rfl) B.str j1) aA))) (ak (ae 3) aA))))) ed)
  (a7 (cd (g7 (ak (d9 N X d.mono b0 (ak (ae 2) aA)) aA)))))))),?_]
 try dsimp only[cT,cS]
 obtain⟨x,V,eV,dl,bh,Z,U,rfl,u,h⟩:=h;show#[_,rfl,x,V,_,rfl,u,rfl,_,rfl,h _ _ (λy p q=>?_) (λC k y o p D J q=>?_)]
 .show#[_,rfl,rfl,_,rfl,eQ (cE rfl) ?_];show#[_,rfl,_,_,_,_,_,rfl,#[rfl,.str _,w8 K (show qw "str" "str"=some true by decide+kernel)],_,rfl,(by show 2<=sizeLine;decide),λl a=>q l _ a (bF a) aK]
 show#[C,rfl,D.sub,λc n=>#[_,rfl,?_]];show#[_,rfl,rfl,_,rfl,dA (dt (by intro z;cases z)) #[_,rfl,c,C,k,rfl,aK,D,λY O t m=>#[(by show 1<=sizeLine;decide),λl a=>?_]]];obtain rfl:O=y:=hI (t.symm.trans J);exact q l _ (eU ((bF n).trans m) a) ((bF n).trans (m.trans (bF a))) aK
structure Step where
 left:Int
 AP:Option Int
 iq:Str
 br:Int
abbrev hR:= List (List Step)
noncomputable def É:Option Int->ao.V
 |none=>.b3
 |some i=>.int i
noncomputable def tg(s:Step):List ao.V:=[.int s.left,É s.AP,.str s.iq,.int s.br]
noncomputable def Hp(n g st:Addr):List (Str×ao.V):=[("net",.ref n),("goals",.ref g),("steps",.ref st)]
noncomputable def il(H:af)(l:Addr)(b:List Step):Prop:=∃a,H l=some (.lst (aS a))/\eE H a (b.map tg)
structure WalkAt(C:Addr)(H:af)(x n g st:Addr)(dm:cK)(ls:bL)(aY:hR):Prop where
 ins:∃ag,H x=some (.ins C ag (Hp n g st))
 goals:H g=some (.lst (dm.map V.str))
 steps:H st=some (.lst (aS ls))
 each:b2 (il H) ls aY
end
structure tu(K:aN)(C:Addr):Prop where
 cl:dM K C
 nn:cD K (.ref C) "net"=some none
 hM:cD K (.ref C) "goals"=some none
 ns:cD K (.ref C) "steps"=some none
inductive Zm(C:Addr)(vs:aO)(H:af)(Q:a4)(f':bY):Prop where
 |mk(x n g st:Addr)(dm:cK)(ls:bL)(aY:hR)(k:Nat)(y:Str)(_:vs=[.ref x,.int k])(_:WalkAt C H x n g st dm ls aY)(_:dm[k]?=some y)(_:Q (.str y) H)
inductive MM(C:Addr)(vs:aO)(H:af)(Q:a4)(f':bY):Prop where
 |mk(x n g st:Addr)(dm:cK)(ls:bL)(aY:hR)(k:Nat)(ss:List Step)(s:Step)(_:vs=[.ref x,.int k])(_:WalkAt C H x n g st dm ls aY)(_:aY[k]?=some (ss++[s]))(_:Q (.str s.iq) H)
inductive MN(C:Addr)(vs:aO)(H:af)(Q:a4)(f':bY):Prop where
 |mk(x n g st:Addr)(dm:cK)(ls:bL)(aY:hR)(k:Nat)(ss:List Step)(s:Step)(_:vs=[.ref x,.int k])(_:WalkAt C H x n g st dm ls aY)(_:aY[k]?=some (ss++[s]))(_:Q (.int s.br) H)
theorem U4{a:aO}:ao.gT (a++[v]) (-1)=some v:=by
 unfold ao.gT ao.yD;rw[eM,bx (by decide),bS (by show -((a.length+1:Nat):Int)<=-1;omega)];show(a++[v])[((-1:Int)+((a.length+1:Nat):Int)).toNat]?=_;have e:((-1:Int)+((a.length+1:Nat):Int)).toNat=a.length:=by omega
 rw[e];simp
section
variable{P:cx}{w:bf}{K:aN}{mg:cb}{base:Heap}
noncomputable abbrev Hq:Stmt:=fS (top 34) 4
theorem ah9:cI d4 d4 (b5 Hq):={}
theorem Xx{H:af}{st:Addr}{c:bL}{h:hR}{k:Nat}{b:List Step}{s:Step}(W:WalkAt C H x n g st i c h)(e:h[k]?=some (b++[s])):
  ∃l a t,c[k]?=some l/\H l=some (.lst (aS (a++[t])))/\H t=some (.tup (tg s)):=by
 have j:=jy W.each;obtain⟨V,_⟩:=gn.mp e;obtain⟨l,p⟩:∃l,c[k]?=some l:=#[_,dw (by omega)]
 obtain⟨N,o,a,A,m⟩:=b2.get W.each p;rw[e]at o;cases o;have r:=m.len;rw[bP,eM]at r;simp only[gC,vB]at r;obtain⟨t,f⟩:∃t,a[b.length]?=some t:=#[_,dw (by omega)]
 obtain⟨d,cF,L⟩:=b2.get m f;rw[eK,Dz (by rw[bP];omega),bP,Yr]at cF;cases cF;show#[l,a.take b.length,t,p,?_,L];have z:a=a.take b.length++[t]:=by
  have this:=(Yc b.length a).symm;have y:a.drop b.length=[t]:=by rw[adp (by omega:b.length<a.length)];rw[dw (by omega:b.length<a.length)]at f;cases f;rw[List.drop_eq_nil_of_le (by omega)]
  rw[y]at this;exact this
 rw[<-z];exact A
theorem agS{f:Addr}(F:cj K "last_house" "Walk.last_house" Hq f fd)(a:tu K C):aD P w K mg base a3 1 f fd d4 (MM C):=by
 refine F.ok ah9 (λ_ A _ s H vs Q E L h=>?_);obtain⟨x,n,g,st,N,V,z,k,i,e,rfl,W,p,q⟩:=h;obtain⟨b,d⟩:=W.ins;obtain⟨l,y,t,r,m,o⟩:=Xx W p;show#[_,(a7 (cd (b8 eH (b8 eO (b8 eO (d5 (ae 0)) (ae 1)) (N4 M9 aZ)) aZ))),?_]
 try dsimp only[cT,cS]
 have c:ao.gT (aS (y++[t])) (-1)=some (.ref t):=by unfold aS;rw[eK];exact U4
 show#[_,rfl,x,C,b,_,_,rfl,d,a.cl,a.ns,rfl,_,rfl,st,_,_,_,rfl,rfl,aQ.of W.steps,iH (by unfold aS;rw[dV,r];rfl),_,rfl,l,_,_,_,rfl,rfl,aQ.of m,c,t,_,_,_,rfl,rfl,cV.of o,rfl,q]
noncomputable abbrev Hr:Stmt:=fS (top 34) 5
theorem aia:cI d4 d4 (b5 Hr):={}
theorem agT{f:Addr}(F:cj K "last_turn" "Walk.last_turn" Hr f fd)(a:tu K C):aD P w K mg base a3 1 f fd d4 (MN C):=by
 refine F.ok aia (λ_ A _ s H vs Q E L h=>?_);obtain⟨x,n,g,st,N,V,z,k,i,e,rfl,W,p,q⟩:=h;obtain⟨b,d⟩:=W.ins;obtain⟨l,y,t,r,m,o⟩:=Xx W p;show#[_,(a7 (cd (b8 eH (b8 eO (b8 eO (d5 (ae 0)) (ae 1)) (N4 M9 aZ)) aZ))),?_]
 try dsimp only[cT,cS]
 have c:ao.gT (aS (y++[t])) (-1)=some (.ref t):=by unfold aS;rw[eK];exact U4
 show#[_,rfl,x,C,b,_,_,rfl,d,a.cl,a.ns,rfl,_,rfl,st,_,_,_,rfl,rfl,aQ.of W.steps,iH (by unfold aS;rw[dV,r];rfl),_,rfl,l,_,_,_,rfl,rfl,aQ.of m,c,t,_,_,_,rfl,rfl,cV.of o,rfl,q]
noncomputable def Ov(s:Step)(g:Str):ao.V:=if s.iq=g then .int s.br else .b3
inductive Xy(C:Addr)(vs:aO)(H:af)(Q:a4)(f':bY):Prop where
 |mk(x n g st:Addr)(dm:cK)(ls:bL)(aY:hR)(k:Nat)(ss:List Step)(s:Step)(y:Str)(_:vs=[.ref x,.int k])(_:WalkAt C H x n g st dm ls aY)(_:aY[k]?=some (ss++[s]))(_:dm[k]?=some y)(_:Q (Ov s y) H)
noncomputable abbrev HN:Stmt:=fS (top 34) 6
theorem ah0:cI d4 d4 (b5 HN):={}
theorem agU{f:Addr}(F:cj K "home_turn" "Walk.home_turn" HN f fd)(d:tu K C)(N:cH K C "last_house" "Walk.last_house" Hq d4 f1 B)(j:aD P w K mg base a3 1 f1 B d4 (MM C))(L:cH K C "last_turn" "Walk.last_turn" Hr d4 f2 G)(u:aD P w K mg base a3 1 f2 G d4 (MN C)):aD P w K mg base a3 2 f fd d4 (Xy C):=by
 have t:=d.cl;refine F.ok ah0 (λ_ A _ s H vs Q E p h=>?_);obtain⟨x,n,g,st,l,z,o,k,e,m,y,rfl,W,r,D,q⟩:=h;obtain⟨b,c⟩:=W.ins;show#[_,(a6 (d8 (eN zQ (fy (ae 0) t N.dQ j p.mono N.bd .nil b0 (ak (ae 1) aA)) (b8 eO (d5 (ae 0)) (ae 1)) (ek _)) (a7 (cd kT)) ed)
  (a7 (cd (fy (ae 0) t L.dQ u p.mono L.bd .nil b0 (ak (ae 1) aA))))),?_]
 try dsimp only[cT,cS]
 have i:ao.gT (l.map V.str) (k:Int)=some (.str y):=iH (by rw[dV,D];rfl);show#[_,rfl,x,b,_,rfl,c,rfl,_,rfl,x,n,g,st,l,z,o,k,e,m,rfl,W,r,?_];show#[_,rfl,x,C,b,_,_,rfl,c,d.cl,d.hM,rfl,_,rfl,g,_,_,_,rfl,rfl,aQ.of W.goals,i,rfl,_,rfl,?_];unfold Ov at q;by_cases a:m.iq=y
 .rw[bS a]at q;exact dA (by rw[a];simp) #[_,rfl,x,b,_,rfl,c,rfl,_,rfl,x,n,g,st,l,z,o,k,e,m,rfl,W,r,q]
 rw[bx a]at q;exact eQ (by simp[a]) q
noncomputable def rz(d:xW):List ao.V:=[.str d.1,.int d.2.1,.str d.2.2]
noncomputable def CL(d:xW):List Step:=[#[d.2.1,none,d.1,d.2.1]]
inductive ε(C:Addr)(vs:aO)(H:af)(Q:a4)(f':bY):Prop where
 |mk(x ag n ry:Addr)(rs:bL)(ds:AG)(_:vs=[.ref x,.ref n,.ref ry])(_:H x=some (.ins C ag []))(_:H ry=some (.lst (aS rs)))(_:eE H rs (ds.map rz))(_:rs.length<=100)(_:∀(H':af)(g st:Addr)(mL:bL),SameBut x H H'->WalkAt C H' x n g st (ds.map λd=>d.2.2) mL (ds.map CL)->H g=none->H st=none->mL.Nodup->(∀l∈mL,H l=none/\l≠st/\l≠g)->g≠st->Q .b3 H')
noncomputable abbrev IW:Stmt:=fS (top 34) 0
inductive Nw(C:Addr)(vs:aO)(H:af)(Q:a4)(f':bY):Prop where
 |mk(x ag n g st r:Addr)(dm:cK)(ls:bL)(d:xW)(_:vs=[.ref x,.ref r])(_:H x=some (.ins C ag (Hp n g st)))(_:H g=some (.lst (dm.map V.str)))(_:H st=some (.lst (aS ls)))(_:g≠st)(_:H r=some (.tup (rz d)))(_:dm.length<=100)(_:ls.length<=100)(_:∀(H':af)(l t:Addr),(∀b o,b≠g->b≠st->H b=some o->H' b=some o)->H' g=some (.lst ((dm++[d.2.2]).map V.str))->H' st=some (.lst (aS (ls++[l])))->H l=none->H t=none->H' l=some (.lst [.ref t])->H' t=some (.tup (tg ⟨d.2.1,none,d.1,d.2.1⟩))->Q .b3 H')
noncomputable abbrev Dm:Stmt:=fS (top 34) 1
theorem ajC:cI vJ vJ (b5 Dm):={}
theorem ah1{f:Addr}(F:cj K "take_in" "Walk.take_in" Dm f fd)(N:tu K C):aD P w K mg base a3 1 f fd vJ (Nw C):=by
 refine F.ok ajC (λ_ A _ s H vs Q E al h=>?_);obtain⟨x,J,n,g,st,r,c,ls,d,rfl,y,L,D,G,i,A7,gi,q⟩:=h;show#[_,(a6 (hj (oz t_ xO xP uR (d5 (ae 0)) (ak (b8 eH (ae 1) aZ) aA)))
  (a7 (hj (oz t_ xO xP uR (d5 (ae 0)) (ak (g7 (ak (rE (ak (b8 eH (ae 1) aZ) (ak kT (ak (b8 eH (ae 1) aZ) (ak (b8 eH (ae 1) aZ) aA))))) aA)) aA))))),?_]
 try dsimp only[cT,cS]
 have yY:x≠g:=ao.eg y L (by intro z;cases z);have B9:x≠st:=ao.eg y D (by intro z;cases z);have B:r≠g:=ao.eg i L (by intro z;cases z);have X:r≠st:=ao.eg i D (by intro z;cases z);show#[_,rfl,x,C,J,_,_,rfl,y,N.cl,N.hM,rfl,.inl #[rfl,_,aQ.of L],_,rfl,r,_,_,_,rfl,rfl,cV.of i,rfl,g,_,_,rfl,rfl,L,e' (by rw[bP];omega),?_];have O:upd H g (.lst (c.map V.str++[V.str d.2.2])) x=_:=(aJ yY).trans y;have j:upd H g (.lst (c.map V.str++[V.str d.2.2])) st=_:=(aJ G.symm).trans D;have u:upd H g (.lst (c.map V.str++[V.str d.2.2])) r=_:=(aJ B).trans i;show#[_,rfl,x,C,J,_,_,rfl,O,N.cl,N.ns,rfl,.inl #[rfl,_,aQ.of j],?_];show#[_,rfl,r,_,_,_,rfl,rfl,cV.of u,rfl,_,rfl,r,_,_,_,rfl,rfl,cV.of u,rfl,_,rfl,r,_,_,_,rfl,rfl,cV.of u,rfl,(by show 4<=sizeLine;decide),λt a=>#[(by show 1<=sizeLine;decide),λl k=>?_]];have p:∀{b},upd H g (.lst (c.map V.str++[V.str d.2.2])) b=none->H b=none/\b≠g:=λ{b}e=>by
  have M:b≠g:=λz=>by rw[z,aK]at e;cases e
  rw[aJ M]at e;show#[e,M]
 have I:l≠t:=λz=>by rw[z,aK]at k;cases k
 have m:=k;rw[aJ I]at m;have Y:=(bF (o:=.lst [.ref t]) k) _ _ ((bF (o:=.tup (tg #[d.2.1,none,d.1,d.2.1])) a) _ _ j);have Z:t≠st:=λz=>by rw[z,j]at a;cases a
 have rG:l≠st:=λz=>by rw[z,j]at m;cases m
 show#[st,_,_,rfl,rfl,Y,e' (by rw[fo];omega),?_];refine q _ l t (λb o T U e=>?_) ?_ ?_ (p m).1 (p a).1 ?_ ?_
 .have R:upd H g (.lst (c.map V.str++[V.str d.2.2])) b=some o:=by rw[aJ T];exact e
  rw[aJ U];exact(bF k) _ _ ((bF a) _ _ R)
 .rw[aJ G,aJ (p m).2.symm,aJ (p a).2.symm,aK,eK];rfl
 .rw[aK,yP]
 .rw[aJ rG,aK]
 rw[aJ Z,aJ I.symm,aK];rfl
theorem ζ:cI ["self","net","letters","letter"] DI (b5 IW):={}
theorem ajD{f:Addr}(F:cj K "__init__" "Walk.__init__" IW f fd)(N:tu K C)(q0:cH K C "take_in" "Walk.take_in" Dm vJ f1 c2)(SA:aD P w K mg base a3 1 f1 c2 vJ (Nw C)):aD P w K mg base a3 2 f fd DI (ε C):=by
 have jF:=N.cl;refine F.ok ζ (λ_ A _ s H vs Q E al h=>?_);obtain⟨x,L,n,ry,rs,ds,rfl,ar,O,bQ,c3,q⟩:=h;show#[_,(a6 (h5 (ae 0) (ae 1) rfl)
  (a6 (h5 (ae 0) (g7 aA) rfl)
  (a6 (h5 (ae 0) (g7 aA) rfl)
  (a7 (lD lW rfl (jE (ae 2)) (fG 3 ζ.aI)
   (a7 (hj (fy (ae 0) jF q0.dQ SA al.mono q0.bd .nil b0 (ak (ae 3) aA))))))))),?_]
 try dsimp only[cT,cS]
 show#[_,rfl,_,rfl,x,C,L,_,rfl,ar,N.cl,N.nn,(by show 0<1000;decide),?_];have KW:ry≠x:=ao.eg O ar (by intro z;cases z);show#[(by show 0<=sizeLine;decide),λg hM=>?_];have yY:g≠x:=λz=>by rw[z,aK]at hM;cases hM
 have R:=hM;rw[aJ yY]at R;show#[_,rfl,x,C,L,_,rfl,(by rw[aJ yY.symm,aK]),N.cl,N.hM,(by show 1<1000;decide),(by show 0<=sizeLine;decide),λst k=>?_];have M:st≠x:=λz=>by rw[z,aK]at k;cases k
 rw[aJ M]at k;have K2:st≠g:=λz=>by rw[z,aK]at k;cases k
 rw[aJ K2,aJ M]at k;show#[_,rfl,x,C,L,_,rfl,(by rw[aJ M.symm,aK]),N.cl,N.ns,(by show 2<1000;decide),?_];show#[_,rfl,ry,rfl,#[_,aQ.of (xs:=aS rs) ?_],?_]
 .rw[aJ KW,aJ (b1 O k),aJ KW,aJ (b1 O R),aJ KW];exact O
 have aqv:=fo rs;have aqo:rs.length=ds.length:=by have:=jy bQ;rw[bP]at this;exact this
 refine qa (K:=K) (a:=ry) (xs:=aS rs) (λj U c=>∃lj m,U=[some (.ref x),some (.ref n),some (.ref ry),lj]/\(∀b o,b≠x->H b=some o->c b=some o)/\c x=some (.ins C L (Hp n g st))/\c g=some (.lst (((ds.take j).map λd=>d.2.2).map V.str))/\c st=some (.lst (aS m))/\b2 (il c) m ((ds.take j).map CL)/\m.Nodup/\(∀l∈m,H l=none/\l≠st/\l≠g))
  #[none,[],rfl,λb o u e=>?_,aK,?_,?_,.nil,sd,λl X=>bG X e3] (λj U c _⟨_,_,_,h,_⟩=>aQ.of (h _ _ KW O)) ?_ ?_
 .rw[aJ u,aJ (b1 e k),aJ u,aJ (b1 e R),aJ u];exact e
 .rw[aJ yY,aJ K2.symm,aJ yY,aK];rfl
 .rw[aJ M,aK];rfl
 .rintro j z U c fQ ⟨lj,m,rfl,Y,I,B,J,D,aI,fr⟩;unfold aS at fQ;rw[dV]at fQ;obtain⟨r,gW,rfl⟩:=gS.mp fQ;obtain⟨y,eI,b6⟩:=b2.get bQ gW;rw[dV]at eI;obtain⟨d,cF,rfl⟩:=gS.mp eI;have axL:=(gn.mp cF).1;have aqs:=jy D;rw[bP,ll]at aqs;have bC:ds.take (j+1)=ds.take j++[d]:=by rw[pO,cF];rfl
  show#[_,rfl,x,L,_,rfl,I,rfl,_,rfl,x,L,n,g,st,r,_,m,d,rfl,I,B,J,K2.symm,Y _ _ (ao.eg b6 ar (by intro z;cases z)) b6,(by rw[bP,ll];omega),(by omega),?_];intro H' l t cL ao9 uL G ec apm apV;have aqW:∀{o},c l=some o->False:=λ{o}e=>by rw[G]at e;cases e
  have Z:∀{b},c b=none->H b=none:=λ{b}e=>by
   by_cases T:b=x
   .rw[T,I]at e;cases e
   cases aF:H b with
   |none=>rfl
   |some o=>rw[Y _ _ T aF]at e;cases e
  show#[_,m++[l],rfl,λb o u e=>?_,cL _ _ yY.symm M.symm I,?_,uL,?_,?_,?_]
  .exact cL _ _ (λz=>by rw[z,R]at e;cases e) (λz=>by rw[z,k]at e;cases e) (Y _ _ u e)
  .rw[ao9,bC];simp only[eK,jd,Iy]
  .rw[bC,eK];refine Paired.snoc #[[t],apm,.cons apV .nil] ?_;have go:∀{ms:bL}{zl:hR},b2 (il c) ms zl->(∀l∈ms,l≠st/\l≠g)->b2 (il H') ms zl:=λ{ms zl}p=>by
    induction p with
    |nil=>exactλ_=>.nil
    |cons r t a8=>
     refineλh=>.cons ?_ (a8 λl X=>h l (.tail _ X))
     obtain⟨ts,ah,aj⟩:=r;show#[ts,cL _ _ (h _ (.head _)).2 (h _ (.head _)).1 ah,b2.fT aj λa b e=>cL _ _ (ao.eg e B (by intro z;cases z)) (ao.eg e J (by intro z;cases z)) e]
   exact go D λl X=>(fr l X).2
  .rw[vE];show#[aI,jw.mpr #[e3,sd],λa az b T=>?_];rw[gp]at T;subst T;rintro rfl;obtain⟨i,hi,e⟩:=xD az;obtain⟨_,_,ts,ah,_⟩:=b2.get D (gn.mpr #[hi,e]);exact aqW ah
  intro dG j4;rw[hy,gp]at j4;rcases j4 with h|rfl
  .exact fr _ h
  show#[Z G,λz=>(by rw[z]at G;rw[G]at J;cases J),λz=>(by rw[z]at G;rw[G]at B;cases B)]
 rintro U c ⟨lj,m,rfl,Y,I,B,J,D,aI,fr⟩;rw[aqv,aqo,n4]at B D;exact q c g st m (λb o u e=>Y b o u e) #[#[L,I],B,J,D] R k aI fr K2.symm
noncomputable abbrev kG:=Int×Nat
abbrev vU:= List (kG×List Nat)
noncomputable def td:cw.fD:=#[0,0,0,0]
noncomputable def Θ(a:bt)(ds:cC)(r:Nat):Str:=S (a.getD (ds.getD r td).a [])
noncomputable def Ar(a:bt)(ds:cC)(r:Nat):Str:=S (a.getD (ds.getD r td).b [])
noncomputable def zc(ds:cC)(r:Nat):Int:=(ds.getD r td).t
noncomputable def wU(ds:cC)(r:Nat):Int:=(ds.getD r td).m
noncomputable def stepK(a:bt)(ds:cC)(k:kG):Step:=#[k.1,some k.2,Ar a ds k.2,k.1+zc ds k.2]
noncomputable def oA(st:Step)(c:b7)(b:hR):List (List Step):=b.mapIdx λi a=>if i∈c then a++[st]else a
theorem U5(st:Step)(b:b7)(a:hR):(oA st b a).length=a.length:=by unfold oA;rw[List.length_mapIdx]
theorem F3(st:Step)(b:b7)(a:hR)(i:Nat):(oA st b a)[i]?=(a[i]?).map λc=>if i∈b then c++[st]else c:=by unfold oA;rw[List.getElem?_mapIdx]
theorem aeQ(st:Step)(a:hR):oA st [] a=a:=by apply X4;intro i;rw[F3];simp
end
theorem ac0(st:Step){a:b7}{n:Nat}(h:n∉a){b:hR}{d:List Step}(e:b[n]?=some d):oA st (a++[n]) b=(oA st a b).set n (d++[st]):=by
 apply X4;intro i;rw[F3,List.getElem?_set,F3,U5];by_cases c:n=i
 .subst c;have f:=(gn.mp e).1;rw[bS rfl,bS f,e];simp
 rw[bx c];have:(i∈a++[n])↔i∈a:=by rw[hy,gp];show#[λz=>z.elim id λw=>bG w.symm c,.inl]
 simp only[this]
noncomputable def mask(H:af)(a:bL):af:=λb=>if b∈a then none else H b
theorem ov{H:af}{a:bL}{b:Addr}(e:H b=some o)(n:b∉a):mask H a b=some o:=by unfold mask;rw[bx n];exact e
theorem MO{a:bL}{b:Addr}(h:b∈a):mask H a b=none:=bS h
theorem F4(H:af)(a:bL):aB (mask H a) H:=λb o e=>by
 unfold mask at e;split at e
 .cases e
 exact e
noncomputable def nI(H:af)(a:Addr)(b:kG×List Nat):Prop:=∃c,H a=some (.tup [.int b.1.1,.int b.1.2,.ref c])/\H c=some (.tup (b.2.map λn:Nat=>V.int n))
theorem nI.same{b:kG×List Nat}(h:nI H a b)(d:aB H H'):nI H' a b:=let⟨c,f,g⟩:=h;#[c,d _ _ f,d _ _ g]
structure Im(C:Addr)(H:af)(x n g st:Addr)(dm:cK)(ls:bL):Prop where
 ins:∃ag,H x=some (.ins C ag (Hp n g st))
 goals:H g=some (.lst (dm.map V.str))
 steps:H st=some (.lst (aS ls))
theorem Im.same{st:Addr}(h:Im C H x n g st i ls)(a:aB H H'):Im C H' x n g st i ls:=
 let⟨b,e⟩:=h.ins;#[#[b,a _ _ e],a _ _ h.goals,a _ _ h.steps]
theorem il.same{d:List Step}(h:il H l d)(c:aB H H'):il H' l d:=let⟨f,a,b⟩:=h;#[f,c _ _ a,b.same c]
theorem Wi(h:b2 (il H) ls aY)(a:aB H H'):b2 (il H') ls aY:=b2.fT h λ_ _ e=>e.same a
theorem WalkAt.same{st:Addr}(h:WalkAt C H x n g st i ls aY)(a:aB H H'):WalkAt C H' x n g st i ls aY:=
 let⟨b,e⟩:=h.ins;#[#[b,a _ _ e],a _ _ h.goals,a _ _ h.steps,Wi h.each a]
theorem WZ{o:List Step}(d:il H' l o)(c:∀k y,k≠l->il H k y->il H' k y):∀{b:bL}{f:hR}{n:Nat},b2 (il H) b f->b.Nodup->b[n]?=some l->b2 (il H') b (f.set n o)
 |_,_,n,.nil,_,e=>by simp at e
 |a::b,s0::f,0,.cons r t,aI,e=>by
  simp only[ads,aeY]at e;subst e;rw[jw]at aI;refine .cons d ?_;have:∀{g:bL}{m:hR},b2 (il H) g m->a∉g->b2 (il H') g m:=λ{g m}p=>by
   induction p with
   |nil=>exactλ_=>.nil
   |cons r t i=>exactλh=>.cons (c _ _ (λz=>h (by rw[z];exact .head _)) r) (i λz=>h (.tail _ z))
  exact this t aI.1
 |a::b,s0::f,n+1,.cons r t,aI,e=>by
  rw[jw]at aI;have w:b[n]?=some l:=by simpa using e
  exact .cons (c _ _ (λz=>aI.1 (by rw[z];exact fC w)) r) (WZ d c t aI.2 w)
section
variable{P:cx}{w:bf}{K:aN}{mg:cb}{base:Heap}
inductive MP(C:Addr)(vs:aO)(H:af)(Q:a4)(f':bY):Prop where
 |mk(x a' b':Addr)(xs ys:aO)(k:Int)(v:ao.V)(_:vs=[.ref x,.int k])(_:hL C H x a' b' xs ys)(_:0<=k)(_:k<ys.length)(_:ao.gT ys k=some v)(_:Q v H)
theorem agV{f:Addr}(F:cj K "road" "Net.road" zu f fd)(B:ft mg)(a:tU K C):aD P w K mg base a3 1 f fd d4 (MP C):=by
 refine F.ok XM (λ_ A _ s H vs Q E p h=>?_);obtain⟨x,o,d,r,t,k,v,rfl,n,l,g,m,q⟩:=h;obtain⟨b,c⟩:=n.ins;show#[_,(a6 (d8 (j0 (Gd rK zR aZ (ae 1) (eD kN B.len jI (ak (d5 (ae 0)) aA)))) (a7 uO) ed)
  (a7 (cd (b8 eO (d5 (ae 0)) (ae 1))))),?_]
 try dsimp only[cT,cS]
 show#[_,rfl,_,_,rfl,rfl,_,rfl,?_];refine eQ (cE l) #[_,rfl,x,C,b,_,_,rfl,c,a.cl,a.iP,rfl,d,_,rfl,.inl (aQ.of n.ky),_,_,rfl,rfl,_,rfl,?_];refine C' g ?_;show#[_,rfl,x,C,b,_,_,rfl,c,a.cl,a.iP,rfl,_,rfl,d,_,_,_,rfl,rfl,aQ.of n.ky,m,q]
inductive Zw(C aq:Addr)(vs:aO)(H:af)(Q:a4)(f':bY):Prop where
 |mk(bD:af)(x n g st a' b' qT:Addr)(dm:cK)(ls rs:bL)(aY:hR)(hs:bt)(ds:cC)(b:kG×List Nat)(_:vs=[.ref x,.ref qT])(_:aB bD H)(_:Im C bD x n g st dm ls)(_:b2 (il H) ls aY)(_:ls.Nodup)(_:(∀l∈ls,bD l=none))(_:hL aq bD n a' b' (cN hs) (aS rs))(_:gs bD hs rs ds)(_:nI bD qT b)(_:b.1.2<ds.length)(_:b.2.Nodup)(_:(∀i∈b.2,i<aY.length))(_:(∀ss∈aY,ss.length<=100))(_:∀H',aB bD H'->b2 (il H') ls (oA (stepK hs ds b.1) b.2 aY)->Q .b3 H')
noncomputable abbrev Io:Stmt:=fS (top 34) 2
theorem Nx:cI ["self","bag","road","number"] DM (b5 Io):={}
theorem ah2{f:Addr}(F:cj K "send" "Walk.send" Io f fd)(G:tu K C)(gu:dM K Y)(mB:cH K Y "road" "Net.road" zu d4 f1 c2)(Fu:aD P w K mg base a3 1 f1 c2 d4 (MP Y)):
  aD P w K mg base a3 2 f fd DM (Zw C Y):=by
 refine F.ok Nx (λ_ A _ s H vs Q E al h=>?_);obtain⟨bD,x,n,g,st,a',b',e,dm,ls,rs,O,p,ds,b,rfl,k,W,B,aI,fr,N,R,X,Kg,ŗ,dy,c3,q⟩:=h;obtain⟨ag,ar⟩:=W.ins;obtain⟨eV,aM⟩:=N.ins;obtain⟨c,rl,kq⟩:=X;have f9:=R.len;show#[_,(a6 (dO 2 Nx.aI (fy (d5 (ae 0)) gu mB.dQ Fu al.mono mB.bd .nil b0 (ak (b8 eH (ae 1) aZ) aA)))
  (a7 (lD lW rfl (YC (b8 eH (ae 1) aZ)) (fG 3 Nx.aI)
   (a7 (hj (oz t_ xO xP uR (b8 eO (d5 (ae 0)) (ae 3)) (ak (rE (ak (b8 eH (ae 1) aZ) (ak (b8 eH (ae 1) aZ) (ak (b8 eH (ae 2) aZ) (ak (bO jj (b8 eH (ae 1) aZ) (b8 eH (ae 2) aZ)) aA))))) aA))))))),?_]
 try dsimp only[cT,cS]
 obtain⟨r,gW⟩:∃r,rs[b.1.2]?=some r:=#[_,dw (by omega)]
 obtain⟨d,cF,_,hd⟩:=R.get gW;have dg:ds.getD b.1.2 td=d:=zE cF;show#[_,rfl,x,C,ag,_,_,rfl,k _ _ ar,G.cl,G.nn,rfl,n,eV,_,rfl,k _ _ aM,rfl,_,rfl,e,_,_,_,rfl,rfl,cV.of (k _ _ rl),rfl,n,a',b',_,_,_,_,rfl,N.same k,(by omega),(by have:=fo rs;omega),(iH (by unfold aS;rw[dV,gW];rfl)),?_];show#[_,rfl,e,_,_,_,rfl,rfl,cV.of (k _ _ rl),rfl,c,rfl,?_];show#[#[_,cV.of (k _ _ kq)],?_];have T:gY p d=[.str (Θ p ds b.1.2),.str (Ar p ds b.1.2),.int (zc ds b.1.2),.int (wU ds b.1.2)]:=by unfold gY Θ Ar zc wU;rw[dg]
 rw[T]at hd;refine ahb (K:=K) (a:=c) (xs:=b.2.map λn:Nat=>V.int n) (λj U y=>∃lj,U=[some (.ref x),some (.ref e),some (.ref r),lj]/\aB bD y/\b2 (il y) ls (oA (stepK p ds b.1) (b.2.take j) O))
  #[none,rfl,k,by rw[Ye,aeQ];exact B] (λj U y _⟨_,_,h,_⟩=>cV.of (h _ _ kq)) ?_ ?_
 .rintro j z U y fQ ⟨lj,rfl,m,L⟩;rw[dV]at fQ;obtain⟨i,D,rfl⟩:=gS.mp fQ;have hi:=dy i (fC D);obtain⟨J,es⟩:∃J,O[i]?=some J:=#[_,dw hi]
  have ŝ:i∉b.2.take j:=λz=>by
   have bX:=(gn.mp D).1;have aF:=Yc j b.2;rw[adp bX]at aF;rw[<-aF,vE]at ŗ;have c6:b.2[j]=i:=by rw[dw bX]at D;exact hI D
   exact ŗ.2.2 i z i (by rw[c6];exact .head _) rfl
  have ga:(oA (stepK p ds b.1) (b.2.take j) O)[i]?=some J:=by rw[F3,es];simp[ŝ]
  have ln:=jy L;obtain⟨l,I⟩:∃l,ls[i]?=some l:=#[_,dw (by rw[U5]at ln;omega)]
  obtain⟨asf,yf,ts,Z,bQ⟩:=b2.get L I;rw[ga]at yf;cases yf;have M:=cV.of (K:=K) (m _ _ rl);have ď:=cV.of (K:=K) (m _ _ hd);have d_:=bQ.len;rw[bP]at d_;have fs:=c3 J (fC es);have gi:(aS ts).length<sizeLine:=e' (by rw[fo];omega);show#[_,rfl,x,C,ag,_,_,rfl,m _ _ ar,G.cl,G.ns,rfl,_,rfl,st,_,_,_,rfl,rfl,aQ.of (m _ _ W.steps),(show ao.gT (aS ls) (i:Int)=some (.ref l)from iH (by unfold aS;rw[dV,I];rfl)),.inl #[rfl,_,aQ.of Z],?_];show#[_,rfl,e,_,_,_,rfl,rfl,M,rfl,_,rfl,e,_,_,_,rfl,rfl,M,rfl,_,rfl,r,_,_,_,rfl,rfl,ď,rfl,_,rfl,e,_,_,_,rfl,rfl,M,rfl,_,rfl,r,_,_,_,rfl,rfl,ď,rfl,_,_,rfl,rfl,(by show 4<=sizeLine;decide),λt ec=>?_];have u:=bF (o:=.tup [V.int b.1.1,V.int b.1.2,V.str (Ar p ds b.1.2),V.int (b.1.1+zc ds b.1.2)]) ec;have j4:=u _ _ Z;show#[l,_,_,rfl,rfl,j4,gi,_,rfl,?_,?_]
  .exact gJ (fr l (fC I)) (m.trans u)
  have bC:b.2.take (j+1)=b.2.take j++[i]:=by rw[pO,D];rfl
  rw[bC,ac0 _ ŝ es];refine WZ ?_ (λmK LF nl h=>?_) L aI I
  .show#[ts++[t],by rw[aK];unfold aS;rw[eK];rfl,?_];rw[eK];refine Paired.snoc ?_ ((bQ.same u).upd j4 (by intro d z;cases z));show upd _ l _ t=some (.tup (tg (stepK p ds b.1)));rw[aJ (b1 Z ec).symm,aK];rfl
  obtain⟨iS,ah,aj⟩:=h;show#[iS,by rw[aJ nl];exact u _ _ ah,(aj.same u).upd j4 (by intro d z;cases z)]
 rintro U y ⟨lj,rfl,m,L⟩;refine q y m ?_;rw[bP,n4]at L;exact L
noncomputable abbrev Ip:Stmt:=fS (top 34) 3
theorem ajE:cI d4 d4 (b5 Ip):={}
theorem ah3{f:Addr}(F:cj K "goal" "Walk.goal" Ip f fd)(a:tu K C):aD P w K mg base a3 1 f fd d4 (Zm C):=by
 refine F.ok ajE (λ_ A _ s H vs Q E m h=>?_);obtain⟨x,n,g,st,o,p,l,k,y,rfl,W,d,q⟩:=h;obtain⟨b,c⟩:=W.ins;show#[_,(a7 (cd (b8 eO (d5 (ae 0)) (ae 1)))),?_]
 try dsimp only[cT,cS]
 show#[_,rfl,x,C,b,_,_,rfl,c,a.cl,a.hM,rfl,_,rfl,g,_,_,_,rfl,rfl,aQ.of W.goals,iH (by rw[dV,d];rfl),q]
noncomputable def l_(c:Int×Nat):List ao.V:=[.int c.1,.int (c.2:Int)]
noncomputable def y7(c:Int×Nat):List bq:=[.inl c.1,.inl (c.2:Int)]
theorem agW(a:List (Int×Nat)):∀d∈a.map y7,lH d=true::[true]:=λd b=>by obtain⟨r,_,rfl⟩:=cm.mp b;rfl
noncomputable def ow(a:List (Int×Nat)):List (Int×Nat):=(rM (o_ (a.map y7)) a.length).map λi=>a.getD i (0,0)
theorem La(a:List (Int×Nat)):(ow a).Perm a:=by unfold ow;refine((Uw _ _).map _).trans ?_;rw[show(eB a.length).map (λi=>a.getD i (0,0))=a from ?_];refine Dx (by simp) λi c b=>?_;rw[xC,Iv,ea,dw b];rfl
theorem abc{H:af}:∀{f:bL}{b:List (Int×Nat)},eE H f (b.map l_)->b2 (λr d=>H r=some (.tup (d.map dq))) f (b.map y7)
 |_,[],h=>by cases h;exact .nil
 |_,c::b,h=>by cases h with|cons a t=>exact .cons a (abc t)
theorem aeR{a:List (Int×Nat)}(h:eE H e (a.map l_)):∃b,hV V.b3 (o_ (a.map y7)) (aS e)=aS b/\eE H b ((ow a).map l_):=by
 have k:(aS e).length=a.length:=by have:=h.len;rw[bP]at this;rw[fo,this]
 unfold hV ow;rw[k];have all:∀c:List Nat,(∀i∈c,i<a.length)->∃b,(c.map λi=>(aS e).getD i .b3)=aS b/\eE H b ((c.map λi=>a.getD i (0,0)).map l_):=λc=>by
  induction c with
  |nil=>intro _;show#[[],rfl,.nil]
  |cons i q s=>
   intro d;obtain⟨b,o,m⟩:=s λj r=>d j (.tail _ r);have l:=d i (.head _);have n:i<e.length:=by rw[fo]at k;omega
   have f:e[i]?=some e[i]:=dw n;obtain⟨y,g,p⟩:=b2.get h f;rw[dV,dw l]at g;cases g;show#[e[i]::b,?_,.cons ?_ m]
   .rw[jd,o];show(aS e).getD i .b3::aS b=V.ref e[i]::aS b;congr 1;show((aS e)[i]?).getD .b3=_;unfold aS;rw[dV,f];rfl
   show H e[i]=some (gQ.tup (l_ (a.getD i (0,0))));rw[show a.getD i (0,0)=a[i] by rw[ea,dw l];rfl];exact p
 exact all _ λi d=>LR d
noncomputable def mb(a:b7):List Int:=a.map λn:Nat=>(n:Int)
noncomputable def kX(a:b7):List Nat:=(sortI (mb a)).map H8
theorem ah4{a:b7}(b:a.Nodup):(mb a).Nodup:=DB.mpr (b.imp λh z=>h (by omega))
theorem Mf(a:b7):mb (kX a)=sortI (mb a):=by
 unfold kX mb;rw[hc];have:∀x∈sortI (a.map λn:Nat=>(n:Int)),((λn:Nat=>(n:Int))∘H8) x=x:=λx b=>by obtain⟨n,_,rfl⟩:=cm.mp ((sortI_perm _).mem_iff.mp b);rfl
 rw[t4 this,X8]
theorem FO(a:b7):(kX a).Perm a:=by
 have h:=(sortI_perm (mb a)).map H8;have e:(mb a).map H8=a:=by unfold mb;rw[hc];have:∀x∈a,(H8∘λn:Nat=>(n:Int)) x=x:=λx _=>mZ x;rw[t4 this,X8]
 rw[e]at h;exact h
theorem agX{a:b7}(b:a.Nodup):(kX a).Pairwise (· < ·):=by have h:=agM (ah4 b);rw[<-Mf]at h;unfold mb at h;exact(DB.mp h).imp λz=>by omega
noncomputable def IX(room:Int)(q:List (Int×Nat)):List Nat:=kX (((ow q).take room.toNat).map (·.2))
noncomputable def nt(E:List (Nat×Addr)):List (bq×ao.V):=E.map λe=>(fV (e.1:Int),.ref e.2)
structure qK(iC H:af)(p:Addr)(E:List (Nat×Addr))(q:Nat->List (Int×Nat)):Prop where
 tab:H p=some (.cv (nt E))
 wF:(E.map (·.1)).Nodup
 na:(E.map (·.2)).Nodup
 each:∀e∈E,iC e.2=none/\e.2≠p/\∃ts,H e.2=some (.lst (aS ts))/\eE H ts ((q e.1).map l_)
theorem qK.same{E:List (Nat×Addr)}{q:Nat->List (Int×Nat)}(h:qK i H p E q)(f:aB H H'):qK i H' p E q:=
 #[f _ _ h.tab,h.wF,h.na,λe g=>let⟨a,b,k,c,d⟩:=h.each e g;#[a,b,k,f _ _ c,d.same f]]
theorem L3:∀{E:List (Nat×Addr)},(E.map (·.1)).Nodup->∀{r:Nat}{l:Addr},(r,l)∈E->dk (nt E) (fV (r:Int):bq)=some (.ref l)
 |[],_,_,_,h=>nomatch h
 | (r0,qe)::E,aI,r,l,h=>by
  rw[jd,jw]at aI;rcases dr.mp h with e|e
  .cases e;exact od rfl
  show dk ((fV (r0:Int),V.ref qe)::nt E) _=_;rw[nx (λz=>aI.1 (by
   have a:(r0:Int)=(r:Int):=D8 z;have:r0=r:=by omega
   rw[this];exact cm.mpr #[_,e,rfl]))]
  exact L3 aI.2 e
theorem MQ:∀{E:List (Nat×Addr)}{r:Nat},r∉E.map (·.1)->dk (nt E) (fV (r:Int):bq)=none
 |[],_,_=>rfl
 | (r0,qe)::E,r,h=>by
  show dk ((fV (r0:Int),V.ref qe)::nt E) _=_;rw[nx (λz=>h (by
   have a:(r0:Int)=(r:Int):=D8 z;have:r0=r:=by omega
   rw[this];exact .head _))]
  exact MQ λz=>h (.tail _ z)
end
theorem qK.new{k H:af}{E:List (Nat×Addr)}{q:Nat->List (Int×Nat)}(h:qK k H p E q){r:Nat}(l:r∉E.map (·.1))(y:q r=[])(w:k i=none)(f:H i=some (.lst []))(n:∀e∈E,e.2≠i):
  qK k (upd H p (.cv (fw (nt E) (fV (r:Int)) (.ref i)))) p (E++[(r,i)]) q:=by
 have m:i≠p:=λz=>by rw[z,h.tab]at f;cases f
 show#[?_,?_,?_,λe g=>?_]
 .rw[aK,Ca _ (MQ l)];unfold nt;rw[eK];rfl
 .rw[eK];exact aa4 h.wF l
 .rw[eK];refine aa4 h.na λz=>?_;obtain⟨e,g,o⟩:=cm.mp z;exact n e g o
 rcases hy.mp g with z|z
 .obtain⟨a,b,t,c,d⟩:=h.each e z;show#[a,b,t,by rw[aJ b];exact c,d.upd h.tab (by intro d z;cases z)]
 rw[gp.mp z];show#[w,m,[],by rw[aJ m];exact f,?_];show eE _ [] ((q r).map l_);rw[y];exact .nil
theorem qK.add{K H:af}{t:Addr}{E:List (Nat×Addr)}{q:Nat->List (Int×Nat)}{ts:bL}(h:qK K H p E q){r:Nat}(o:(r,l)∈E){c:Int×Nat}(N:H l=some (.lst (aS ts)))(u:eE H ts ((q r).map l_))(x:H t=some (.tup (l_ c)))(I:K t=none):
  qK K (upd H l (.lst (aS ts++[V.ref t]))) p E (λs=>if s=r then q r++[c]else q s):=by
 obtain⟨G,L,_⟩:=h.each _ o;have L:l≠p:=L;have m:∀e∈E,e.2=l->e=(r,l):=λe g z=>by
  obtain⟨i,A,k⟩:=xD g;obtain⟨j,w,f⟩:=xD o;have n:(E.map (·.2))[i]'(by rw[bP];exact A)=(E.map (·.2))[j]'(by rw[bP];exact w):=by rw[xC,xC,k,f,z]
  have:=(DA h.na).mp n;subst this;rw[<-k,f]
 show#[by rw[aJ (dY L)];exact h.tab,h.wF,h.na,λe g=>?_];obtain⟨a,b,C,D,d⟩:=h.each e g;show#[a,b,?_];by_cases z:e.2=l
 .obtain rfl:=m e g z;show#[ts++[t],by rw[aK,yP],?_];show eE _ _ ((if r=r then q r++[c]else q r).map l_);rw[bS rfl,eK];exact eE.upd (Paired.snoc (F:=λr d=>H r=some (.tup d)) x u) N (by intro d z;cases z)
 show#[C,by rw[aJ z];exact D,?_];have B:e.1≠r:=λy=>z (by
  obtain⟨i,A,k⟩:=xD g;obtain⟨j,w,f⟩:=xD o;have n:(E.map (·.1))[i]'(by rw[bP];exact A)=(E.map (·.1))[j]'(by rw[bP];exact w):=by rw[xC,xC,k,f,y]
  have:=(DA h.wF).mp n;subst this;rw[<-k,f])
 show eE _ _ ((if e.1=r then q r++[c]else q e.1).map l_);rw[bx B];exact d.upd N (by intro d z;cases z)
noncomputable def f7(a:Nat->Int)(b:Nat->Nat)(T:Int)(c:b7)(r:Nat):List (Int×Nat):=(c.filter λn=>decide (a n<=T)&&decide (b n=r)).map λn=>(a n,n)
theorem Zx{a:Nat->Int}{b:Nat->Nat}{T:Int}{c:b7}{n:Nat}(h:¬a n<=T):f7 a b T (c++[n])=f7 a b T c:=by funext r;unfold f7;rw[qF,eK];simp[tZ,h]
theorem Mg{b:Nat->Int}{a:Nat->Nat}{T:Int}{c:b7}{n:Nat}(h:b n<=T):f7 b a T (c++[n])=λd=>if d=a n then f7 b a T c (a n)++[(b n,n)]else f7 b a T c d:=by
 funext r;unfold f7;rw[qF,eK];by_cases e:r=a n
 .subst e;simp[tZ,h]
 simp[tZ,h,e,dY e]
theorem XV(c:Nat->Int)(b:Nat->Nat)(T:Int)(a:b7)(r:Nat):(f7 c b T a r).length<=a.length:=by unfold f7;rw[bP];exact m4 _ _
noncomputable def ajF(b:bt)(a:gm)(g:cK)(c:hR)(f:Nat->Int)(d:Nat->Nat)(n:Nat):Prop:=∃(h:List Step)(s:Step)(y:Str),c[n]?=some (h++[s])/\s.br=f n/\g[n]?=some y/\s.iq∈b.map S/\y∈b.map S/\s.iq≠y/\dk a (f6 s.iq y)=some (.int (d n:Int))
noncomputable def iO(a:b7):List ao.V:=a.map λn:Nat=>V.int (n:Int)
noncomputable def aiu(b:bt)(a:gm)(f:cK)(c:hR)(d:Nat->Int)(n:Nat):Prop:=∃(g:List Step)(s:Step)(y:Str),c[n]?=some (g++[s])/\s.br=d n/\f[n]?=some y/\s.iq∈b.map S/\y∈b.map S/\s.iq≠y/\dk a (f6 s.iq y)=none
noncomputable def MR(g:Nat->Bool)(f:bt)(a:gm)(d:cK)(b:hR)(c:Nat->Int)(h:Nat->Nat)(n:Nat):Prop:=(g n=true/\ajF f a d b c h n)\/(g n=false/\aiu f a d b c n)
inductive Ι(K:aN)(C aw aq:Addr)(vs:aO)(H:af)(Q:a4)(f':bY):Prop where
 |mk(x n g st gl y eR t a' b':Addr)(dm:cK)(ls:bL)(aY:hR)(hs:bt)(ys:aO)(kvs:gm)(go:b7)(hw:Nat->Bool)(br:Nat->Int)(a_:Nat->Nat)(T:Int)(_:vs=[.ref x,.ref gl,.ref y,.int T])(_:WalkAt C H x n g st dm ls aY)(_:aQ K H gl (iO go))(_:rF aw aq H y eR t a' b' (cN hs) ys kvs)(_:Good hs)(_:go.length<=100)(_:(∀k∈go,MR hw hs kvs dm aY br a_ k))(_:∀(p:Addr)(H':af)(E:List (Nat×Addr)),H p=none->aB H H'->qK H H' p E (f7 br a_ T (go.filter hw))->(∀r,r∈E.map (·.1)↔f7 br a_ T (go.filter hw) r≠[])->Q (.ref p) H')
section
variable{P:cx}{w:bf}{K:aN}{mg:cb}{base:Heap}
noncomputable abbrev Lw:Stmt:=top 42
theorem Eg:cI ["walk","going","ways","turn","queues","number","came","road"] DF (b5 Lw):={}
inductive am0(x gl y p:Addr)(T:Int)(br:Nat->Int)(a_:Nat->Nat)(go:b7)(hw:Nat->Bool)(H:af)(i:Nat)(U:ao.St)(dC:af):Prop where
 |mk(E:List (Nat×Addr))(v1 v2 lj:lY)(_:U=[some (.ref x),some (.ref gl),some (.ref y),some (.int T),some (.ref p),v1,v2,lj])(_:aB H dC)(_:qK H dC p E (f7 br a_ T ((go.take i).filter hw)))(_:∀r,r∈E.map (·.1)↔f7 br a_ T ((go.take i).filter hw) r≠[])(_:E.length<=i)
theorem aly{f:Addr}(F:cj K "queues_at" "queues_at" Lw f fd)(dH:tu K C)(uf:w' K aw)(qO:cH K C "last_turn" "Walk.last_turn" Hr d4 f1 c2)(RT:aD P w K mg base a3 1 f1 c2 d4 (MN C))(qQ:cH K C "last_house" "Walk.last_house" Hq d4 f2 eW)(RO:aD P w K mg base a3 1 f2 eW d4 (MM C))(yG:cH K C "goal" "Walk.goal" Ip d4 cP jZ)(ab0:aD P w K mg base a3 1 cP jZ d4 (Zm C))(yF:cH K aw "way" "Ways.way" Lz iU f4 yj)(Uy:aD P w K mg base (fg P w) 3 f4 yj iU (ρ aw aq fh)):
  aD P w K mg base a3 4 f fd DF (Ι K C aw aq):=by
 have jF:=dH.cl;have kQ:=uf.cl;refine F.ok Eg (λ_ A _ s H vs Q E M h=>?_);obtain⟨x,n,g,st,gl,y,eR,t,a',b',dm,ls,aY,hs,ys,kvs,L,I,J,a,T,rfl,W,Ka,xY,G,c3,ok,q⟩:=h;obtain⟨ag,ar⟩:=W.ins;obtain⟨bh,b6⟩:=xY.ins;show#[_,(a6 (dO 4 Eg.aI VD)
  (a6 (lD lW rfl (jE (ae 1)) (fG 5 Eg.aI)
   (a6 (dO 6 Eg.aI (fy (ae 0) jF qO.dQ RT M.mono qO.bd .nil b0 (ak (ae 5) aA)))
  (a7 (d8 (eN rK (ae 6) (ae 3) (ek _)) (a6 (dO 7 Eg.aI (fy (ae 2) kQ yF.dQ Uy M.mono yF.bd .nil Dc (ak (fy (ae 0) jF qQ.dQ RO M.mono qQ.bd .nil b0 (ak (ae 5) aA)) (ak (fy (ae 0) jF yG.dQ ab0 M.mono yG.bd .nil b0 (ak (ae 5) aA)) aA))))
  (a7 (d8 (eN Mu (ae 7) kT (ek _)) (a7 (hj (oz t_ xO xP uR (agK (ae 4) (ae 7) (g7 aA) #[rfl,rfl,rfl,rfl]) (ak (rE (ak (ae 6) (ak (ae 5) aA))) aA)))) ed))) ed))))
  (a7 (cd (ae 4))))),?_]
 try dsimp only[cT,cS]
 refineλp aG=>?_
 have s0:aB H (upd H p (.cv [])):=bF aG;show#[_,rfl,gl,rfl,#[_,s0.seq Ka],?_];refine qa (xs:=iO L) (am0 x gl y p T J a L I H)
  #[[],none,none,none,rfl,s0,#[aK,sd,sd,λe u=>nomatch u],λr=>#[λz=>(nomatch z),λz=>bG rfl z],cB _] (λi U dC _⟨_,_,_,_,_,h,_,_,_⟩=>h.seq Ka) ?_ ?_
 .rintro i z U dC fQ ⟨E,v1,v2,lj,rfl,d,O,b,le⟩;unfold iO at fQ;rw[dV]at fQ;obtain⟨k,e6,rfl⟩:=gS.mp fQ;have aqb:i<L.length:=(gn.mp e6).1;have m:L.take (i+1)=L.take i++[k]:=by rw[pO,e6];rfl
  have Z:=W.same d;rcases ok k (fC e6)with⟨E0,ss,B,hF,aH,X,c6,fb,ji,oU,Ew⟩|⟨E0,ss,B,hF,aH,X,c6,fb,ji,oU,Ew⟩
  .have m:(L.take (i+1)).filter I=(L.take i).filter I++[k]:=by rw[m,qF,tZ,bS E0,NG]
   show#[_,rfl,x,ag,_,rfl,d _ _ ar,rfl,_,rfl,x,n,g,st,dm,ls,aY,k,ss,B,rfl,Z,aH,?_];show#[_,rfl,_,rfl,_,_,rfl,rfl,_,rfl,?_];by_cases j:J k<=T
   .refine eQ (cE (by rw[X];exact j)) ?_;show#[_,rfl,y,bh,_,rfl,d _ _ b6,rfl,_,rfl,x,ag,_,rfl,d _ _ ar,rfl,_,rfl,x,n,g,st,dm,ls,aY,k,ss,B,rfl,Z,aH,_,rfl,x,ag,_,rfl,d _ _ ar,rfl,_,rfl,x,n,g,st,dm,ls,aY,k,hF,rfl,Z,c6,?_];show#[y,eR,t,a',b',hs,_,kvs,B.iq,hF,rfl,xY.same d,G,tb G fb,tb G ji,λ_ ai s2=>?_,λz=>bG (y' fb ji oU) (by rw[z];decide)];rw[Ew];show#[_,rfl,rfl,_,rfl,eQ (by simp) ?_];have zf:=d.trans s2;have TA:=O.same s2;show#[_,rfl,p,rfl,.inl #[_,.inl TA.tab],_,rfl,e4 _,λN S3=>?_];have bp:=bF (o:=.lst []) S3;have R:=TA.same bp;have LC:=zf.trans bp;have aC:upd ai N (.lst []) N=some (.lst []):=aK;have Ť:=eU zf S3;have Sx:∀e∈E,e.2≠N:=λe u z=>by obtain⟨_,_,ts,c,_⟩:=TA.each e u;rw[z,S3]at c;cases c
    generalize upd ai N (.lst [])=bz at bp R LC aC⊢;have gV:(nt E).length=E.length:=bP _;show#[nt E,fV (a k:Int),rfl,R.tab,e' (by omega),λv bb=>?_,λba=>?_]
    .have o1:a k∈E.map (·.1):=by
      by_cases z:a k∈E.map (·.1)
      .exact z
      rw[MQ z]at bb;cases bb
     obtain⟨⟨r0,l⟩,u,Y⟩:=cm.mp o1;have Y:r0=a k:=Y;subst Y;rw[L3 R.wF u]at bb;cases bb;obtain⟨nl,_,ts,ax,bQ⟩:=R.each _ u;show#[.inl #[rfl,_,aQ.of ax],_,rfl,_,rfl,(by show 2<=sizeLine;decide),λr iP=>?_];have D:=bF (o:=.tup [V.int B.br,V.int (k:Int)]) iP;have TB:=R.same D;have M:upd bz r (.tup [V.int B.br,V.int (k:Int)]) r=some (.tup (l_ (J k,k))):=by rw[aK,X];rfl
     have d_:=bQ.len;show#[l,_,_,rfl,rfl,D _ _ ax,e' (by rw[fo];rw[bP]at d_;have:=XV J a T ((L.take i).filter I) (a k);have dG:=m4 I (L.take i);rw[ll]at dG;have ayn:ts.length=(f7 J a T ((L.take i).filter I) (a k)).length:=d_;omega),?_];show#[E,_,_,_,rfl,gJ nl (LC.trans D),?_,?_,by omega]
     .rw[m,Mg j];exact TB.add u (D _ _ ax) (bQ.same D) M (eU LC iP)
     intro dJ;rw[m,Mg j,b dJ];dsimp only;by_cases z:dJ=a k
     .subst z;rw[bS rfl];show#[λ_=>by simp,λ_=>(b _).mp o1]
     rw[bx z]
    have o1:a k∉E.map (·.1):=λz=>by obtain⟨⟨r0,l⟩,u,Y⟩:=cm.mp z;have Y:r0=a k:=Y;subst Y;rw[L3 R.wF u]at ba;cases ba
    have wM:f7 J a T ((L.take i).filter I) (a k)=[]:=by
     by_cases z:f7 J a T ((L.take i).filter I) (a k)=[]
     .exact z
     exact bG ((b _).mpr z) o1
    have rI:=R.new o1 wM Ť aC Sx;have T':aB H (upd bz p (.cv (fw (nt E) (fV (a k:Int)) (.ref N)))):=gJ aG LC;have np:N≠p:=λz=>by rw[z,R.tab]at aC;cases aC
    have Kl:upd bz p (.cv (fw (nt E) (fV (a k:Int)) (.ref N))) N=some (.lst (aS [])):=by rw[aJ np];exact aC
    generalize upd bz p (.cv (fw (nt E) (fV (a k:Int)) (.ref N)))=da at rI T' Kl⊢;have u:(a k,N)∈E++[(a k,N)]:=hy.mpr (.inr (.head _));show#[.inl #[rfl,_,aQ.of Kl],_,rfl,_,rfl,(by show 2<=sizeLine;decide),λr iP=>?_];have D:=bF (o:=.tup [V.int B.br,V.int (k:Int)]) iP;have TB:=rI.same D;have M:upd da r (.tup [V.int B.br,V.int (k:Int)]) r=some (.tup (l_ (J k,k))):=by rw[aK,X];rfl
    show#[N,_,_,rfl,rfl,D _ _ Kl,(by show 0<sizeLine;decide),?_];show#[E++[(a k,N)],_,_,_,rfl,gJ Ť (T'.trans D),?_,?_,by rw[eM];show E.length+1<=i+1;omega]
    .rw[m,Mg j];exact TB.add (ts:=[]) u (D _ _ Kl) (by rw[wM];exact .nil) M (eU T' iP)
    intro dJ;rw[m,Mg j,eK,hy,b dJ];dsimp only;by_cases z:dJ=a k
    .subst z;rw[bS rfl];show#[λ_=>by simp,λ_=>.inr (.head _)]
    rw[bx z];show#[λy=>y.elim id λy=>bG (gp.mp y) z,.inl]
   refine dA (dt (by rw[X];exact j)) ?_;show#[E,_,_,lj,rfl,d,by rw[m,Zx j];exact O,by rw[m,Zx j];exact b,by omega]
  have m:(L.take (i+1)).filter I=(L.take i).filter I:=by rw[m,qF,tZ,bx (by rw[E0];decide),NG,sa]
  show#[_,rfl,x,ag,_,rfl,d _ _ ar,rfl,_,rfl,x,n,g,st,dm,ls,aY,k,ss,B,rfl,Z,aH,?_];show#[_,rfl,_,rfl,_,_,rfl,rfl,_,rfl,?_];by_cases j:J k<=T
  .refine eQ (cE (by rw[X];exact j)) ?_;show#[_,rfl,y,bh,_,rfl,d _ _ b6,rfl,_,rfl,x,ag,_,rfl,d _ _ ar,rfl,_,rfl,x,n,g,st,dm,ls,aY,k,ss,B,rfl,Z,aH,_,rfl,x,ag,_,rfl,d _ _ ar,rfl,_,rfl,x,n,g,st,dm,ls,aY,k,hF,rfl,Z,c6,?_];show#[y,eR,t,a',b',hs,_,kvs,B.iq,hF,rfl,xY.same d,G,tb G fb,tb G ji,λ_ ai s2=>?_,λz=>bG (y' fb ji oU) (by rw[z];decide)];rw[Ew];show#[_,rfl,rfl,_,rfl,dA (by simp) ?_];show#[E,_,_,_,rfl,d.trans s2,by rw[m];exact O.same s2,by rw[m];exact b,by omega]
  refine dA (dt (by rw[X];exact j)) ?_;show#[E,_,_,lj,rfl,d,by rw[m];exact O,by rw[m];exact b,by omega]
 rintro U dC ⟨E,v1,v2,lj,rfl,d,O,b,le⟩;unfold iO at O b;rw[bP,n4]at O b;show#[_,rfl,q p dC E aG d O b]
end
end dR
namespace b_
open PySem PySem.Spec PyProof.Rows ao
section
variable{X:bH}
theorem att:kt X (.builtin "sorted") (λt H Q=>∃(p:Addr)(d:hA),t=[.ref p]/\aQ X.K H p (d.map V.int)/\d.length<64/\∀l,H l=none->Q (.ref l) (upd H l (.lst ((sortI d).map V.int)))):=by intro n s U H t O Q I r h;obtain⟨p,d,rfl,A,G,q⟩:=h;obtain⟨u,rfl,L⟩:=vals1 r;cases L;obtain⟨B,k,E,w⟩:=I.list A;have g:=k.length;rw[bP]at g;refine Wa (κ:=Tj) (lt:=ltI d) E.isList (by omega) (λm F x M N=>Wd k m N) (λm F x i j C e z K=>WX k e z K) λD J c f x y=>?_;show#[.ref D,_,I.laid (a:=D) (o:=.lst ((sortI d).map V.int)) (t':=s.toks) (λb o q=>x b o q) f ?_,rfl,q D (I.bo.fresh f)];rw[<-Xt];show#[?_,_,c,U2 k,y];rw[Vx];exact w
theorem aty(K:X.calm=true):kt X (.builtin "sorted") (λE H Q=>∃(p:Addr)(d:List (bq×V))(f:hA),E=[.ref p]/\H p=some (.cv d)/\d.map (·.1)=f.map fV/\f.length<64/\∀l,H l=none->Q (.ref l) (upd H l (.lst ((sortI f).map V.int)))):=by
 intro m s U H E us Q I r h;obtain⟨p,d,f,rfl,G,B,RQ,q⟩:=h;obtain⟨u,rfl,Y⟩:=vals1 r;cases Y;have P:X.A.handled=none:=I.ok.hd K;obtain⟨tG,lo,z,g,o,es,ep,aX,J,hd,_,yy,aM⟩:=zK I.bo G;have y:de (f.map V.int) (es.toList.map (·.key)):=by
  have gen:∀{d:List (bq×V)}{z:List (bq×Value)}{L:List r9}{f:hA},gR d z->Pairs (h9 X.prog X.w) L z->d.map (·.1)=f.map fV->de (f.map V.int) (L.map (·.key)):=by
   intro d z L f g pr
   induction pr generalizing d f with
   |nil=>
    intro e;cases g;cases f with
    |nil=>exact .nil
    |cons _ _=>cases e
   |cons w A t F=>
    intro e;cases g with
    |cons a b=>
     cases f with
     |nil=>cases e
     |cons n f=>
      rw[jd,jd,NC]at e;refine .cons ?_ (F b e.2);rw[<-a.1,e.1]at w;exact ain w
  exact gen g yy B
 have M:=y.length;rw[bP]at M;have Kt:d.length=f.length:=by have:=fa sb B;simpa using this
 refine acZ (κ:=Tj) (lt:=ltI f) lo P #[o,aX,J,hd] rfl (by omega) (λA s1 x sk Z=>Wd y A Z) (λA s1 x i j C hi O T=>WX y hi O T) λw D h' t c R k x K=>?_;have N:Inv X m U H {s with heap:=w,toks:=t}:=I.kept (t':=t) λb o e=>R b o e;show#[.ref D,_,N.laid (a:=D) (o:=.lst ((sortI f).map V.int)) (t':=t) (λb o q=>x b o q) k ?_,rfl,q D (N.bo.fresh k)];rw[<-Xt];show#[?_,_,c,U2 y,K];rw[Vx,bP];omega
end
end b_
namespace dR
open PySem ao b_ cw
theorem aiv{K:aN}{G:fi}{k:TE}{rest:ao.St}{H:af}{Q:a4}{ds:List aO}(P:∀R:gB->af->Prop,(∀p c N,H p=none->aB H c->c p=some (.lst (aS N))->eE c N ds->R (n2 K p) c)->G U H R)(O:iN cs U=none::none::rest)(J:ds.length<sizeLine)(f:Nat->ao.V)(two:∀d∈ds,∃u v,d=[u,v])(l:∀(i:Nat)(u v:ao.V)(a:af)(R:a4),ds[i]?=some [u,v]->aB H a->(∀h,aB a h->R (f i) h)->k (some u::some v::rest) a R)(w:∀(D:Addr)(H':af),H D=none->H' D=some (.lst ((eB ds.length).map f))->aB H H'->Q (.ref D) H'):pq G cs (xg K 2 (rJ (iL 0) (rJ (iL 1) Af))) tS k U H Q:=by
 refine P _ λp c N Z L I j D bI=>?_;have T:=j.len;show#[λi m V q H'=>m=ds.length-i/\i<=ds.length/\V=(eB i).map f/\(∃B F,q=B::F::rest)/\aB c H'/\H' D=some (.lst V),#[ds.length,by simp,e4 _,rfl,#[none,none,by rw[O]],λb o e=>?_,aK],?_]
 .rw[aJ (b1 e bI)];exact e
 rintro i m V q H' ⟨rfl,Y,rfl,⟨B,F,rfl⟩,g,r⟩;obtain⟨A,E,C⟩:=s4 (aQ.of (K:=K) I) H' g;show#[r,t8 (by rw[bP,oO];omega) J,?_];rw[fo]at A E C;by_cases M:i<ds.length
 .refine .inr #[E i (by omega),λx a y=>?_];obtain⟨rfl,n⟩:=C i x a (by omega) y;unfold aS at n;rw[dV]at n;obtain⟨t,X,rfl⟩:=gS.mp n;obtain⟨d,cF,z⟩:=b2.get j X;have z:=g _ _ z;obtain⟨u,v,rfl⟩:=two d (fC cF);show#[t,_,rfl,cV.of z,rfl,_,_,rfl,_,_,rfl,rfl,?_];show k (some u::some v::rest) a _;refine l i u v a _ cF (L.trans g) λh s=>#[s _ _ r,ds.length-(i+1),by omega,rfl,M,?_,#[_,_,rfl],λb ob e=>?_,aK]
  .rw[z9,eK];rfl
  rw[aJ (b1 e bI)];exact s _ _ (g _ _ e)
 have e:i=ds.length:=by omega
 subst e;rw[T]at A;exact .inl #[A,w D H' (eU L bI) r (L.trans g)]
theorem η{i:Nat}{U:ao.St}{Q:ao.St->af->Prop}(h:Q (U.set i (some v)) H):iL i v U H Q:=h
theorem nI.upd{H:af}{b:kG×List Nat}(h:nI H a b)(g:H l=some (.lst xs)):nI (ao.upd H l (.lst e)) a b:=by obtain⟨c,d,f⟩:=h;show#[c,by rw[aJ λz=>by rw[z,g]at d;cases d];exact d,by rw[aJ λz=>by rw[z,g]at f;cases f];exact f]
theorem agY(a:bL){m:Int}(h:0<=m):lN (aS a) none (some m)=aS (a.take m.toNat):=by
 obtain⟨k,rfl⟩:∃k:Nat,m=(k:Int):=#[m.toNat,by omega]
 unfold lN;have b:gc.hq (aS a).length 0 none=0:=rfl;have c:gc.hq (aS a).length (aS a).length (some (k:Int))=min k (aS a).length:=gc.Lu (aS a).length (aS a).length k;rw[b,c,Nat.sub_zero,List.drop_zero,mZ];unfold aS;rw[bP,NK];by_cases z:k<=a.length
 .rw[NT z]
 rw[aeu (by omega),Yd (by rw[bP];exact cB _),Yd (by rw[bP];omega)]
theorem Wj:∀{b:bL}{ds:List aO}(k:Nat),eE H b ds->eE H (b.take k) (ds.take k)
 |_,_,0,_=>by rw[Ye,Ye];exact .nil
 |_,_,k+1,.nil=>.nil
 |_,_,k+1,.cons a t=>.cons a (Wj k t)
noncomputable def mO(ds:cC)(b:Nat->Int)(a:Nat->Nat)(T:Int)(c:b7)(r:Nat):kG×List Nat:=((T,r),IX (wU ds r) (f7 b a T c r))
theorem XW(b:Nat->Int)(a:Nat->Nat)(T:Int)(c:b7)(r:Nat):(f7 b a T c r).map (·.2)=c.filter λn=>decide (b n<=T)&&decide (a n=r):=by unfold f7;rw[hc];exact X8 _
theorem ajG{c:Nat->Int}{b:Nat->Nat}{T:Int}{a:b7}{r:Nat}(d:a.Nodup):(f7 c b T a r).Nodup:=by
 have h:((f7 c b T a r).map (·.2)).Nodup:=by rw[XW];exact d.filter _
 exact(DB.mp h).imp λh z=>h (by rw[z])
theorem XX{c:Nat->Int}{b:Nat->Nat}{T:Int}{a:b7}{r:Nat}(d:a.Nodup)(k:Nat):(((ow (f7 c b T a r)).take k).map (·.2)).Nodup:=by
 have h:((ow (f7 c b T a r)).map (·.2)).Nodup:=by refine(((La _).map _).nodup_iff).mpr ?_;rw[XW];exact d.filter _
 rw[NK];exact h.sublist (DD _ _)
theorem HU(a:b7):iO a=(mb a).map V.int:=by unfold iO mb;rw[hc];rfl
inductive θ(K:aN)(C aw aq:Addr)(vs:aO)(H:af)(Q:a4)(f':bY):Prop where
 |mk(x n g st gl y t a' b':Addr)(dm:cK)(ls rs:bL)(aY:hR)(hs:bt)(ds:cC)(kvs:gm)(yq:b7)(hw:Nat->Bool)(go:b7)(br:Nat->Int)(a_:Nat->Nat)(T:Int)(_:vs=[.ref n,.ref x,.ref gl,.ref y,.int T])(_:go=yq.filter hw)(_:WalkAt C H x n g st dm ls aY)(_:aQ K H gl (iO yq))(_:rF aw aq H y n t a' b' (cN hs) (aS rs) kvs)(_:gs H hs rs ds)(_:Good hs)(_:yq.length<=60)(_:yq.Nodup)(_:(∀k∈yq,MR hw hs kvs dm aY br a_ k))(_:(∀k∈go,a_ k<ds.length))(_:∀(l:Addr)(H':af)(as:bL)(f9:b7),H l=none->aB H H'->H' l=some (.lst (aS as))->b2 (nI H') as (f9.map (mO ds br a_ T go))->f9.Pairwise (· < ·)->(∀r,r∈f9↔f7 br a_ T go r≠[])->Q (.ref l) H')
section
variable{P:cx}{w:bf}{K:aN}{mg:cb}{base:Heap}
noncomputable abbrev Lo:Stmt:=top 43
theorem As:cI ["net","walk","going","ways","turn","queues","bags","road","room","chosen"] DE (b5 Lo):={}
inductive am1(n x gl y p aV bM:Addr)(T:Int)(f9:b7)(ds:cC)(br:Nat->Int)(a_:Nat->Nat)(go:b7)(H1:af)(j:Nat)(U:ao.St)(dC:af):Prop where
 |mk(as:bL)(v1 v2 lj:lY)(_:U=[some (.ref n),some (.ref x),some (.ref gl),some (.ref y),some (.int T),some (.ref p),some (.ref aV),v1,v2,lj])(_:aB H1 dC)(_:dC bM=some (.lst (iO f9)))(_:dC aV=some (.lst (aS as)))(_:b2 (nI dC) as ((f9.take j).map (mO ds br a_ T go)))
theorem ajH{f:Addr}(F:cj K "bags_at" "bags_at" Lo f fd)(B:ft mg)(gu:dM K aq)(Bo:cu K mg "queues_at" Lw DF f1 c2)(ab1:aD P w K mg base a3 4 f1 c2 DF (Ι K C aw aq))(mB:cH K aq "road" "Net.road" zu d4 f2 eW)(Fu:aD P w K mg base a3 1 f2 eW d4 (MP aq)):
  aD P w K mg base a3 5 f fd DE (θ K C aw aq):=by
 refine F.ok As (λ_ A _ s H vs Q E Y h=>?_);obtain⟨x,n,g,st,gl,y,t,a',b',dm,ls,rs,aY,hs,ds,kvs,yq,hw,N,M,I,T,rfl,PF,W,Ka,xY,R,G,aok,aqU,ok,arP,q⟩:=h;have c3:N.length<=60:=by rw[PF];exact dX (m4 _ _) aok
 have Ř:N.Nodup:=by rw[PF];exact aqU.filter _
 obtain⟨eV,aM⟩:=xY.el.ins;show#[_,(a6 (dO 5 As.aI (d9 ab1 Bo Y.mono b0 (ak (ae 1) (ak (ae 2) (ak (ae 3) (ak (ae 4) aA))))))
  (a6 (dO 6 As.aI (g7 aA))
  (a6 (lD lW rfl (jE (eD (aty rfl) B.sorted LK (ak (ae 5) aA))) (fG 7 As.aI)
   (a6 (dO 8 As.aI (b8 eH (fy (ae 0) gu mB.dQ Fu Y.mono mB.bd .nil b0 (ak (ae 7) aA)) aZ))
  (a6 (wA (i:=9) As.aI rfl rfl rfl (N':=["came","number"]) (cs:=[none,none]) rfl (jE (LU MG (eD aaD B.sorted LK (ak (wK (l8 Y) (ae 5) (ae 7) (λ_ _=>rfl)) aA)) Mv (GQ (ae 8)))) rfl (by decide+kernel) rfl (by decide+kernel) (lE (λp aG=>bG aG (e3))) rfl
   (.own (.own .nil))
   (λC bp bz dc fA=>#[(Md (K:=K) (n:=2) rfl rfl (sW (fG 0 (by show(["came","number"]:cK).Nodup;decide+kernel)) (sW (fG 1 (by show(["came","number"]:cK).Nodup;decide+kernel)) GO))),o5,(ae 1)]))
  (a7 (hj (oz t_ xO xP uR (ae 6) (ak (rE (ak (ae 4) (ak (ae 7) (ak (hC aaq B.tuple Vs (ak (eD att B.sorted LK (ak (ae 9) aA)) aA)) aA)))) aA)))))))
  (a7 (cd (ae 6)))))),?_]
 try dsimp only[cT,cS]
 show#[_,rfl,_,rfl,_,rfl,_,rfl,x,n,g,st,gl,y,n,t,a',b',dm,ls,aY,hs,_,kvs,yq,hw,M,I,T,rfl,W,Ka,xY,G,(by omega),ok,λp H1 E np s1 nM e=>?_];rw[<-PF]at nM e;show#[e4 _,λaV KP=>?_];have s2:=bF (o:=.lst []) KP;have QI:upd H1 aV (.lst []) aV=some (.lst []):=aK;generalize upd H1 aV (.lst [])=ai at s2 QI⊢;obtain⟨l,JG⟩:∃l,l=E.map (·.1):=#[_,rfl]
 have ř:l.Nodup:=by rw[JG];exact nM.wF
 have e6:(nt E).map (·.1)=(mb l).map fV:=by rw[JG];unfold nt mb;rw[hc,hc,hc];rfl
 have axI:l.length<=N.length:=by
  have aj:=FV (sn:=l) (L:=N.map I) ř λr Y=>by rw[JG]at Y;obtain⟨c,av⟩:=X3 _ ((e r).mp Y);unfold f7 at av;obtain⟨k,aP,_⟩:=cm.mp av;obtain⟨bZ,c'⟩:=g4.mp aP;simp only[i',decide_eq_true_eq]at c';exact cm.mpr #[k,bZ,c'.2]
  rwa [bP]at aj
 show#[_,rfl,p,nt E,mb l,rfl,s2 _ _ nM.tab,e6,(by unfold mb;rw[bP];omega),λbM rG=>#[bM,rfl,#[_,aQ.of aK],?_]];rw[<-Mf,<-HU];have bp:=bF (o:=.lst (iO (kX l))) rG;have Rg:upd ai bM (.lst (iO (kX l))) bM=some (.lst (iO (kX l))):=aK;have Ć:=bp _ _ QI;have ar3:bM≠aV:=dY (eg QI rG);generalize upd ai bM (.lst (iO (kX l)))=bz at bp Rg Ć⊢;obtain⟨J,X⟩:∃J,J=kX l:=#[_,rfl]
 rw[<-X]at Rg;have Se:∀r,r∈J↔f7 M I T N r≠[]:=λr=>by rw[X,(FO l).mem_iff,JG];exact e r
 have Kt:J.length<=100:=by rw[X,(FO l).length_eq];omega
 refine qa (xs:=iO (kX l)) (am1 n x gl y p aV bM T J ds M I N H1)
  #[[],none,none,none,rfl,s2.trans bp,Rg,Ć,.nil] (λi U dC _⟨_,_,_,_,_,_,h,_,_⟩=>by rw[<-X];exact aQ.of h) ?_ ?_
 .rintro j z U dC fQ ⟨as,v1,v2,lj,rfl,Z,Ĩ,QK,O⟩;rw[<-X]at fQ;unfold iO at fQ;rw[dV]at fQ;obtain⟨r,gW,rfl⟩:=gS.mp fQ;have ħ:=fC gW;obtain⟨Ê,ĉ⟩:=X3 _ ((Se r).mp ħ);have ax5:r<ds.length:=by unfold f7 at ĉ;obtain⟨k,aP,_⟩:=cm.mp ĉ;obtain⟨bZ,c'⟩:=g4.mp aP;simp only[i',decide_eq_true_eq]at c';rw[<-c'.2];exact arP k bZ
  have TS:=s1.trans Z;have agq:=R.same TS;have ax4:=R.len;obtain⟨nN,era⟩:∃nN,rs[r]?=some nN:=#[_,dw (by omega)]
  obtain⟨d,cF,B',hd⟩:=agq.get era;have dg:ds.getD r td=d:=zE cF;show#[_,rfl,n,eV,_,rfl,TS _ _ aM,rfl,_,rfl,n,a',b',_,_,_,_,rfl,xY.el.same TS,(by omega),(by have:=fo rs;omega),(iH (by unfold aS;rw[dV,era];rfl)),nN,_,_,_,rfl,rfl,cV.of hd,rfl,?_];have em:(d.m:Int)=wU ds r:=by unfold wU;rw[dg]
  have m0:0<=wU ds r:=by rw[<-em];have:=B'.m.1;omega
  obtain⟨cs,uo⟩:∃cs,cs=f7 M I T N r:=#[_,rfl]
  have axS:cs.Nodup:=by rw[uo];exact ajG Ř
  have lcs:cs.length<=60:=by rw[uo];have:=XV M I T N r;omega
  have apO:r∈E.map (·.1):=(e r).mpr ((Se r).mp ħ);obtain⟨⟨r0,Kx⟩,he,aH⟩:=cm.mp apO;have aH:r0=r:=aH;subst aH;obtain⟨_,_,ts,apo,GJ⟩:=(nM.same Z).each _ he;have GJ:eE dC ts (cs.map l_):=by rw[uo];exact GJ
  have apK:=(nM.same Z).tab;have ö:=j9.k (k:=fV (r0:Int)) apK;rw[L3 nM.wF he]at ö;have asC:=GJ.len;rw[bP]at asC;obtain⟨k,â⟩:∃k,k=(wU ds r0).toNat:=#[_,rfl]
  obtain⟨m,JE⟩:∃m,m=((ow cs).take k).map (·.2):=#[_,rfl]
  have axT:m.Nodup:=by rw[JE,uo];exact XX Ř k
  have ry:((ow cs).take k).length<=60:=by rw[ll];have:=(La cs).length_eq;omega
  refine η ?_;dsimp only;refine MX ?_;refine aiv (K:=K) (rest:=[]) (ds:=((ow cs).take k).map l_) (λage Qs=>?_) rfl (e' (by rw[bP];omega)) (λi=>V.int ((((ow cs).take k).getD i (0,0)).2:Int)) (λd' Be=>?_) (λi u v bK age hk c4 cQ=>?_) (λD bK nG bI c4=>?_)
  .show#[_,rfl,_,rfl,p,_,rfl,ö,Kx,ts,cs.map y7,true,[true],rfl,aQ.of apo,abc GJ,(by omega),agW cs,λdZ yZ=>?_];obtain⟨Up,PK,asF⟩:=aeR GJ;have cc:=bF (o:=.lst (hV V.b3 (o_ (cs.map y7)) (ts.map V.ref))) yZ;have j3:upd dC dZ (.lst (hV V.b3 (o_ (cs.map y7)) (ts.map V.ref))) dZ=some (.lst (aS Up)):=by rw[aK];rw[show ts.map V.ref=aS ts from rfl,PK]
   show#[_,rfl,_,rfl,dZ,_,rfl,aQ.of j3,λdG pa=>#[dG,rfl,#[_,aQ.of aK],?_]];rw[em,agY Up m0,<-â];refine Qs dG _ (Up.take k) (eU cc pa) (cc.trans (bF pa)) aK ?_;rw[NK];exact(Wj k (asF.same cc)).same (bF pa)
  .obtain⟨c,_,rfl⟩:=cm.mp Be;show#[_,_,rfl]
  .rw[dV]at hk;obtain⟨c,hS,aF⟩:=gS.mp hk;have c6:V.int (c.2:Int)=v:=by unfold l_ at aF;simp only[NC]at aF;exact aF.2.1
   show#[_,rfl,?_];rw[<-c6];have:=cQ bK (aB.refl _);rw[zE hS]at this;exact this
  have x':(eB (((ow cs).take k).map l_).length).map (λi=>V.int ((((ow cs).take k).getD i (0,0)).2:Int))=iO m:=by rw[bP,range_getD (λc:Int×Nat=>V.int (c.2:Int)) (0,0) ((ow cs).take k),JE];unfold iO;rw[hc];rfl
  rw[x',HU]at bI;have QJ:=c4 _ _ QK;have Ł:=jy O;rw[bP,ll]at Ł;show#[_,rfl,.inl #[rfl,_,aQ.of QJ],_,rfl,_,rfl,_,rfl,D,mb m,rfl,aQ.of bI,(by unfold mb;rw[bP,JE,bP];omega),λi1 ş=>#[i1,_,rfl,.inl #[aQ.of aK,λc qk=>#[(by show 3<=sizeLine;decide),λmy Fv=>#[aV,aS as,_,rfl,rfl,bF Fv _ _ (bF qk _ _ (bF ş _ _ QJ)),e' (by rw[fo];omega),?_]]]]];rw[<-Mf,<-HU];have hN:=bF (o:=.lst (iO (kX m))) ş;have h7:∀b o,bK b=some o->upd bK i1 (.lst (iO (kX m))) b=some o:=hN;rw[<-Mf,<-HU]at qk Fv;generalize upd bK i1 (.lst (iO (kX m)))=g0 at hN qk Fv⊢;have jo:=bF (o:=.tup (iO (kX m))) qk;have Ċ:upd g0 c (.tup (iO (kX m))) c=some (.tup (iO (kX m))):=aK;generalize upd g0 c (.tup (iO (kX m)))=jv at jo Ċ Fv⊢;have ic:=bF (o:=.tup [V.int T,V.int (r0:Int),V.ref c]) Fv;have Ĉ:upd jv my (.tup [V.int T,V.int (r0:Int),V.ref c]) my=some (.tup [V.int T,V.int (r0:Int),V.ref c]):=aK;have ċ:=ic _ _ Ċ;generalize upd jv my (.tup [V.int T,V.int (r0:Int),V.ref c])=hH at ic Ĉ ċ⊢;have Lm:=hN.trans (jo.trans ic);have ć:=Lm _ _ QJ;have nb:nI hH my (mO ds M I T N r0):=by
   show#[c,Ĉ,?_];have anU:(mO ds M I T N r0).2=kX m:=by unfold mO IX;rw[<-uo,<-â,<-JE]
   rw[anU];exact ċ
  show#[as++[my],_,_,_,rfl,gJ KP (Z.trans (c4.trans Lm)),by rw[aJ ar3];exact Lm _ _ (c4 _ _ Ĩ),by rw[aK,yP],?_];rw[show J.take (j+1)=J.take j++[r0] by rw[pO,gW];rfl,eK];refine Paired.snoc (nb.upd ć) (b2.fT O λa b h=>((h.same c4).same Lm).upd ć)
 rintro U dC ⟨as,v1,v2,lj,rfl,Z,Ĩ,QK,O⟩;rw[<-X]at O;unfold iO at O;rw[bP,n4]at O;show#[_,rfl,q aV dC as J (eU s1 KP) (s1.trans Z) QK O (by rw[X];exact agX ř) Se]
noncomputable def arT:Step:=#[0,none,m_,0]
noncomputable def u7(a:List Step):Step:=a.getLastD arT
noncomputable def rx(a:hR)(n:Nat):Step:=u7 (a.getD n [])
noncomputable def vq(a:hR)(n:Nat):Int:=(rx a n).br
noncomputable def j2(a:cK)(n:Nat):Str:=a.getD n m_
noncomputable def mR(a:gm)(c:cK)(b:hR)(n:Nat):Nat:=(u6 a (rx b n).iq (j2 c n)).getD 0
theorem ac1(a:List Step)(s:Step):u7 (a++[s])=s:=by unfold u7;rw[adx,adw];rfl
theorem ac2{a:List Step}(h:a≠[]):∃i,a=i++[u7 a]:=by show#[a.dropLast,?_];unfold u7;rw[adx,List.getLast?_eq_getLast h];exact(List.dropLast_concat_getLast h).symm
theorem y_{a:Type}{l:List a}{i:Nat}{d:a}(h:i<l.length):l[i]?=some (l.getD i d):=by rw[ea,dw h];rfl
noncomputable def o8(m:Nat)(b:Nat->Int)(a:Nat->Nat)(T:Int)(c:b7):List Nat:=(eB m).filter λr=>!(f7 b a T c r).isEmpty
noncomputable def rO(ds:cC)(b:Nat->Int)(a:Nat->Nat)(T:Int)(c:b7):List (kG×List Nat):=(o8 ds.length b a T c).map (mO ds b a T c)
end
theorem agZ{m:Nat}{g:Nat->Int}{d:Nat->Nat}{T:Int}{f:b7}(K:∀k∈f,d k<m){o:b7}(y:o.Pairwise (· < ·))(p:∀r,r∈o↔f7 g d T f r≠[]):o=o8 m g d T f:=by
 have l:(o8 m g d T f).Pairwise (· < ·):=adC.filter _;have n:∀r,r∈o8 m g d T f↔f7 g d T f r≠[]:=λr=>by
  unfold o8;rw[g4];constructor
  .rintro⟨_,h⟩ e;rw[e]at h;cases h
  intro h;obtain⟨c,t⟩:=X3 _ h;show#[lp.mpr ?_,?_]
  .unfold f7 at t;obtain⟨k,z,_⟩:=cm.mp t;obtain⟨A,w⟩:=g4.mp z;simp only[i',decide_eq_true_eq]at w;rw[<-w.2];exact K k A
  cases e:f7 g d T f r with
  |nil=>exact bG e h
  |cons _ _=>rfl
 refine Xu (R:=(· < ·)) (λa b L N=>by omega) ((List.perm_ext_iff_of_nodup (y.imp λh=>eT h) (l.imp λh=>eT h)).mpr λr=>?_) y l;rw[p r,n r]
theorem Mh{f:Nat->Int}{b:Nat->Nat}{T:Int}{g:b7}{r i:Nat}(h:i∈(mO ds f b T g r).2):i∈g/\f i<=T/\b i=r:=by unfold mO IX at h;have m:=(FO _).mem_iff.mp h;obtain⟨c,n,rfl⟩:=cm.mp m;have d:=(La _).mem_iff.mp (t5 n);unfold f7 at d;obtain⟨k,l,rfl⟩:=cm.mp d;obtain⟨o,a⟩:=g4.mp l;simp only[i',decide_eq_true_eq]at a;show#[o,a.1,a.2]
theorem Zy{d:Nat->Int}{c:Nat->Nat}{T:Int}{a:b7}(b:a.Nodup)(r:Nat):(mO ds d c T a r).2.Nodup:=((FO _).nodup_iff).mpr (XX b _)
theorem ajI{c:Nat->Int}{b:Nat->Nat}{T:Int}{r:Nat}(f:1<=wU ds r)(h:f7 c b T go r≠[]):(mO ds c b T go r).2≠[]:=λe=>by have a:=fa sb e;unfold mO IX at a;rw[(FO _).length_eq,bP,ll,(La _).length_eq]at a;have d:=Iw.mpr h;simp only[vB]at a;omega
noncomputable def qd(d:bt)(ds:cC)(c:vU)(a:hR):List (List Step):=c.foldl (λs b=>oA (stepK d ds b.1) b.2 s) a
theorem VK(d:bt)(ds:cC):∀(c:vU)(a:hR),(qd d ds c a).length=a.length
 |[],_=>rfl
 |b::c,a=>by show(qd d ds c (oA (stepK d ds b.1) b.2 a)).length=_;rw[VK d ds c,U5]
theorem L4(c:bt)(ds:cC):∀(d:vU)(a:hR)(i:Nat),(qd c ds d a)[i]?=(a[i]?).map λf=>f++((d.filter λb=>decide (i∈b.2)).map λb=>stepK c ds b.1)
 |[],a,i=>by show a[i]?=_;cases a[i]?<;>simp
 |b::d,a,i=>by
  show(qd c ds d (oA (stepK c ds b.1) b.2 a))[i]?=_;rw[L4 c ds d,F3,Option.map_map];congr 1;funext f;show(if i∈b.2 then f++[stepK c ds b.1]else f)++_=_;rw[tZ];by_cases z:i∈b.2
  .rw[bS z,bS (cE z),jd,oN];rfl
  rw[bx z,bx (by rw[dt z];decide)]
theorem aeS(a:bt)(ds:cC)(d:vU)(b:kG×List Nat)(c:hR):qd a ds (d++[b]) c=oA (stepK a ds b.1) b.2 (qd a ds d c):=by unfold qd;rw[List.foldl_append];rfl
theorem ac3{L:b7}(k:L.Nodup){p:Nat->Bool}{r0:Nat}(h:∀r∈L,p r=true->r=r0)(m:p r0=true->r0∈L):L.filter p=if p r0=true then[r0]else[]:=by
 by_cases z:p r0=true
 .rw[bS z];have f:=k.filter p;have all:∀r∈L.filter p,r=r0:=λr c=>h r (g4.mp c).1 (g4.mp c).2;have g:r0∈L.filter p:=g4.mpr #[m z,z]
  match e:L.filter p with
  |[]=>rw[e]at g;exact bG g e3
  |[a]=>rw[e]at all;rw[all a (.head _)]
  |a::b::l=>
   rw[e]at all f;have:=(jw.mp f).1;exact bG (by rw[all a (.head _),all b (.tail _ (.head _))];exact .head _) this
 rw[bx z];refine List.filter_eq_nil_iff.mpr λr c d=>z ?_;rw[<-h r c d];exact d
noncomputable def Ou(ds:cC)(b:Nat->Int)(a:Nat->Nat)(T:Int)(c:b7)(i:Nat):Bool:=decide (i∈(mO ds b a T c (a i)).2)
theorem aiw{ds:cC}{c:Nat->Int}{a:Nat->Nat}{T:Int}{d:b7}(n:∀k∈d,a k<ds.length)(i:Nat):(rO ds c a T d).filter (λb=>decide (i∈b.2))=if Ou ds c a T d i=true then[mO ds c a T d (a i)]else[]:=by
 unfold rO;rw[It];have l:(o8 ds.length c a T d).Nodup:=(adC.filter _).imp λh=>eT h;rw[ac3 (r0:=a i) l (p:=(λb:kG×List Nat=>decide (i∈b.2))∘mO ds c a T d) (λr _ f=>((Mh (nK f)).2.2).symm) (λf=>?_)]
 .show List.map _ (if Ou ds c a T d i=true then[a i]else[])=_;cases Ou ds c a T d i<;>rfl
 have m:=Mh (nK f);unfold o8;refine g4.mpr #[lp.mpr (n i m.1),?_];have g:(c i,i)∈f7 c a T d (a i):=by unfold f7;refine cm.mpr #[i,g4.mpr #[m.1,?_],rfl];rw[cE m.2.1,cE rfl];rfl
 cases e:f7 c a T d (a i)with
 |nil=>rw[e]at g;exact bG g e3
 |cons _ _=>rfl
noncomputable def pf(n c y cp b a:Addr)(d:Int):List (Str×ao.V):=[("net",.ref n),("present",.int d),("posted",.ref c),("ways",.ref y),("shut_roads",.ref cp),("walk",.ref b),("sent",.ref a)]
structure tE(K:aN)(C:Addr):Prop where
 cl:dM K C
 nn:cD K (.ref C) "net"=some none
 np:cD K (.ref C) "present"=some none
 no:cD K (.ref C) "posted"=some none
 e8:cD K (.ref C) "ways"=some none
 s8:cD K (.ref C) "shut_roads"=some none
 jn:cD K (.ref C) "walk"=some none
 ns:cD K (.ref C) "sent"=some none
set_option genInjectivity false in
structure ct where
 (ag n pl y cp dp jX c5 g bM t a' b':Addr)
 (rs j_ ls jW:bL)
noncomputable def ct.b9(A:ct)(x:Addr):List Addr:=x::A.pl::A.y::A.t::A.cp::A.dp::A.g::A.bM::A.c5::A.ls
structure am2(A:ct)(x:Addr):Prop where
 e0:x≠A.pl
 ht:x≠A.y
 mV:x≠A.t
 qu:x≠A.cp
 CT:x≠A.dp
 G8:x≠A.g
 zz:x≠A.bM
 G9:x≠A.c5
 CU:x∉A.ls
 gy:A.pl≠A.y
 en:A.pl≠A.t
 k7:A.pl≠A.cp
 k8:A.pl≠A.dp
 rH:A.pl≠A.g
 B_:A.pl≠A.bM
 Tn:A.pl≠A.c5
 y6:A.pl∉A.ls
 hF:A.y≠A.t
 js:A.y≠A.cp
 Mo:A.y≠A.dp
 Hc:A.y≠A.g
 vh:A.y≠A.bM
 vi:A.y≠A.c5
 Vp:A.y∉A.ls
 t1:A.t≠A.cp
 gP:A.t≠A.dp
 t3:A.t≠A.g
 Cs:A.t≠A.bM
 w0:A.t≠A.c5
 zj:A.t∉A.ls
 b4:A.cp≠A.dp
 dI:A.cp≠A.g
 iw:A.cp≠A.bM
 uW:A.cp≠A.c5
 FZ:A.cp∉A.ls
 hr:A.dp≠A.g
 jr:A.dp≠A.bM
 i8:A.dp≠A.c5
 G3:A.dp∉A.ls
 g1:A.g≠A.bM
 g2:A.g≠A.c5
 g3:A.g∉A.ls
 s1:A.bM≠A.c5
 s2:A.bM∉A.ls
 aH:A.c5∉A.ls
 aI:A.ls.Nodup
theorem ZF{A:ct}(a:(A.b9 x).Nodup):am2 A x:=by unfold ct.b9 at a;simp only[jw,dr,not_or]at a;obtain⟨⟨y,q,F,G,c,k,Y,l,d⟩,⟨e,z,D,E,H,b,o,U⟩,⟨i,C,n,m,Q,R,p⟩,⟨M,V,O,f,T,X⟩,⟨t,w,u,P,g⟩,⟨j,B,s,h⟩,⟨K,L,N⟩,⟨I,J⟩,r,a⟩:=a;show#[y,q,F,G,c,k,Y,l,d,e,z,D,E,H,b,o,U,i,C,n,m,Q,R,p,M,V,O,f,T,X,t,w,u,P,g,j,B,s,h,K,L,N,I,J,r,a]
theorem ct.m0{A:ct}{x:Addr}:x∈A.b9 x:=.head _
theorem ct.kv{A:ct}:A.pl∈A.b9 x:=.tail _ (.head _)
theorem ct.nF{A:ct}:A.y∈A.b9 x:=.tail _ (.tail _ (.head _))
theorem ct.yR{A:ct}:A.t∈A.b9 x:=.tail _ (.tail _ (.tail _ (.head _)))
theorem ct.yS{A:ct}:A.cp∈A.b9 x:=.tail _ (.tail _ (.tail _ (.tail _ (.head _))))
theorem ct.yT{A:ct}:A.dp∈A.b9 x:=.tail _ (.tail _ (.tail _ (.tail _ (.tail _ (.head _)))))
theorem ct.yU{A:ct}:A.g∈A.b9 x:=.tail _ (.tail _ (.tail _ (.tail _ (.tail _ (.tail _ (.head _))))))
theorem ct.R9{A:ct}:A.bM∈A.b9 x:=.tail _ (.tail _ (.tail _ (.tail _ (.tail _ (.tail _ (.tail _ (.head _)))))))
theorem ct.KB{A:ct}:A.c5∈A.b9 x:=.tail _ (.tail _ (.tail _ (.tail _ (.tail _ (.tail _ (.tail _ (.tail _ (.head _))))))))
theorem ct.Fo{A:ct}{b:Addr}(h:b∈A.ls):b∈A.b9 x:=.tail _ (.tail _ (.tail _ (.tail _ (.tail _ (.tail _ (.tail _ (.tail _ (.tail _ h))))))))
theorem HV{A:ct}{p:Addr->Prop}(h:p x)(d:p A.pl)(f:p A.y)(g:p A.t)(k:p A.cp)(l:p A.dp)(m:p A.g)(c:p A.bM)(o:p A.c5)(n:∀b∈A.ls,p b):∀b∈A.b9 x,p b:=by
 intro b a;rcases dr.mp a with rfl|a
 .exact h
 rcases dr.mp a with rfl|a
 .exact d
 rcases dr.mp a with rfl|a
 .exact f
 rcases dr.mp a with rfl|a
 .exact g
 rcases dr.mp a with rfl|a
 .exact k
 rcases dr.mp a with rfl|a
 .exact l
 rcases dr.mp a with rfl|a
 .exact m
 rcases dr.mp a with rfl|a
 .exact c
 rcases dr.mp a with rfl|a
 .exact o
 exact n b a
theorem XY{A:ct}{l a b:Addr}{j_:bL}(h:b∈ct.b9 {A with pl:=l,j_:=j_,ls:=A.ls++[a]} x):b∈A.b9 x\/b=l\/b=a:=by
 have h:b∈x::l::([A.y,A.t,A.cp,A.dp,A.g,A.bM,A.c5]++(A.ls++[a])):=h;rw[<-oN]at h;rcases dr.mp h with rfl|h
 .exact .inl (.head _)
 rcases dr.mp h with h|h
 .exact .inr (.inl h)
 rcases hy.mp h with h|h
 .exact .inl (.tail _ (.tail _ h))
 exact .inr (.inr (gp.mp h))
theorem ac4{A:ct}{l d:Addr}{j_:bL}(c:(A.b9 x).Nodup)(f:l∉A.b9 x)(g:d∉A.b9 x)(n:l≠d):(ct.b9 {A with pl:=l,j_:=j_,ls:=A.ls++[d]} x).Nodup:=by
 show(x::l::([A.y,A.t,A.cp,A.dp,A.g,A.bM,A.c5]++(A.ls++[d]))).Nodup;have c:(x::A.pl::([A.y,A.t,A.cp,A.dp,A.g,A.bM,A.c5]++A.ls)).Nodup:=c;have f:l∉x::A.pl::([A.y,A.t,A.cp,A.dp,A.g,A.bM,A.c5]++A.ls):=f;have g:d∉x::A.pl::([A.y,A.t,A.cp,A.dp,A.g,A.bM,A.c5]++A.ls):=g;rw[<-oN];generalize[A.y,A.t,A.cp,A.dp,A.g,A.bM,A.c5]++A.ls=M at c f g⊢;obtain⟨o,c⟩:=jw.mp c;obtain⟨p,c⟩:=jw.mp c;have k:∀a∈M++[d],a∈M\/a=d:=λa h=>(hy.mp h).imp id gp.mp;refine jw.mpr #[λz=>?_,jw.mpr #[λz=>?_,?_]]
 .rcases dr.mp z with z|z
  .exact f (z▸.head _)
  rcases k _ z with z|z
  .exact o (.tail _ z)
  exact g (z▸.head _)
 .rcases k _ z with z|z
  .exact f (.tail _ (.tail _ z))
  exact n z
 exact vE.mpr #[c,jw.mpr #[e3,sd],λa h b m e=>g (.tail _ (.tail _ (gp.mp m▸e▸h)))]
set_option genInjectivity false in
structure c8 where
 pr:Int
 bB:List xW
 aY:List (List Step)
 mT:List (kG×List Nat)
 kvs:gm
 iR:List Nat
noncomputable def mS(l:b7):List (bq×ao.V):=l.map λr:Nat=>(fV (r:Int),.aV true)
noncomputable def e_(a:AG):List Str:=a.map λd=>d.2.2
structure ej(ay C aw aq:Addr)(bD H:af)(x:Addr)(A:ct)(hs:bt)(ds:cC)(s:c8):Prop where
 cL:aB bD H
 el:hL aq bD A.n A.a' A.b' (cN hs) (aS A.rs)
 fJ:gs bD hs A.rs ds
 ins:H x=some (.ins ay A.ag (pf A.n A.pl A.y A.cp A.dp A.c5 s.pr))
 po:H A.pl=some (.lst (aS A.j_))
 pt:eE H A.j_ (s.bB.map rz)
 d3:∃bh,H A.y=some (.ins aw bh (kW A.n A.t))
 tB:H A.t=some (.dB s.kvs)
 cp:H A.cp=some (.cv (mS s.iR))
 wi:H A.dp=some (.ins C A.jX (Hp A.n A.g A.bM))
 hY:H A.g=some (.lst ((e_ s.bB).map V.str))
 ws:H A.bM=some (.lst (aS A.ls))
 pA:b2 (il H) A.ls s.aY
 c5:H A.c5=some (.lst (aS A.jW))
 sp:b2 (nI H) A.jW s.mT
 aI:(A.b9 x).Nodup
 fr:∀b∈A.b9 x,bD b=none
structure gH(M iV:bL)(H H':af):Prop where
 keep:∀b o,b∉M->H b=some o->H' b=some o
 own:∀b∈iV,b∈M\/H b=none
theorem gH.refl(a:aB H H'):gH M M H H':=#[λb o _ e=>a b o e,λ_ h=>.inl h]
theorem gH.trans(a:gH M j H H')(b:gH j i H' q):gH M i H q:=by
 show#[λc o f e=>b.keep c o (λz=>?_) (a.keep c o f e),λc g=>?_]
 .rcases a.own c z with h|h
  .exact f h
  rw[h]at e;cases e
 rcases b.own c g with h|h
 .exact a.own c h
 by_cases d:c∈M
 .exact .inl d
 right;cases e:H c with
 |none=>rfl
 |some o=>rw[a.keep c o d e]at h;cases h
theorem ej.same{A:ct}{s:c8}(D:ej j C i e q H x A hs ds s)(a:aB H H'):ej j C i e q H' x A hs ds s:=
 let⟨bh,h⟩:=D.d3
 #[D.cL.trans a,D.el,D.fJ,a _ _ D.ins,a _ _ D.po,D.pt.same a,#[bh,a _ _ h],a _ _ D.tB,a _ _ D.cp,a _ _ D.wi,a _ _ D.hY,a _ _ D.ws,Wi D.pA a,a _ _ D.c5,b2.fT D.sp λ_ _ h=>h.same a,D.aI,D.fr]
theorem LL{H:af}{a:bL}(p:b2 (il H) a aY){l:Addr}(c:l∈a):∃b,H l=some (.lst b):=by obtain⟨i,d,f⟩:=xD c;obtain⟨_,_,b,e,_⟩:=b2.get p (gn.mpr #[d,f]);show#[_,e]
theorem ej.lJ{H:af}{A:ct}{s:c8}(D:ej q C j i u H x A hs ds s){b:Addr}(a:b∈A.b9 x):H b≠some (.tup v):=λe=>by
 obtain⟨bh,f⟩:=D.d3;exact HV (p:=λb=>∀v,H b≠some (.tup v)) (λv z=>by rw[D.ins]at z;cases z) (λv z=>by rw[D.po]at z;cases z) (λv z=>by rw[f]at z;cases z) (λv z=>by rw[D.tB]at z;cases z) (λv z=>by rw[D.cp]at z;cases z) (λv z=>by rw[D.wi]at z;cases z) (λv z=>by rw[D.hY]at z;cases z) (λv z=>by rw[D.ws]at z;cases z) (λv z=>by rw[D.c5]at z;cases z) (λl d v z=>by
  obtain⟨g,c⟩:=LL D.pA d;rw[c]at z;cases z) b a v e
theorem ej.live{H:af}{A:ct}{s:c8}(D:ej q C j i u H x A hs ds s){l:Addr}(d:H l=none):l∉A.b9 x:=λa=>by
 obtain⟨bh,c⟩:=D.d3;have ok:∀{b:Addr}{o:gQ},H b=some o->b≠l:=λe z=>by rw[z,d]at e;cases e
 exact HV (p:=λb=>b≠l) (ok D.ins) (ok D.po) (ok c) (ok D.tB) (ok D.cp) (ok D.wi) (ok D.hY) (ok D.ws) (ok D.c5) (λb h=>let⟨_,e⟩:=LL D.pA h;ok e) l a rfl
theorem ej.frame{H H':af}{A:ct}{s:c8}(D:ej B C u q i H x A hs ds s){M:bL}(y:aB i H')(k:∀b o,b∉M->H b=some o->H' b=some o)(w:∀b∈A.b9 x,b∉M)(V:∀b∈M,∀v,H b≠some (.tup v)):ej B C u q i H' x A hs ds s:=by
 have a:∀b o,b∈A.b9 x->H b=some o->H' b=some o:=λb o K e=>k b o (w b K) e;have d:∀b v,H b=some (.tup v)->H' b=some (.tup v):=λb v e=>k b _ (λz=>V b z v e) e;obtain⟨bh,N⟩:=D.d3;show#[y,D.el,D.fJ,a _ _ ct.m0 D.ins,a _ _ ct.kv D.po,b2.fT D.pt λ_ _ e=>d _ _ e,#[bh,a _ _ ct.nF N],a _ _ ct.yR D.tB,a _ _ ct.yS D.cp,a _ _ ct.yT D.wi,a _ _ ct.yU D.hY,a _ _ ct.R9 D.ws,?_,a _ _ ct.KB D.c5,b2.fT D.sp λ_ _⟨c,m,n⟩=>#[c,d _ _ m,d _ _ n],D.aI,D.fr];have E:∀{f:bL}{g:hR},b2 (il H) f g->(∀l∈f,l∈A.ls)->b2 (il H') f g:=λ{f g}p=>by
  induction p with
  |nil=>exactλ_=>.nil
  |cons r t j=>
   refineλh=>.cons ?_ (j λl L=>h l (.tail _ L))
   obtain⟨F,m,n⟩:=r;show#[F,a _ _ (ct.Fo (h _ (.head _))) m,b2.fT n λ_ _ e=>d _ _ e]
 exact E D.pA λ_ h=>h
theorem ej.walk{A:ct}{s:c8}(D:ej j C i e q H x A hs ds s):WalkAt C H A.dp A.n A.g A.bM (e_ s.bB) A.ls s.aY:=#[#[_,D.wi],D.hY,D.ws,D.pA]
theorem ej.asU{A:ct}{s:c8}(D:ej j C i e q H x A hs ds s):rF i e H A.y A.n A.t A.a' A.b' (cN hs) (aS A.rs) s.kvs:=#[D.d3,D.el.same D.cL,D.tB]
section
variable{P:cx}{w:bf}{K:aN}{mg:cb}{base:Heap}
inductive Iz(ay C aw aq:Addr)(vs:aO)(H:af)(Q:a4)(f':bY):Prop where
 |mk(bD:af)(x:Addr)(A:ct)(hs:bt)(ds:cC)(s:c8)(_:vs=[.ref x])(_:ej ay C aw aq bD H x A hs ds s)(_:Q (.int s.pr) H)
noncomputable abbrev Ec:Stmt:=fS (top 63) 1
theorem alz:cI cG cG (b5 Ec):={}
theorem ajJ{f:Addr}(F:cj K "now" "Day.now" Ec f fd)(a:tE K e):aD P w K mg base a3 1 f fd cG (Iz e C j i):=by
 refine F.ok alz (λ_ A _ s H vs Q E b h=>?_);obtain⟨c,x,A,d,ds,s,rfl,D,q⟩:=h;show#[_,(a7 (cd (d5 (ae 0)))),?_]
 try dsimp only[cT,cS]
 show#[_,rfl,x,e,_,_,_,rfl,D.ins,a.cl,a.np,rfl,q]
noncomputable def Jz(n:Addr):List (Str×ao.V):=[("net",.ref n)]
noncomputable def JA(n:Addr)(a:Int):List (Str×ao.V):=[("net",.ref n),("present",.int a)]
noncomputable def Et(n:Addr)(b:Int)(a:Addr):List (Str×ao.V):=[("net",.ref n),("present",.int b),("posted",.ref a)]
noncomputable def x7(n:Addr)(b:Int)(a:Addr)(y:Addr):List (Str×ao.V):=[("net",.ref n),("present",.int b),("posted",.ref a),("ways",.ref y)]
noncomputable def AW(n:Addr)(b:Int)(a:Addr)(y:Addr)(cp:Addr):List (Str×ao.V):=[("net",.ref n),("present",.int b),("posted",.ref a),("ways",.ref y),("shut_roads",.ref cp)]
noncomputable def Eu(n:Addr)(c:Int)(b:Addr)(y:Addr)(cp:Addr)(a:Addr):List (Str×ao.V):=[("net",.ref n),("present",.int c),("posted",.ref b),("ways",.ref y),("shut_roads",.ref cp),("walk",.ref a)]
theorem SN{H:af}(c:H a=some o)(d:H b=some u)(h:o≠u):a≠b:=λz=>by rw[z,d]at c;exact h (hI c).symm
inductive IA(ay C aw aq:Addr)(vs:aO)(H:af)(Q:a4)(f':bY):Prop where
 |mk(x ag n a' b':Addr)(hs:bt)(rs:bL)(ds:cC)(pr:Int)(_:vs=[.ref x,.ref n,.int pr])(_:H x=some (.ins ay ag []))(_:hL aq H n a' b' (cN hs) (aS rs))(_:Good hs)(_:gs H hs rs ds)(_:rs.length<=40)(_:∀(H':af)(A:ct)(kvs:gm),SameBut x H H'->ej ay C aw aq (mask H [x]) H' x A hs ds ⟨pr,[],[],[],kvs,[]⟩->A.n=n->A.rs=rs->ru hs ds kvs->(∀b∈A.b9 x,b=x\/H b=none)->Q .b3 H')
noncomputable abbrev Ed:Stmt:=fS (top 63) 0
theorem alA:cI vG vG (b5 Ed):={}
theorem ajK{f:Addr}(F:cj K "__init__" "Day.__init__" Ed f fd)(r:tE K i)(GY:mg "Walk"=some (.ref C))(BL:cu K mg "shortest" Ly ["net"] f1 c2)(ac5:aD P w K mg base a3 4 f1 c2 ["net"] (σ aw aq))(aix:lq K C kR)(yH:jc K C "Walk.__init__" IW DI kR ur)(ab2:aD P w K mg base a3 2 kR ur DI (ε C)):aD P w K mg base a3 5 f fd vG (IA i C aw aq):=by
 refine F.ok alA (λ_ A _ s H vs Q E al h=>?_);obtain⟨x,c,n,a',b',hs,rs,ds,l,rfl,ar,N,G,R,Ga,q⟩:=h;show#[_,(a6 (h5 (ae 0) (ae 1) rfl)
  (a6 (h5 (ae 0) (ae 2) rfl)
  (a6 (h5 (ae 0) (g7 aA) rfl)
  (a6 (h5 (ae 0) (d9 ac5 BL al.mono b0 (ak (ae 1) aA)) rfl)
  (a6 (h5 (ae 0) VD rfl)
  (a6 (h5 (ae 0) (o4 aix ab2 al.mono (by rfl) GY yH.bd .nil b0 (ak (ae 1) (ak (g7 aA) aA))) rfl)
  (a7 (h5 (ae 0) (g7 aA) rfl)))))))),?_]
 try dsimp only[cT,cS]
 have wC:∀b o,b≠x->H b=some o->mask H [x] b=some o:=λb o L e=>ov e (by simpa using L);obtain⟨eV,aM⟩:=N.ins;have aq3:n≠x:=λz=>by rw[z,ar]at aM;cases aM
 have aqN:a'≠x:=SN N.jL ar (by intro z;cases z);have aqO:b'≠x:=SN N.ky ar (by intro z;cases z);have Yo:hL aq (mask H [x]) n a' b' (cN hs) (aS rs):=#[#[eV,wC _ _ aq3 aM],wC _ _ aqN N.jL,wC _ _ aqO N.ky]
 have Zf:gs (mask H [x]) hs rs ds:=#[b2.fT R.gz λa d e=>wC _ _ (SN e ar (by intro z;cases z)) e,R.ok]
 have T:∀{B:af}{o:gQ},aB (mask H [x]) B->aB (mask H [x]) (upd B x o):=λ{B o}T7=>gJ (MO (by simp)) T7;have s0:=F4 H [x];have I:∀{B:af}{o:gQ},aB (mask H [x]) B->B x=some o->∀{b},B b=none->H b=none/\b≠x:=λ{B o}T7 ex{b}e=>by
  have L:b≠x:=λz=>by rw[z,ex]at e;cases e
  show#[?_,L];cases aF:H b with
  |none=>rfl
  |some u=>rw[T7 _ _ (wC b u L aF)]at e;cases e
 show#[_,rfl,_,rfl,x,i,c,_,rfl,ar,r.cl,r.nn,(by show 0<1000;decide),?_];show#[_,rfl,_,rfl,x,i,c,_,rfl,aK,r.cl,r.np,(by show 1<1000;decide),?_];have s2:aB (mask H [x]) (upd (upd H x (.ins i c (Jz n))) x (.ins i c (JA n l))):=T (T s0);have aj:upd (upd H x (.ins i c (Jz n))) x (.ins i c (JA n l)) x=_:=aK;show gN _ _ _ _ (upd (upd H x (.ins i c (Jz n))) x (.ins i c (JA n l)));generalize upd (upd H x (.ins i c (Jz n))) x (.ins i c (JA n l))=ai at s2 aj⊢;show#[(by show 0<=sizeLine;decide),λk ţ=>?_];have f1:=I s2 aj ţ;have bp:=s2.trans (bF (o:=.lst []) ţ);show#[_,rfl,x,i,c,_,rfl,(aJ f1.2.symm).trans aj,r.cl,r.no,(by show 2<1000;decide),?_];have cc:=T (o:=.ins i c (Et n l k)) bp;have c':upd (upd ai k (.lst [])) x (.ins i c (Et n l k)) x=_:=aK;have k8:upd (upd ai k (.lst [])) x (.ins i c (Et n l k)) k=some (.lst (aS [])):=(aJ f1.2).trans aK;show gN _ _ _ _ (upd (upd ai k (.lst [])) x (.ins i c (Et n l k)));generalize upd (upd ai k (.lst [])) x (.ins i c (Et n l k))=da at cc c' k8⊢;show#[_,rfl,n,a',b',hs,rs,ds,rfl,Yo.same cc,G,Zf.same cc,Ga,λy t Z kvs e8 ec TU ON ST=>?_];have O:=I cc c' e8;have M:=I cc c' ec;obtain⟨bh,b6⟩:=ON.ins;have aro:y≠t:=ao.eg b6 ON.told (by intro z;cases z);have ard:k≠y:=b1 k8 e8;have arc:k≠t:=b1 k8 ec;have c4:=cc.trans TU;show#[_,rfl,x,i,c,_,rfl,TU _ _ c',r.cl,r.e8,(by show 3<1000;decide),?_];have hN:=T (o:=.ins i c (x7 n l k y)) c4;have h7:upd Z x (.ins i c (x7 n l k y)) x=_:=aK;have B_:upd Z x (.ins i c (x7 n l k y)) k=_:=(aJ f1.2).trans (TU _ _ k8);have vi:upd Z x (.ins i c (x7 n l k y)) y=_:=(aJ O.2).trans b6;have zj:upd Z x (.ins i c (x7 n l k y)) t=_:=(aJ M.2).trans ON.told;show gN _ _ _ _ (upd Z x (.ins i c (x7 n l k y)));generalize upd Z x (.ins i c (x7 n l k y))=g0 at hN h7 B_ vi zj⊢
 refineλcp FC=>?_
 have f4:=I hN h7 FC;have Ut:=bF (o:=.cv []) FC;show#[_,rfl,x,i,c,_,rfl,Ut _ _ h7,r.cl,r.s8,(by show 4<1000;decide),?_];have ic:=T (o:=.ins i c (AW n l k y cp)) (hN.trans Ut);have og:upd (upd g0 cp (.cv [])) x (.ins i c (AW n l k y cp)) x=_:=aK;have yN:∀b o,b≠x->g0 b=some o->upd (upd g0 cp (.cv [])) x (.ins i c (AW n l k y cp)) b=some o:=λb o L e=>(aJ L).trans (Ut _ _ e);have uX:upd (upd g0 cp (.cv [])) x (.ins i c (AW n l k y cp)) cp=some (.cv []):=(aJ f4.2).trans aK;show gN _ _ _ _ (upd (upd g0 cp (.cv [])) x (.ins i c (AW n l k y cp)));generalize upd (upd g0 cp (.cv [])) x (.ins i c (AW n l k y cp))=hH at ic og yN uX⊢;have y6:=yN _ _ f1.2 B_;have Vq:=yN _ _ O.2 vi;have Ct:=yN _ _ M.2 zj;have FA:k≠cp:=b1 B_ FC;have arn:y≠cp:=b1 vi FC;have arh:t≠cp:=b1 zj FC;show#[_,rfl,(by show 0<=sizeLine;decide),λKA aq0=>λm j K4 Ś ax1=>?_];have GL:=bF (o:=.lst []) aq0;have sZ:upd hH KA (.lst []) KA=some (.lst (aS [])):=aK;generalize upd hH KA (.lst [])=xf at GL sZ K4 Ś⊢;have Ur:aB xf (upd (upd xf j (.own m)) m (.ins C j [])):=λb u e=>by rw[aJ (b1 e K4),aJ (b1 e Ś)];exact e
 have L8:upd (upd xf j (.own m)) m (.ins C j []) m=some (.ins C j []):=aK;generalize upd (upd xf j (.own m)) m (.ins C j [])=atO at Ur L8⊢;have Y:=GL.trans Ur;have TR:=ic.trans Y;have rk:=Y _ _ og;have U:=I (ic.trans GL) (GL _ _ og) K4;have p:∀{b o},hH b=some o->b≠m:=λ{b o}e=>b1 (GL _ _ e) K4;have Tl:=Y _ _ y6;have Vo:=Y _ _ Vq;have Um:=Y _ _ Ct;have Tu:=Y _ _ uX;show#[m,j,n,KA,[],[],rfl,L8,Ur _ _ sZ,.nil,e4 _,λz3 g bM mL cL IY hM rG _ _ KS=>#[rfl,?_]];have nl:mL=[]:=by have:=jy IY.each;exact NI.mp this
 subst nl;obtain⟨anR,E0⟩:=IY.ins;have A7:=I TR rk hM;have fs:=I TR rk rG;have atb:=cL _ _ U.2.symm rk;have arw:=cL _ _ (p y6) Tl;have atg:=cL _ _ (p Vq) Vo;have asl:=cL _ _ (p Ct) Um;have arF:=cL _ _ (p uX) Tu;have arV:aB (mask H [x]) z3:=λb o e=>by refine cL b o (λz=>?_) (TR b o e);have:=(F4 H [x]) _ _ e;rw[z,U.1]at this;cases this
 show#[_,rfl,x,i,c,_,rfl,atb,r.cl,r.jn,(by show 5<1000;decide),?_];have gO:=T (o:=.ins i c (Eu n l k y cp m)) arV;have oe:upd z3 x (.ins i c (Eu n l k y cp m)) x=_:=aK;have J:∀b o,b≠x->z3 b=some o->upd z3 x (.ins i c (Eu n l k y cp m)) b=some o:=λb o L e=>(aJ L).trans e;dsimp only;show ξ _ _ _ _ _ _ (upd z3 x (.ins i c (Eu n l k y cp m)));generalize upd z3 x (.ins i c (Eu n l k y cp m))=W0 at gO oe J⊢;have Ŭ:=J _ _ f1.2 arw;have aa1:=J _ _ O.2 atg;have aan:=J _ _ M.2 asl;have ű:=J _ _ f4.2 arF;have aaE:=J _ _ U.2 E0;have ñ:=J _ _ A7.2 IY.goals;have Ľ:=J _ _ fs.2 IY.steps;show#[(by show 0<=sizeLine;decide),λc5 V=>?_];have uu:=I gO oe V;have Us:=bF (o:=.lst []) V;show#[_,rfl,x,i,c,_,rfl,Us _ _ oe,r.cl,r.ns,(by show 6<1000;decide),?_];have ż:=T (o:=.ins i c (pf n k y cp m c5 l)) (gO.trans Us);have X:∀b o,b≠x->W0 b=some o->upd (upd W0 c5 (.lst [])) x (.ins i c (pf n k y cp m c5 l)) b=some o:=λb o L e=>(aJ L).trans (Us _ _ e);have aH:=b1 Ŭ V;have aF:=b1 aa1 V;have c6:=b1 aan V;have fb:=b1 ű V;have ji:=b1 aaE V;have oU:=b1 ñ V;have Ew:=b1 Ľ V;refine q _ #[c,n,k,y,cp,m,anR,c5,g,bM,t,a',b',rs,[],[],[]] kvs (λb o L e=>ż _ _ (wC b o L e)) #[ż,Yo,Zf,aK,X _ _ f1.2 Ŭ,.nil,#[bh,X _ _ O.2 aa1],X _ _ M.2 aan,X _ _ f4.2 ű,X _ _ U.2 aaE,X _ _ A7.2 ñ,X _ _ fs.2 Ľ,.nil,(aJ uu.2).trans aK,.nil,?_,?_] rfl rfl ST ?_
 .have i3:=p y6;have l9:=p Vq;have Tf:=p Ct;have Tg:=p uX;have g1:=b1 Tl hM;have g2:=b1 Vo hM;have g3:=b1 Um hM;have p7:=b1 Tu hM;have ip:=b1 L8 hM;have dZ:=b1 Tl rG;have dG:=b1 Vo rG;have i1:=b1 Um rG;have jN:=b1 Tu rG;have Bz:=b1 L8 rG;unfold ct.b9;simp only[jw,dr,e3,or_false,not_or];show#[#[f1.2.symm,O.2.symm,M.2.symm,f4.2.symm,U.2.symm,A7.2.symm,fs.2.symm,uu.2.symm],#[ard,arc,FA,i3,g1,dZ,aH],#[aro,arn,l9,g2,dG,aF],#[arh,Tf,g3,i1,c6],#[Tg,p7,jN,fb],#[ip,Bz,ji],#[KS,oU],Ew,not_false,sd]
 .have D:∀{b},H b=none->mask H [x] b=none:=λ{b}e=>by
   cases aF:mask H [x] b with
   |none=>rfl
   |some o=>rw[(F4 H [x]) _ _ aF]at e;cases e
  exact HV (MO (.head _)) (D f1.1) (D O.1) (D M.1) (D f4.1) (D U.1) (D A7.1) (D fs.1) (D uu.1) λ_ h=>nomatch h
 exact HV (.inl rfl) (.inr f1.1) (.inr O.1) (.inr M.1) (.inr f4.1) (.inr U.1) (.inr A7.1) (.inr fs.1) (.inr uu.1) λ_ h=>nomatch h
noncomputable def nE(d:xW):PyData:=.tuple [.str d.1,.int d.2.1,.str d.2.2]
theorem Yf:∀{rs:bL}{a:AG},eE H rs (a.map rz)->(∀d∈a,c7 H (.str d.1) (.str d.1)/\c7 H (.str d.2.2) (.str d.2.2))->eC H (aS rs) (a.map nE)
 |[],[],_,_=>.nil
 |_::_,d::_,.cons h t,g=>.cons (.tup h (by show 3<=100;decide) (.cons (g d (.head _)).1 (.cons (.int _) (.cons (g d (.head _)).2 .nil)))) (Yf t λe b=>g e (.tail _ b))
theorem Yh:∀{b:AG}{vs:aO},eC H vs (b.map nE)->∃rs,vs=aS rs/\eE H rs (b.map rz)
 |[],_,.nil=>#[[],rfl,.nil]
 |d::b,_,.cons (v:=v) (vs:=vs) h t=>by
  obtain⟨a,k,rfl,f,_,c⟩:=Y3 h;obtain⟨rs,rfl,g⟩:=Yh t;show#[a::rs,rfl,.cons ?_ g];cases c with
  |cons ah i=>cases i with
   |cons aj j=>cases j with
    |cons e q=>
     cases q;cases ah;cases aj;cases e;exact f
theorem aeT(b:AG):(YF (b.map nE)).depth<=62:=by refine dX (NV (LI (n:=1) λy a=>?_)) (by decide);obtain⟨d,_,rfl⟩:=cm.mp a;exact cB _
end
theorem abd{H H':af}{x g c:Addr}(k:∀{b o},b≠x->b≠g->b≠c->H b=some o->H' b=some o)(r:∀b v,H b=some (.tup v)->H' b=some (.tup v)){a:bL}(p:b2 (il H) a aY)(f:x∉a)(d:g∉a)(l:c∉a):b2 (il H') a aY:=by
 induction p with
 |nil=>exact .nil
 |cons h t i=>
  obtain⟨w,m,n⟩:=h;exact .cons #[w,k (λz=>f (z▸.head _)) (λz=>d (z▸.head _)) (λz=>l (z▸.head _)) m,b2.fT n λ_ _ e=>r _ _ e] (i (λz=>f (.tail _ z)) (λz=>d (.tail _ z)) λz=>l (.tail _ z))
noncomputable def Ny(a:bt)(b:AG):Prop:=∀d∈b,d.1∈a.map S/\d.2.2∈a.map S
noncomputable def Dh(s:c8)(h g:Str):c8:={s with bB:=s.bB++[(h,s.pr,g)],aY:=s.aY++[CL (h,s.pr,g)]}
inductive HW(ay C aw aq c1:Addr)(vs:aO)(H:af)(Q:a4)(E:bY):Prop where
 |mk(bD:af)(x:Addr)(A:ct)(hs:bt)(ds:cC)(s:c8)(h g:Str)(_:vs=[.ref x,.str h,.str g])(_:ej ay C aw aq bD H x A hs ds s)(_:Good hs)(_:Ny hs s.bB)(_:s.bB.length<=40)(_:s.aY.length=s.bB.length)(_:(∀H,c7 H (.str h) (.str h)))(_:(∀H,c7 H (.str g) (.str g)))(_:(r1 (bI hs) ((s.bB++[(h,s.pr,g)]).map nE)->∀H' c0,gH (A.b9 x) (c0.b9 x) H H'->ej ay C aw aq bD H' x c0 hs ds (Dh s h g)->Q (.int (s.bB.length:Int)) H'))(_:(¬r1 (bI hs) ((s.bB++[(h,s.pr,g)]).map nE)->∀ag H',H ag=none->aB H H'->H' ag=some (oI ag [("number",O_ (oX (bI hs) ((s.bB++[(h,s.pr,g)]).map nE)))])->E (.ref c1) (some ag) H'))
section
variable{P:cx}{w:bf}{K:aN}{mg:cb}{base:Heap}
noncomputable abbrev Di:Stmt:=fS (top 63) 2
theorem Zv:cI ["self","house","goal","letter"] iU (b5 Di):={}
theorem aiy{f:Addr}(F:cj K "post" "Day.post" Di f fd)(B:ft mg)(m:tE K i)(jF:dM K C)(Bu:cu K mg "letters_of" IZ DL f1 c2)(abP:aD P w K mg base (iz P w) 4 f1 c2 DL (Z9 aq c1))(q0:cH K C "take_in" "Walk.take_in" Dm vJ f2 eW)(SA:aD P w K mg base a3 1 f2 eW vJ (Nw C)):aD P w K mg base (iz P w) 5 f fd iU (HW i C aw aq c1):=by
 refine y3 F Zv (λ_ A _ s H vs Q E al h=>?_);obtain⟨bD,x,A,hs,ds,s,t,p,rfl,D,G,z7,jO,R4,tn,ez,q,fq⟩:=h;show#[_,(a6 (dO 3 Zv.aI (rE (ak (ae 1) (ak (d5 (ae 0)) (ak (ae 2) aA)))))
  (a6 (h5 (ae 0) (d9 abP Bu al.mono nr (ak (d5 (ae 0)) (ak (bO ul (d5 (ae 0)) (g7 (ak (ae 3) aA))) aA))) rfl)
  (a6 (hj (fy (d5 (ae 0)) jF q0.dQ SA al.mono q0.bd .nil b0 (ak (ae 3) aA)))
  (a7 (cd (bO Hj (eD kN B.len jI (ak (d5 (ae 0)) aA)) aZ)))))),?_]
 try dsimp only[cT,cS]
 show#[_,rfl,_,rfl,x,i,_,_,_,rfl,D.ins,m.cl,m.np,rfl,_,rfl,(by show 3<=sizeLine;decide),λg lK=>?_];have zp:=bF (o:=.tup (rz (t,s.pr,p))) lK;have t1:upd H g (.tup (rz (t,s.pr,p))) g=some (.tup (rz (t,s.pr,p))):=aK;show gN _ _ _ _ (upd H g (.tup (rz (t,s.pr,p))));generalize upd H g (.tup (rz (t,s.pr,p)))=H1 at zp t1⊢;have hv:=D.same zp;have Ņ:A.j_.length=s.bB.length:=by have:=jy D.pt;rw[bP]at this;exact this
 show#[_,rfl,x,i,_,_,_,rfl,hv.ins,m.cl,m.nn,rfl,_,rfl,x,i,_,_,_,rfl,hv.ins,m.cl,m.no,rfl,_,rfl,(by show 1<=sizeLine;decide),λdZ cz=>?_];have I:=bF (o:=.lst [V.ref g]) cz;have aj:upd H1 dZ (.lst [V.ref g]) dZ=some (.lst [V.ref g]):=aK;generalize upd H1 dZ (.lst [V.ref g])=ai at I aj⊢;have f_:=hv.same I;show#[A.pl,dZ,_,_,rfl,rfl,f_.po,aj,(by rw[fo];show _+1<=sizeLine;exact mi (e' (by omega))),λR cA=>?_];rw[yP];have j:=bF (o:=.lst (aS (A.j_++[g]))) cA;have bZ:upd ai R (.lst (aS (A.j_++[g]))) R=some (.lst (aS (A.j_++[g]))):=aK;generalize upd ai R (.lst (aS (A.j_++[g])))=bz at j bZ⊢;have L:=f_.same j;have Z:=zp.trans (I.trans j);have asG:eE bz (A.j_++[g]) ((s.bB++[(t,s.pr,p)]).map rz):=by rw[eK];exact Paired.snoc (F:=λr d=>bz r=some (.tup d)) (j _ _ (I _ _ t1)) L.pt
 have asA:c7 bz (.ref R) (.list ((s.bB++[(t,s.pr,p)]).map nE)):=by
  refine .lst bZ (by rw[fo,eM];show _+1<=100;omega) (Yf asG λd hd=>?_);rcases hy.mp hd with z|z
  .show#[tb G (z7 d z).1,tb G (z7 d z).2]
  rw[gp.mp z];show#[tn _,ez _]
 show#[A.n,A.a',A.b',hs,_,.ref R,_,rfl,L.el.same L.cL,G,asA,aeT _,λans l k Y u asz=>?_,λna ag k aI u hd=>?_]
 .obtain⟨_,xs,gV,l5,_,ro⟩:=Ng asz;cases gV;obtain⟨j_,rfl,O⟩:=Yh ro;have a:=L.same u;obtain⟨bh,ap5⟩:=a.d3;have J:=Z.trans u;have SO:H l=none:=by
   cases e:H l with
   |none=>rfl
   |some o=>rw[Z _ _ e]at Y;cases Y
  have M:=ZF D.aI;show#[_,rfl,x,i,A.ag,_,rfl,a.ins,m.cl,m.no,(by show 7<1000;decide),?_];have eX:upd k x (.ins i A.ag (pf A.n l A.y A.cp A.dp A.c5 s.pr)) x=_:=aK;have N:∀b o,b≠x->k b=some o->upd k x (.ins i A.ag (pf A.n l A.y A.cp A.dp A.c5 s.pr)) b=some o:=λb o U e=>(aJ U).trans e;have BV:∀b,upd k x (.ins i A.ag (pf A.n l A.y A.cp A.dp A.c5 s.pr)) b=none->k b=none:=λb e=>by
   have U:b≠x:=λz=>by rw[z,aK]at e;cases e
   rw[aJ U]at e;exact e
  show gN _ _ _ _ (upd k x (.ins i A.ag (pf A.n l A.y A.cp A.dp A.c5 s.pr)));generalize upd k x (.ins i A.ag (pf A.n l A.y A.cp A.dp A.c5 s.pr))=bK at eX N BV⊢;have Kz:(e_ s.bB).length=s.bB.length:=bP _;have mL:A.ls.length=s.bB.length:=(jy D.pA).trans R4;show#[_,rfl,x,i,_,_,_,rfl,eX,m.cl,m.jn,rfl,A.dp,A.jX,_,rfl,N _ _ (dY M.CT) a.wi,rfl,_,rfl,A.dp,A.jX,A.n,A.g,A.bM,g,e_ s.bB,A.ls,(t,s.pr,p),rfl,N _ _ (dY M.CT) a.wi,N _ _ (dY M.G8) a.hY,N _ _ (dY M.zz) a.ws,M.g1,N _ _ (ao.eg (u _ _ (j _ _ (I _ _ t1))) a.ins (by intro z;cases z)) (u _ _ (j _ _ (I _ _ t1))),(by omega),(by omega),λT ku asm yM apb apR KV axZ Q0 apW=>?_];have y:∀{b o},b≠x->b≠A.g->b≠A.bM->k b=some o->T b=some o:=λ{b o}cz cA iu e=>yM b o cA iu (N b o cz e);have i0:∀b v,k b=some (.tup v)->T b=some (.tup v):=λb v e=>y (ao.eg e a.ins (by intro z;cases z)) (ao.eg e a.hY (by intro z;cases z)) (ao.eg e a.ws (by intro z;cases z)) e;have nm:∀b o,k b=some o->b≠ku:=λb o e z=>by rw[z,BV _ KV]at e;cases e
  have rA:l≠x:=dY (b1 L.ins Y);have aqr:l≠A.g:=dY (b1 L.hY Y);have aqw:l≠A.bM:=dY (b1 L.ws Y);have ü:=yM x _ M.G8 M.zz eX;have û:=y rA aqr aqw l5;have aqu:j_.length=s.bB.length+1:=by have:=jy O;rw[bP,eM]at this;exact this
  show#[_,rfl,x,i,_,_,_,rfl,ü,m.cl,m.no,rfl,l,_,rfl,.inl (aQ.of û),_,_,rfl,rfl,?_];rw[fo,aqu];show Q (.int (((s.bB.length+1:Nat):Int)-1)) T;rw[show(((s.bB.length+1:Nat):Int)-1)=(s.bB.length:Int) by omega];have SP:H ku=none:=by
   cases e:H ku with
   |none=>rfl
   |some o=>exact bG rfl (nm _ _ (J _ _ e))
  have old:∀{b o},bD b=some o->b∉A.b9 x:=λ{b o}e z=>by rw[D.fr b z]at e;cases e
  have hM:∀{b o},b∉A.b9 x->k b=some o->T b=some o:=λ{b o}n e=>y (λz=>n (z▸ct.m0)) (λz=>n (z▸ct.yU)) (λz=>n (z▸ct.R9)) e;have X:∀{b},H b=none->bD b=none:=λ{b}e=>by
   cases aF:bD b with
   |none=>rfl
   |some o=>rw[D.cL _ _ aF]at e;cases e
  refine q ans T {A with pl:=l,j_:=j_,ls:=A.ls++[ku]} #[λb o U e=>hM U (J _ _ e),λb aa=>(XY aa).imp id λz=>z.elim (λz=>z▸SO) λz=>z▸SP] #[λb o e=>hM (old e) (J _ _ (D.cL _ _ e)),D.el,D.fJ,ü,û,b2.fT O λ_ _ e=>i0 _ _ e,#[bh,y (dY M.ht) M.Hc M.vh ap5],y (dY M.mV) M.t3 M.Cs a.tB,y (dY M.qu) M.dI M.iw a.cp,y (dY M.CT) M.hr M.jr a.wi,?_,apR,Paired.snoc #[[asm],Q0,.cons apW .nil] (abd y i0 a.pA M.CU M.g3 M.s2),y (dY M.G9) (dY M.g2) (dY M.s1) a.c5,b2.fT a.sp λ_ _⟨c,ah,aj⟩=>#[c,i0 _ _ ah,i0 _ _ aj],ac4 D.aI (D.live SO) (D.live SP) (nm _ _ l5),λb aa=>(XY aa).elim (D.fr b) λz=>z.elim (λz=>X (z▸SO)) λz=>X (z▸SP)];rw[apb];show _=some (gQ.lst ((e_ (s.bB++[(t,s.pr,p)])).map V.str));unfold e_;rw[eK,eK,eK];rfl
 have J:=Z.trans u;have aqR:H ag=none:=by
  cases e:H ag with
  |none=>rfl
  |some o=>rw[Z _ _ e]at aI;cases aI
 exact fq na ag k aqR J hd
noncomputable def mF(s:c8):List Nat:=(eB s.bB.length).filter λn=>decide ((rx s.aY n).iq≠j2 (e_ s.bB) n)
noncomputable def mJ(s:c8)(n:Nat):Bool:=(u6 s.kvs (rx s.aY n).iq (j2 (e_ s.bB) n)).isSome
noncomputable def gL(ds:cC)(s:c8):List (kG×List Nat):=(rO ds (vq s.aY) (mR s.kvs (e_ s.bB) s.aY) s.pr ((mF s).filter (mJ s))).filter λb=>decide (b.1.2∉s.iR)
noncomputable def u9(a:bt)(ds:cC)(s:c8):c8:={s with pr:=s.pr+1,aY:=qd a ds (gL ds s) s.aY,mT:=s.mT++gL ds s}
structure iM(hs:bt)(ds:cC)(k:Nat)(s:c8):Prop where
 len:s.aY.length=s.bB.length
 jO:s.bB.length<=40
 ui:ds.length<=40
 lets:Ny hs s.bB
 tab:xV s.kvs ds.length
 ne:∀ss∈s.aY,ss≠[]
 jL:∀ss∈s.aY,(u7 ss).iq∈hs.map S
 c3:∀ss∈s.aY,ss.length<=k+1
 zg:s.mT.length<=50*k
theorem iM.last{c:bt}{k:Nat}{s:c8}(O:iM c ds k s){n:Nat}(h:n<s.bB.length):∃i,s.aY[n]?=some (i++[rx s.aY n])/\(rx s.aY n).iq∈c.map S:=by have a:s.aY[n]?=some (s.aY.getD n []):=y_ (by rw[O.len];exact h);have b:=fC a;obtain⟨i,d⟩:=ac2 (O.ne _ b);show#[i,?_,O.jL _ b];rw[a];congr 1
theorem Mi{s:c8}{n:Nat}(h:n<s.bB.length):(e_ s.bB)[n]?=some (j2 (e_ s.bB) n):=y_ (by unfold e_;rw[bP];exact h)
theorem iM.goal{a:bt}{k:Nat}{s:c8}(O:iM a ds k s){n:Nat}(h:n<s.bB.length):j2 (e_ s.bB) n∈a.map S:=by have e:=Mi h;unfold e_ at e;rw[dV]at e;obtain⟨d,c,b⟩:=gS.mp e;have:=(O.lets d (fC c)).2;unfold e_;rw[<-b];exact this
theorem Yi{s:c8}{n:Nat}:n∈mF s↔n<s.bB.length/\(rx s.aY n).iq≠j2 (e_ s.bB) n:=by unfold mF;rw[g4,lp,decide_eq_true_eq]
end
theorem iM.on{k:Nat}{s:c8}(O:iM hs ds k s){n:Nat}(h:n∈mF s):MR (mJ s) hs s.kvs (e_ s.bB) s.aY (vq s.aY) (mR s.kvs (e_ s.bB) s.aY) n:=by
 obtain⟨a,b⟩:=Yi.mp h;obtain⟨i,c,d⟩:=O.last a;rcases O.tab.get (rx s.aY n).iq (j2 (e_ s.bB) n)with⟨v,w⟩|⟨r,v,w,_⟩
 .exact .inr #[by unfold mJ;rw[w];rfl,i,_,_,c,rfl,Mi a,d,O.goal a,b,v]
 exact .inl #[by unfold mJ;rw[w];rfl,i,_,_,c,rfl,Mi a,d,O.goal a,b,by unfold mR;rw[w];exact v]
theorem iM.a_{ds:cC}{k:Nat}{s:c8}(O:iM hs ds k s){n:Nat}(h:n∈(mF s).filter (mJ s)):mR s.kvs (e_ s.bB) s.aY n<ds.length:=by
 obtain⟨_,a⟩:=g4.mp h;unfold mJ at a;rcases O.tab.get (rx s.aY n).iq (j2 (e_ s.bB) n)with⟨v,w⟩|⟨r,v,w,e⟩
 .rw[w]at a;cases a
 unfold mR;rw[w];exact e
theorem aiz{l:Type}{F:Addr->l->Prop}{s:fi}{r:iW}{rest:ao.St}{H1:af}{Q:a4}{J:gB}{as:bL}{Bs:List l}(I:∀R:gB->af->Prop,R J H1->s U H R)(G:iN cs U=none::rest)(E:pW J H1 (aS as))(T:as.length<sizeLine)(V:b2 F as Bs)(q:l->Bool)(h:∀(i:Nat)(a:Addr)(b:l)(f:af)(R:Bool->af->Prop),as[i]?=some a->Bs[i]?=some b->aB H1 f->R (q b) f->r (some (.ref a)::rest) f R)(p:∀(D:Addr)(H':af)(d:bL),H1 D=none->H' D=some (.lst (aS d))->b2 F d (Bs.filter q)->aB H1 H'->Q (.ref D) H'):pq s cs (iL 0) r (xl 0) U H Q:=by
 have B:=jy V;have u:=fo as;refine I _ λD bI=>?_;show#[λi m t A H'=>m=as.length-i/\i<=as.length/\(∃d,t=aS d/\d.length<=i/\b2 F d ((Bs.take i).filter q))/\(∃o,A=o::rest)/\aB H1 H'/\H' D=some (.lst t),#[as.length,by simp,e4 _,#[[],rfl,cB _,.nil],#[none,by rw[G]],λb o e=>?_,aK],?_]
 .rw[aJ (b1 e bI)];exact e
 rintro i m t A H' ⟨rfl,X,⟨d,rfl,P,hp⟩,⟨o,rfl⟩,g,k⟩;obtain⟨N,O,M⟩:=E H' g;show#[k,by rw[fo];omega,?_];by_cases L:i<as.length
 .refine .inr #[O i (by omega),λx f y=>?_];obtain⟨rfl,n⟩:=M i x f (by omega) y;unfold aS at n;rw[dV]at n;obtain⟨a,w,rfl⟩:=gS.mp n;obtain⟨b,K,C⟩:=b2.get V w;have z:Bs.take (i+1)=Bs.take i++[b]:=by rw[pO,K];rfl
  show r (some (.ref a)::rest) f _;refine h i a b f _ w K g ?_;cases j:q b with
  |true=>
   refine hU #[_,rfl,k,as.length-(i+1),by omega,rfl,L,#[d++[a],yP d a,by rw[eM];show d.length+1<=i+1;omega,?_],#[_,rfl],λc Y e=>?_,aK]
   .rw[z,qF,tZ,bS j,NG];exact Paired.snoc C hp
   rw[aJ (b1 e bI)];exact g _ _ e
  |false=>
   refine fR #[as.length-(i+1),by omega,rfl,L,#[d,rfl,by omega,?_],#[_,rfl],g,k];rw[z,qF,tZ,bx (by rw[j];decide),NG,sa];exact hp
 have e:i=as.length:=by omega
 subst e;rw[B,n4]at hp;rw[u]at N;exact .inl #[N,p D H' d bI k hp g]
theorem Yj(l:b7)(r:Nat):(!(dk (mS l) (fV (r:Int):bq)).isSome)=decide (r∉l):=by
 induction l with
 |nil=>rfl
 |cons a l e=>
  show(!(dk ((fV (a:Int),V.aV true)::mS l) (fV (r:Int):bq)).isSome)=_;by_cases h:a=r
  .subst h;rw[od rfl];simp
  rw[nx (λz=>h (by have:=D8 z;omega)),e];simp[dY h]
theorem aiA{k:Nat}{s:c8}(O:iM hs ds k s){a:vU}(h:a.Sublist (gL ds s))(i:Nat):(a.filter λb=>decide (i∈b.2)).length<=1:=by have f:(a.filter λb=>decide (i∈b.2)).Sublist ((rO ds (vq s.aY) (mR s.kvs (e_ s.bB) s.aY) s.pr ((mF s).filter (mJ s))).filter λb=>decide (i∈b.2)):=(h.trans List.filter_sublist).filter _;have c:=f.length_le;rw[aiw (λn d=>O.a_ d) i]at c;refine dX c ?_;split<;>simp
theorem WK{k:Nat}{s:c8}(O:iM f ds k s){a:vU}(h:a.Sublist (gL ds s)):∀c∈qd f ds a s.aY,c.length<=k+2:=λc g=>by obtain⟨i,b⟩:=X9.mp g;rw[L4]at b;obtain⟨l,d,rfl⟩:=gS.mp b;have:=O.c3 l (fC d);have:=aiA O h i;rw[eM,bP];omega
inductive HX(K:aN)(ay C aw aq:Addr)(vs:aO)(H:af)(Q:a4)(f':bY):Prop where
 |mk(bD:af)(x:Addr)(A:ct)(hs:bt)(ds:cC)(s:c8)(k:Nat)(_:vs=[.ref x])(_:ej ay C aw aq bD H x A hs ds s)(_:Good hs)(_:iM hs ds k s)(_:k<=98)(_:∀H' c0 aV jW,gH (A.b9 x) (c0.b9 x) H H'->ej ay C aw aq bD H' x c0 hs ds (u9 hs ds s)->H aV=none->aV∉c0.b9 x->H' aV=some (.lst (aS jW))->b2 (nI H') jW (gL ds s)->Q (.ref aV) H')
section
variable{P:cx}{w:bf}{K:aN}{mg:cb}{base:Heap}
noncomputable abbrev Dj:Stmt:=fS (top 63) 7
theorem Hw:cI ["self","going","ready","bags","bag"] cG (b5 Dj):={}
theorem aiB{f:Addr}(F:cj K "pass_turn" "Day.pass_turn" Dj f fd)(B:ft mg)(g:tE K u)(jF:dM K C)(x9:cH K C "home_turn" "Walk.home_turn" HN d4 f1 c2)(asS:aD P w K mg base a3 2 f1 c2 d4 (Xy C))(B1:cu K mg "bags_at" Lo DE f2 eW)(aeU:aD P w K mg base a3 5 f2 eW DE (θ K C aw aq))(yI:cH K C "send" "Walk.send" Io DM cP jZ)(ab3:aD P w K mg base a3 2 cP jZ DM (Zw C aq)):aD P w K mg base a3 6 f fd cG (HX K u C aw aq):=by
 refine F.ok Hw (λ_ A _ s H vs Q E al h=>?_);obtain⟨bD,x,A,hs,ds,s,k,rfl,D,G,O,ĸ,q⟩:=h;show#[_,(a6 (wA (i:=1) Hw.aI rfl rfl rfl (N':=["number","self"]) (cs:=[none,some 0]) rfl (FQ rfl B.range (ak (eD kN B.len jI (ak (d5 (ae 0)) aA)) aA)) rfl (by decide+kernel) rfl (by decide+kernel) (lE (eA.mpr #[rfl,(λp aG=>bG aG (e3))])) rfl
   (.own (.p0 rfl (.inl rfl) (.inl rfl) rfl .nil))
   (λC bp N dc fA=>#[(fG 0 (by show(["number","self"]:cK).Nodup;decide+kernel)),(GS (eN zt (fy (Xh (K:=K) rfl (ae 1) (by rfl)) jF x9.dQ asS al.mono x9.bd .nil b0 (ak (ae 0) aA)) kT (ek _))),(ae 0)]))
  (a6 (dO 2 Hw.aI (d9 aeU B1 al.mono b0 (ak (d5 (ae 0)) (ak (d5 (ae 0)) (ak (ae 1) (ak (d5 (ae 0)) (ak (d5 (ae 0)) aA)))))))
  (a6 (wA (i:=3) Hw.aI rfl rfl rfl (N':=["bag","self"]) (cs:=[none,some 0]) rfl (jE (ae 2)) rfl (by decide+kernel) rfl (by decide+kernel) (lE (eA.mpr #[rfl,(λp aG=>bG aG (e3))])) rfl
   (.own (.p0 rfl (.inl rfl) (.inl rfl) rfl .nil))
   (λC bp N dc fA=>#[(fG 0 (by show(["bag","self"]:cK).Nodup;decide+kernel)),(GS (Hh (US (l8 al) (b8 (Cu (K:=K) rfl) (ae 0) aZ) (Xh (K:=K) rfl (ae 1) (by rfl))))),(ae 0)]))
  (a6 (lD lW rfl (jE (ae 3)) (fG 4 Hw.aI)
   (a7 (hj (fy (d5 (ae 0)) jF yI.dQ ab3 al.mono yI.bd .nil b0 (ak (ae 4) aA)))))
  (a6 (hj (oz t_ PySem.F.slot_list_extend PySem.F.type_list_extend aea (d5 (ae 0)) (ak (ae 3) aA)))
  (a6 (h5 (ae 0) (bO jj (d5 (ae 0)) aZ) rfl)
  (a7 (cd (ae 3))))))))),?_]
 try dsimp only[cT,cS]
 have Ņ:A.j_.length=s.bB.length:=by have:=jy D.pt;rw[bP]at this;exact this
 have jO:=O.jO;dsimp only[gN,vm];refine Y2 (J:=vA 0 s.bB.length) (H1:=H) (xs:=(eB s.bB.length).map λi:Nat=>V.int (0+i)) (rest:=[some (.ref x)]) (λR h=>#[_,rfl,x,u,_,_,_,rfl,D.ins,g.cl,g.no,rfl,A.pl,_,rfl,.inl (aQ.of D.po),_,rfl,?_,?_,?_]) rfl (WA 0 s.bB.length) (e' (by simp;omega)) (λn=>decide ((rx s.aY n).iq≠j2 (e_ s.bB) n)) (λn=>.int (n:Int)) (λn v ai R ev au k=>?_) (λn v ai R ev _ au k=>?_) (λhv H1 nG bI s1=>?_)
 .rw[fo];omega
 .rw[fo];omega
 .rw[fo,Ņ,mZ];exact h
 .have T:n<s.bB.length/\v=.int (n:Int):=by rw[dV]at ev;obtain⟨i,hk,rfl⟩:=gS.mp ev;obtain⟨Y,L⟩:=gn.mp hk;rw[Iv]at L;subst L;rw[oO]at Y;show#[Y,by rw[pK]]
  obtain⟨T,rfl⟩:=T;obtain⟨i,hk,_⟩:=O.last T;have f_:=D.same au;show#[_,rfl,x,u,_,_,_,rfl,f_.ins,g.cl,g.jn,rfl,A.dp,A.jX,_,rfl,f_.wi,rfl,_,rfl,A.dp,A.n,A.g,A.bM,_,_,_,n,i,_,_,rfl,f_.walk,hk,Mi T,rfl,_,rfl,?_];have:=k ai (aB.refl _);unfold Ov;by_cases z:(rx s.aY n).iq=j2 (e_ s.bB) n
  .rw[bS z];rw[dt (λw=>w z)]at this;exact this
  rw[bx z];rw[cE z]at this;exact this
 .obtain rfl:v=.int (n:Int):=by rw[dV]at ev;obtain⟨i,hk,rfl⟩:=gS.mp ev;obtain⟨Y,L⟩:=gn.mp hk;rw[Iv]at L;subst L;rw[pK]
  show#[_,rfl,k ai (aB.refl _)]
 have rA:((eB s.bB.length).map λi:Nat=>V.int (0+i)).length=s.bB.length:=by simp
 rw[rA]at bI;have aoD:H1 hv=some (.lst (iO (mF s))):=bI;have X:=D.same s1;have gl:(mF s).length<=40:=by unfold mF;refine dX (m4 _ _) ?_;rw[oO];exact jO
 have ô:(mF s).Nodup:=NN.filter _;show#[_,rfl,x,u,_,_,_,rfl,X.ins,g.cl,g.nn,rfl,_,rfl,x,u,_,_,_,rfl,X.ins,g.cl,g.jn,rfl,_,rfl,_,rfl,x,u,_,_,_,rfl,X.ins,g.cl,g.e8,rfl,_,rfl,x,u,_,_,_,rfl,X.ins,g.cl,g.np,rfl,A.dp,A.n,A.g,A.bM,hv,A.y,A.t,A.a',A.b',_,A.ls,A.rs,s.aY,hs,ds,s.kvs,mF s,mJ s,_,vq s.aY,mR s.kvs (e_ s.bB) s.aY,s.pr,rfl,rfl,X.walk,aQ.of aoD,X.asU,X.fJ.same X.cL,G,by omega,ô,λn T=>O.on T,λn T=>O.a_ T,λaV ai as f9 KP s2 EJ mx up mem=>?_];obtain rfl:=agZ (λn T=>O.a_ T) up mem;obtain⟨Bs,PC⟩:∃Bs,Bs=rO ds (vq s.aY) (mR s.kvs (e_ s.bB) s.aY) s.pr ((mF s).filter (mJ s)):=#[_,rfl]
 have mx:b2 (nI ai) as Bs:=by rw[PC];exact mx
 have Db:=X.same s2;have aqm:Bs.length<=40:=by rw[PC];unfold rO o8;rw[bP];refine dX (m4 _ _) ?_;rw[oO];exact O.ui
 have Ł:=jy mx;refine η ?_;dsimp only;refine MX ?_;refine aiz (F:=nI ai) (J:=n2 K aV) (H1:=ai) (as:=as) (Bs:=Bs) (rest:=[some (.ref x)]) (λR h=>#[_,rfl,aV,rfl,#[_,aQ.of EJ],h]) rfl (s4 (aQ.of EJ)) (e' (by omega)) mx (λb=>decide (b.1.2∉s.iR)) (λi a b N R aR dE au dn=>?_) (λy N Z Sk Qr x1 bp=>?_)
 .obtain⟨fF,Ý,c,rl,kq⟩:=b2.get mx aR;rw[dE]at Ý;cases Ý;have y:=Db.same au;show#[_,rfl,a,_,_,_,rfl,rfl,cV.of (au _ _ rl),rfl,_,rfl,x,u,_,_,_,rfl,y.ins,g.cl,g.s8,rfl,A.cp,_,rfl,j9.k (k:=fV (b.1.2:Int)) y.cp,_,rfl,?_];rw[Yj];exact dn
 have Ø:Bs.filter (λb=>decide (b.1.2∉s.iR))=gL ds s:=by rw[PC];rfl
 rw[Ø]at x1;have d:=Db.same bp;have axK:(gL ds s).length<=40:=by rw[<-Ø];exact dX (m4 _ _) aqm
 have aqn:=jy x1;have x1:=b2.fT x1 λa b h=>h.same bp;have bin:∀b∈gL ds s,b.1.2<ds.length/\b.2.Nodup/\∀i∈b.2,i<s.aY.length:=λb aa=>by
  unfold gL rO at aa;obtain⟨r,al,rN⟩:=cm.mp (g4.mp aa).1;subst rN;show#[?_,Zy (ô.filter _) r,λi hi=>?_]
  .unfold o8 at al;exact lp.mp (g4.mp al).1
  have:=(Yi.mp (g4.mp (Mh hi).1).1).1;rw[O.len];exact this
 have M:=ZF D.aI;have aor:∀l∈A.ls,bD l=none:=λl ax=>D.fr l (ct.Fo ax);have KM:y∉A.b9 x:=Db.live Sk;have ő:y∉A.ls:=λz=>KM (ct.Fo z);show#[_,rfl,y,rfl,#[_,aQ.of Qr],?_];refine qa (K:=K) (a:=y) (xs:=aS Z) (λj U I=>∃v4,U=[some (.ref x),some (.ref hv),some (.ref aV),some (.ref y),v4]/\aB (mask N A.ls) I/\b2 (il I) A.ls (qd hs ds ((gL ds s).take j) s.aY))
  #[none,rfl,F4 _ _,d.pA] (λj U I _⟨_,_,h,_⟩=>aQ.of (h _ _ (ov Qr ő))) ?_ ?_
 .rintro j z U I fQ ⟨v4,rfl,fB,gh⟩;unfold aS at fQ;rw[dV]at fQ;obtain⟨qT,an0,rfl⟩:=gS.mp fQ;obtain⟨b,dE,c,rl,kq⟩:=b2.get x1 an0;obtain⟨hB,fF,pX⟩:=bin b (fC dE);have ec:∀{c:Addr}{v:aO},N c=some (.tup v)->c∉A.ls:=λ{c v}e z=>by obtain⟨ts,aF⟩:=LL d.pA z;rw[e]at aF;cases aF
  have bC:(gL ds s).take (j+1)=(gL ds s).take j++[b]:=by rw[pO,dE];rfl
  have p_:=fB _ _ (ov d.ins M.CU);have ap1:=fB _ _ (ov d.wi M.G3);have aab:aB bD (mask N A.ls):=λb o e=>ov (d.cL _ _ e) λz=>by rw[aor b z]at e;cases e
  show#[_,rfl,x,u,_,_,_,rfl,p_,g.cl,g.jn,rfl,A.dp,A.jX,_,rfl,ap1,rfl,_,rfl,mask N A.ls,A.dp,A.n,A.g,A.bM,A.a',A.b',qT,e_ s.bB,A.ls,A.rs,_,hs,ds,b,rfl,fB,#[#[_,ov d.wi M.G3],ov d.hY M.g3,ov d.ws M.s2],gh,M.aI,(λl ax=>MO ax),D.el.same aab,D.fJ.same aab,#[c,ov rl (ec rl),ov kq (ec kq)],hB,fF,?_,?_,λH' s' bT=>#[_,rfl,s',?_]]
  .intro i hi;rw[VK];exact pX i hi
  .intro ss j6;have:=WK O (DD j (gL ds s)) ss j6;omega
  rw[bC,aeS];exact bT
 rintro U I ⟨v4,rfl,fB,gh⟩;rw[fo,aqn,n4]at gh;have p_:=fB _ _ (ov d.ins M.CU);have sQ:=fB _ _ (ov d.c5 M.aH);have þ:=fB _ _ (ov Qr ő);have axN:=jy D.sp;have zg:=O.zg;show#[_,rfl,x,u,_,_,_,rfl,p_,g.cl,g.ns,rfl,.inl #[rfl,_,aQ.of sQ],_,rfl,A.c5,y,_,_,rfl,rfl,sQ,þ,?_,?_]
 .rw[fo,fo];exact dX (show _<=10000 by omega) (by decide)
 rw[show aS A.jW++aS Z=aS (A.jW++Z) by unfold aS;rw[eK]];have k1:∀b o,b≠A.c5->I b=some o->upd I A.c5 (.lst (aS (A.jW++Z))) b=some o:=λb o nb e=>(aJ nb).trans e;have vZ:upd I A.c5 (.lst (aS (A.jW++Z))) A.c5=some (.lst (aS (A.jW++Z))):=aK;dsimp only;generalize upd I A.c5 (.lst (aS (A.jW++Z)))=lU at k1 vZ⊢;have Ĭ:=k1 _ _ M.G9 p_;show#[_,rfl,x,u,_,_,_,rfl,Ĭ,g.cl,g.np,rfl,_,_,rfl,rfl,_,rfl,x,u,A.ag,_,rfl,Ĭ,g.cl,g.np,(by show 7<1000;decide),_,rfl,?_];have gX:∀{b o},b≠x->b≠A.c5->I b=some o->upd lU x (.ins u A.ag (pf A.n A.pl A.y A.cp A.dp A.c5 (s.pr+1))) b=some o:=λ{b o}cz cA e=>(aJ cz).trans (k1 _ _ cA e);have uS:∀{b o},b≠x->b≠A.c5->b∉A.ls->N b=some o->upd lU x (.ins u A.ag (pf A.n A.pl A.y A.cp A.dp A.c5 (s.pr+1))) b=some o:=λ{b o}cz cA iu e=>gX cz cA (fB _ _ (ov e iu));have ec:∀{c:Addr}{v:aO},N c=some (.tup v)->c∉A.ls:=λ{c v}e z=>by obtain⟨ts,aF⟩:=LL d.pA z;rw[e]at aF;cases aF
 have i0:∀b v,N b=some (.tup v)->upd lU x (.ins u A.ag (pf A.n A.pl A.y A.cp A.dp A.c5 (s.pr+1))) b=some (.tup v):=λb v e=>uS (ao.eg e d.ins (by intro z;cases z)) (ao.eg e d.c5 (by intro z;cases z)) (ec e) e;have Ch:=s1.trans (s2.trans bp);have arU:=s1.trans s2;have aqJ:H y=none:=by
  cases e:H y with
  |none=>rfl
  |some o=>rw[arU _ _ e]at Sk;cases Sk
 obtain⟨bh,ap4⟩:=d.d3;have aqM:y≠x:=λz=>KM (z▸ct.m0);have aqL:y≠A.c5:=λz=>KM (z▸ct.KB);have hM:∀{b o},b∉A.b9 x->N b=some o->upd lU x (.ins u A.ag (pf A.n A.pl A.y A.cp A.dp A.c5 (s.pr+1))) b=some o:=λ{b o}n e=>uS (λz=>n (z▸ct.m0)) (λz=>n (z▸ct.KB)) (λz=>n (ct.Fo z)) e;have aqj:∀b v,I b=some (.tup v)->upd lU x (.ins u A.ag (pf A.n A.pl A.y A.cp A.dp A.c5 (s.pr+1))) b=some (.tup v):=λb v e=>gX (ao.eg e p_ (by intro z;cases z)) (ao.eg e sQ (by intro z;cases z)) e;have ary:∀{l mK:bL}{m ew:vU}{F:Addr->kG×List Nat->Prop},b2 F l m->b2 F mK ew->b2 F (l++mK) (m++ew):=λ{l mK m ew F}p hE=>by
  induction p with
  |nil=>exact hE
  |cons r t a8=>exact .cons r a8
 exact q _ {A with jW:=A.jW++Z} y Z #[λb o nb e=>hM nb (Ch _ _ e),λb aa=>.inl aa] #[λb o e=>hM (λz=>by rw[D.fr b z]at e;cases e) (d.cL _ _ e),D.el,D.fJ,aK,uS (dY M.e0) M.Tn M.y6 d.po,b2.fT d.pt λ_ _ e=>i0 _ _ e,#[bh,uS (dY M.ht) M.vi M.Vp ap4],uS (dY M.mV) M.w0 M.zj d.tB,uS (dY M.qu) M.uW M.FZ d.cp,uS (dY M.CT) M.i8 M.G3 d.wi,uS (dY M.G8) M.g2 M.g3 d.hY,uS (dY M.zz) M.s1 M.s2 d.ws,abd (λcz cA _ e=>gX cz cA e) aqj gh M.CU M.aH M.aH,(aJ (dY M.G9)).trans vZ,ary (b2.fT d.sp λ_ _⟨c,Y,L⟩=>#[c,i0 _ _ Y,i0 _ _ L]) (b2.fT x1 λ_ _⟨c,Y,L⟩=>#[c,i0 _ _ Y,i0 _ _ L]),D.aI,D.fr] aqJ KM (gX aqM aqL þ) (b2.fT x1 λ_ _⟨c,Y,L⟩=>#[c,i0 _ _ Y,i0 _ _ L])
theorem aeV(a:List Step):∀l:List Step,l=[]/\u7 (a++l)=u7 a\/∃st∈l,u7 (a++l)=st:=λl=>by
 rcases X2 l with rfl|⟨i,st,rfl⟩
 .exact .inl #[rfl,by rw[sa]]
 refine .inr #[st,by simp,?_];rw[X1,<-oN];exact ac1 _ _
theorem WL{a:bt}{ds:cC}(R:∀d∈ds,d.Ok a.length){r:Nat}(h:r<ds.length):Ar a ds r∈a.map S:=by
 unfold Ar;have e:ds.getD r td∈ds:=by rw[ea,dw h];exact m3 h
 have b:=(R _ e).b;refine cm.mpr #[a.getD (ds.getD r td).b [],?_,rfl];rw[ea,dw b];exact m3 b
end
theorem iM.pass{hs:bt}{ds:cC}{k:Nat}{s:c8}(R:∀d∈ds,d.Ok hs.length)(O:iM hs ds k s):iM hs ds (k+1) (u9 hs ds s):=by
 have n:∀c∈qd hs ds (gL ds s) s.aY,∃a∈s.aY,∃g:List (kG×List Nat),(∀b∈g,b∈gL ds s)/\c=a++g.map λb=>stepK hs ds b.1:=λc f=>by obtain⟨i,o⟩:=X9.mp f;rw[L4]at o;obtain⟨a,t,rfl⟩:=gS.mp o;show#[a,fC t,_,λb h=>(g4.mp h).1,rfl]
 show#[(VK _ _ _ _).trans O.len,O.jO,O.ui,O.lets,O.tab,λc f=>?_,λc f=>?_,λc f=>?_,?_]
 .obtain⟨a,l,g,_,rfl⟩:=n c f;intro z;exact O.ne a l (List.append_eq_nil_iff.mp z).1
 .obtain⟨a,l,g,h,rfl⟩:=n c f;rcases aeV a (g.map λb=>stepK hs ds b.1)with⟨_,e⟩|⟨st,j,e⟩
  .rw[e];exact O.jL a l
  obtain⟨b,p,rfl⟩:=cm.mp j;rw[e];have:=h b p;unfold gL rO at this;obtain⟨r,m,w⟩:=cm.mp (g4.mp this).1;subst w;unfold o8 at m;exact WL R (lp.mp (g4.mp m).1)
 .exact WK O (List.Sublist.refl _) c f
 show(s.mT++gL ds s).length<=_;rw[eM];have y:=O.zg;have A:(gL ds s).length<=40:=by unfold gL rO o8;refine dX (m4 _ _) ?_;rw[bP];refine dX (m4 _ _) ?_;rw[oO];exact O.ui
 omega
theorem iM.post{f:bt}{k:Nat}{s:c8}(O:iM f ds k s){h g:Str}(m:h∈f.map S)(n:g∈f.map S)(l:s.bB.length+1<=40):iM f ds k (Dh s h g):=by
 have b:∀a∈s.aY++[CL (h,s.pr,g)],a∈s.aY\/a=CL (h,s.pr,g):=λa p=>by
  rcases hy.mp p with z|z
  .exact .inl z
  exact .inr (gp.mp z)
 show#[?_,?_,O.ui,λd o=>?_,O.tab,λa c=>?_,λa c=>?_,λa c=>?_,O.zg]
 .show(s.aY++[_]).length=(s.bB++[_]).length;rw[eM,eM,O.len];rfl
 .show(s.bB++[_]).length<=40;rw[eM];exact l
 .rcases hy.mp o with z|z
  .exact O.lets d z
  rw[gp.mp z];show#[m,n]
 .rcases b a c with z|rfl
  .exact O.ne a z
  unfold CL;simp
 .rcases b a c with z|rfl
  .exact O.jL a z
  exact m
 rcases b a c with z|rfl
 .exact O.c3 a z
 show 1<=k+1;omega
theorem aiC{d:bt}{h g:Str}{t:Int}:nq (bI d) (nE (h,t,g))=true↔h∈d.map S/\g∈d.map S/\h≠g/\0<=t/\t<=1000000000:=by
 show(iI (bI d) (.str h) (.str g)&&s5 0 1000000000 (.int t))=true↔_;rw[i'];have w:s5 0 1000000000 (.int t)=(decide (0<=t)&&decide (t<=1000000000)):=rfl;rw[w,i',decide_eq_true_eq,decide_eq_true_eq];constructor
 .rintro⟨u,f,k⟩;unfold iI at u;rw[i',i']at u;show#[?_,?_,?_,f,k]
  .by_cases z:h∈d.map S
   .exact z
   rw[HJ z]at u;cases u.1.1
  .by_cases z:g∈d.map S
   .exact z
   rw[HJ z]at u;cases u.1.2
  rintro rfl;have:=u.2;simp[jz]at this
 rintro⟨a,b,c,f,k⟩;show#[y' a b c,f,k]
end dR
namespace b_
open PySem PySem.Spec PyProof.Rows ao
section
variable{X:bH}
theorem Mj{K:aN}(f:afA K D=true)(g:Az K (.ref D)=some (.type "type"))(k:oR K (.ref C) (.ref D)=some b)(a:(cX C==cX D)=true->b=true):
  ml K (.ref C) (.ref D)=some b:=by
 unfold ml;by_cases h:(cX C==cX D)=true
 .rw[bS h,a h]
 rw[bx h];unfold YP;have c:(vQ K D).isSome=true:=f;have d:(Az K (.ref D)==some (.type "type"))=true:=by rw[g];decide
 show(if((vQ K D).isSome&&Az K (.ref D)==some (.type "type"))=true then _ else _)=_;rw[c,d];exact(bS rfl).trans k
structure NP(K:aN)(C:Addr):Prop where
 makes:DY K C=true
 init:cD K (.ref C) "__init__"=some (some (.builtin "object.__init__"))
 eJ:mj K (.ref C)=true
noncomputable def aj5(C:Addr):TE:=λ_ H Q=>∀x a,H x=none->H a=none->a≠x->Q (.ref x) (upd (upd H a (.own x)) x (.ins C a []))
theorem ac6{H:af}{Q:a4}(M:NP X.K C)(I:Inv X pins U H s)(h:∀x a,H x=none->H a=none->a≠x->Q (.ref x) (upd (upd H a (.own x)) x (.ins C a []))):
  aT (bg X.prog X.w) X.A (call (.ref C) []) (iT X pins U Q) X.er s:=by
 have c:=Inv.made (C:=C) I;have Y:=YR (M:=bg X.prog X.w) I.eL M.makes;obtain⟨_,_,_,d,_⟩:=(show fk X.prog X.w _ _ _ (.ins C s.heap.objs.size [])from c.bo (s.heap.objs.size+1) _ aK)
 refine rV (ad6 I.eL M.makes M.init (λself=>PySem.W.Looks.of_pure (PySem.W.oi_bind self)) ?_);have g:pS (bg X.prog X.w) ((s.heap.push qJ).push (sj C s.heap.objs.size)) (typeOf (.ref (s.heap.objs.size+1))) (.ref C):=(Oa d).andThen .now;have f:pS (bg X.prog X.w) ((s.heap.push qJ).push (sj C s.heap.objs.size)) (E5 (.ref (s.heap.objs.size+1)) (.type "object")) true:=g.andThen (Y.top.keeps λb o e=>d0 _ (d0 _ e));refine AV PySem.W.oi_plain PySem.W.entry_oi (@YL (bg X.prog X.w) _ _ _ "object.__init__" "object" "__init__" (.ref (s.heap.objs.size+1)) [] [] _ PySem.W.oi_kind PySem.W.oi_split f (PySem.W.oi_args (.ref (s.heap.objs.size+1))) ?_);rw[PySem.W.oi_run];exact bW (And.intro rfl #[V.ref (s.heap.objs.size+1),_,c,rfl,h _ _ (I.bo.fresh (vL _)) (I.bo.fresh (cB _)) (eT (xI _))])
theorem agO(M:NP X.K C)(b:jb X x)(c:X.mg x=some (.ref C))(d:(x==("__debug__":Str))=false:=by decide):bA X (.Call (.Name x p) [] [] pos) (aj5 C):=by intro a s U H Q I h;refine w9 (s3 I b c ?_ d);exact YK I.eL M.eJ (ac6 M I h)
end
end b_
namespace dR
open PySem ao b_ cw
noncomputable def num(i:Int):Str:=bc (toString i)
noncomputable def qL(i:Int):Prop:=0<=i/\i<10 ^ 12
theorem HY{i:Int}(h:qL i):(num i).length<=12:=atV h.1 (by decide) h.2
theorem HZ{i:Int}(h:qL i):i.natAbs.log2<1920:=by
 have b:i.natAbs<2 ^ 1920:=by
  have c:i.natAbs<10 ^ 12:=by have:=h.1;have:=h.2;omega
  exact NS c (by decide+kernel)
 by_cases a:i.natAbs=0
 .rw[a];decide
 exact(Yp a).mpr b
noncomputable def Fl:Str:=bc "not yet"
noncomputable def Ń(z:Str)(i:Int):Str:=bc "at "++z++bc " since "++num i
noncomputable def ń(i j:Int):Str:=bc "on "++num i++bc " until "++num j
noncomputable def ł(i:Int):Str:=bc "home since "++num i
theorem za(a b:Str):(a++b).length=a.length+b.length:=by show(Om a b).length=_;simp[Om,Oq]
inductive Κ(C:Addr)(a:Str)(vs:aO)(H:af)(Q:a4)(f':bY):Prop where
 |mk(x ag:Addr)(u:ao.V)(_:vs=[.ref x,u])(_:H x=some (.ins C ag []))(_:Q .b3 (upd H x (.ins C ag [(a,u)])))
inductive Jg(C:Addr)(a b:Str)(vs:aO)(H:af)(Q:a4)(f':bY):Prop where
 |mk(x ag:Addr)(u v:ao.V)(_:vs=[.ref x,u,v])(_:H x=some (.ins C ag []))(_:Q .b3 (upd H x (.ins C ag [(a,u),(b,v)])))
section
variable{P:cx}{w:bf}{K:aN}{mg:cb}{base:Heap}
noncomputable abbrev Lr:Stmt:=fS (top 30) 0
noncomputable abbrev Ls:Stmt:=fS (top 31) 0
noncomputable abbrev Lq:Stmt:=fS (top 32) 0
theorem am3:cI Aa Aa (b5 Lr):={}
theorem alB{f:Addr}(F:cj K "__init__" "AtHouse.__init__" Lr f fd)(b:dM K C)(g:cD K (.ref C) "at"=some none)(d:cD K (.ref C) "since"=some none):aD P w K mg base a3 1 f fd Aa (Jg C "at" "since"):=by
 refine F.ok am3 (λ_ A _ s H vs Q E k h=>?_);obtain⟨x,a,u,v,rfl,c,q⟩:=h;show#[_,(a6 (h5 (ae 0) (ae 1) rfl)
  (a7 (h5 (ae 0) (ae 2) rfl))),?_]
 try dsimp only[cT,cS]
 show#[_,rfl,_,rfl,x,C,a,_,rfl,c,b,g,(by show 0<1000;decide),?_];show#[_,rfl,_,rfl,x,C,a,_,rfl,aK,b,d,(by show 1<1000;decide),?_];show Q .b3 (upd (upd H x (.ins C a [("at",u)])) x (.ins C a [("at",u),("since",v)]));rw[y9];exact q
theorem am4:cI Ab Ab (b5 Ls):={}
theorem alC{f:Addr}(F:cj K "__init__" "OnRoad.__init__" Ls f fd)(b:dM K C)(g:cD K (.ref C) "by"=some none)(d:cD K (.ref C) "due"=some none):aD P w K mg base a3 1 f fd Ab (Jg C "by" "due"):=by
 refine F.ok am4 (λ_ A _ s H vs Q E k h=>?_);obtain⟨x,a,u,v,rfl,c,q⟩:=h;show#[_,(a6 (h5 (ae 0) (ae 1) rfl)
  (a7 (h5 (ae 0) (ae 2) rfl))),?_]
 try dsimp only[cT,cS]
 show#[_,rfl,_,rfl,x,C,a,_,rfl,c,b,g,(by show 0<1000;decide),?_];show#[_,rfl,_,rfl,x,C,a,_,rfl,aK,b,d,(by show 1<1000;decide),?_];show Q .b3 (upd (upd H x (.ins C a [("by",u)])) x (.ins C a [("by",u),("due",v)]));rw[y9];exact q
theorem am5:cI Ad Ad (b5 Lq):={}
theorem alD{f:Addr}(F:cj K "__init__" "AtHome.__init__" Lq f fd)(c:dM K C)(d:cD K (.ref C) "since"=some none):aD P w K mg base a3 1 f fd Ad (Κ C "since"):=by
 refine F.ok am5 (λ_ A _ s H vs Q E g h=>?_);obtain⟨x,a,u,rfl,b,q⟩:=h;show#[_,(a7 (h5 (ae 0) (ae 1) rfl)),?_]
 try dsimp only[cT,cS]
 show#[_,rfl,_,rfl,x,C,a,_,rfl,b,c,d,(by show 0<1000;decide),q]
inductive D7 where
 |e8
 |at_(h:Str)(t:Int)
 |on(r:Option Int)(t:Int)
 |ks(t:Int)
structure xT where
 e8:Addr
 at_:Addr
 on:Addr
 ks:Addr
noncomputable def Hn(S:xT)(H:af)(v:ao.V):D7->Prop
 |.e8=>∃x a,v=.ref x/\H x=some (.ins S.e8 a [])
 |.at_ h t=>∃x a,v=.ref x/\H x=some (.ins S.at_ a [("at",.str h),("since",.int t)])
 |.on r t=>∃x a,v=.ref x/\H x=some (.ins S.on a [("by",É r),("due",.int t)])
 |.ks t=>∃x a,v=.ref x/\H x=some (.ins S.ks a [("since",.int t)])
noncomputable def zL(s:Step)(y:Str)(t:Int):D7:=if t<s.br then .on s.AP s.br else if s.iq=y then .ks s.br else .at_ s.iq s.br
noncomputable def spotOf(a:List Step)(y:Str)(t:Int):D7:=match(a.filter λs=>decide (s.left<=t)).getLast? with
 |none=>.e8
 |some s=>zL s y t
end
theorem arB{a:List Step}(k:eE H e (a.map tg))(c:Step)(q:Step->Bool):
  ∃m,((eB (aS e).length).filter λi=>q (a.getD i c)).map (λi=>(aS e).getD i .b3)=aS m/\eE H m ((a.filter q).map tg):=by
 have l:=k.len;rw[bP]at l;have t:=fo e;have g:a.filter q=((eB (aS e).length).filter λi=>q (a.getD i c)).map λi=>a.getD i c:=by have:=asR q id c a;rw[ady]at this;rw[t,l,<-this];rfl
 show#[((eB (aS e).length).filter λi=>q (a.getD i c)).map λi=>e.getD i 0,?_,?_]
 .unfold aS;rw[hc];refine t4 λi b=>?_;have n:=lp.mp (g4.mp b).1;rw[bP]at n;show((e.map V.ref)[i]?).getD _=V.ref ((e[i]?).getD 0);rw[dV,dw n];rfl
 rw[g,hc];generalize h:(eB (aS e).length).filter (λi=>q (a.getD i c))=f;have all:∀i∈f,i<e.length:=λi b=>by rw[<-h]at b;have:=lp.mp (g4.mp b).1;omega
 clear h g
 induction f with
 |nil=>exact .nil
 |cons i r s=>
  refine .cons ?_ (s λj p=>all j (.tail _ p));have b:=all i (.head _);obtain⟨d,cF,w⟩:=b2.get k (dw b);rw[dV]at cF;obtain⟨y,o,rfl⟩:=gS.mp cF;show H ((e[i]?).getD 0)=some (.tup (tg (a.getD i c)));rw[zE o,dw b];exact w
theorem aeZ{H:af}{c:bL}{pre:List Step}{s:Step}(b:eE H c ((pre++[s]).map tg)):∃a u,c=a++[u]/\H u=some (.tup (tg s)):=by
 rcases X2 c with rfl|⟨a,u,rfl⟩
 .have:=b.len;simp at this
 have l:=b.len;rw[X1]at *;show#[a,u,rfl,?_];obtain⟨d,cF,f⟩:=b2.get b (i:=a.length) (x:=u) (by simp);have g:a.length=pre.length:=by simpa using l
 rw[g,eK,Dz (by rw[bP];omega)]at cF;simp at cF;rw[<-cF]at f;exact f
section
variable{P:cx}{w:bf}{K:aN}{mg:cb}{base:Heap}
inductive Zu(C:Addr)(S:xT)(vs:aO)(H:af)(Q:a4)(f':bY):Prop where
 |mk(x n g st:Addr)(dm:cK)(ls:bL)(aY:hR)(k:Nat)(ss:List Step)(y:Str)(t:Int)(_:vs=[.ref x,.int k,.int t])(_:WalkAt C H x n g st dm ls aY)(_:aY[k]?=some ss)(_:ss.length<=100)(_:dm[k]?=some y)(_:∀v H',aB H H'->Hn S H' v (spotOf ss y t)->Q v H')
noncomputable abbrev IC:Stmt:=fS (top 34) 8
theorem Nk:cI ["self","number","turn","begun","last"] DJ (b5 IC):={}
theorem aiD{f:Addr}{S:xT}(F:cj K "spot_at" "Walk.spot_at" IC f fd)(T:tu K C)(F5:mg "NotYet"=some (.ref S.e8))(FP:mg "AtHouse"=some (.ref S.at_))(F6:mg "OnRoad"=some (.ref S.on))(F7:mg "AtHome"=some (.ref S.ks))(ad5:NP K S.e8)(Z:lq K S.at_ f1)(yg:jc K S.at_ "AtHouse.__init__" Lr Aa f1 c2)(atm:aD P w K mg base a3 1 f1 c2 Aa (Jg S.at_ "at" "since"))(ae0:lq K S.on f2)(ym:jc K S.on "OnRoad.__init__" Ls Ab f2 eW)(atu:aD P w K mg base a3 1 f2 eW Ab (Jg S.on "by" "due"))(ae1:lq K S.ks cP)(yn:jc K S.ks "AtHome.__init__" Lq Ad cP jZ)(atv:aD P w K mg base a3 1 cP jZ Ad (Κ S.ks "since")):
  aD P w K mg base a3 3 f fd DJ (Zu C S):=by
 refine F.ok Nk (λ_ A _ s H vs Q E al h=>?_);obtain⟨x,n,g,st,dm,ls,aY,k,ss,y,t,rfl,W,es,c3,eI,q⟩:=h;obtain⟨ag,ar⟩:=W.ins;show#[_,(a6 (wA (i:=3) Nk.aI rfl rfl rfl (N':=["step","turn"]) (cs:=[none,some 2]) rfl (jE (b8 eO (d5 (ae 0)) (ae 1))) rfl (by decide+kernel) rfl (by decide+kernel) (lE (eA.mpr #[rfl,(λp aG=>bG aG (e3))])) rfl
   (.own (.p0 rfl (.inl rfl) (.inl rfl) rfl .nil))
   (λC bp bz dc fA=>#[(fG 0 (by show(["step","turn"]:cK).Nodup;decide+kernel)),(GS (eN rK (b8 (Cu (K:=K) rfl) (ae 0) aZ) (ae 1) (ek _))),(ae 0)]))
  (a6 (d8 (j0 (ae9 (ae 3) (λ_=>rfl))) (a7 (cd (agO ad5 (by rfl) F5))) ed)
  (a6 (dO 4 Nk.aI (b8 eO (ae 3) (N4 M9 aZ)))
  (a6 (d8 (eN zI (b8 eH (ae 4) aZ) (ae 2) (ek _)) (a7 (cd (o4 ae0 atu al.mono (by rfl) F6 ym.bd .nil b0 (ak (b8 eH (ae 4) aZ) (ak (b8 eH (ae 4) aZ) aA))))) ed)
  (a6 (d8 (eN kV (b8 eH (ae 4) aZ) (b8 eO (d5 (ae 0)) (ae 1)) (ek _)) (a7 (cd (o4 ae1 atv al.mono (by rfl) F7 yn.bd .nil b0 (ak (b8 eH (ae 4) aZ) aA)))) ed)
  (a7 (cd (o4 Z atm al.mono (by rfl) FP yg.bd .nil b0 (ak (b8 eH (ae 4) aZ) (ak (b8 eH (ae 4) aZ) aA)))))))))),?_]
 try dsimp only[cT,cS]
 have ln:=jy W.each;have aP:=(gn.mp es).1;obtain⟨l,gV⟩:∃l,ls[k]?=some l:=#[_,dw (by omega)]
 obtain⟨asf,yf,ts,ax,bQ⟩:=b2.get W.each gV;rw[es]at yf;cases yf;have d_:=bQ.len;rw[bP]at d_;have bl:ao.gT (aS ls) (k:Int)=some (.ref l):=iH (by unfold aS;rw[dV,gV];rfl);have j4:=fo ts
 let s0:Step:=#[0,none,bc "",0]
 dsimp only[gN,vm];refine Y2 (J:=n2 K l) (H1:=H) (xs:=aS ts) (rest:=[some (.int t)]) (λR h=>#[_,rfl,x,C,ag,_,_,rfl,ar,T.cl,T.ns,rfl,_,rfl,st,_,_,_,rfl,rfl,aQ.of W.steps,bl,l,rfl,#[_,aQ.of ax],h]) rfl (s4 (aQ.of ax)) (e' (by omega)) (λi=>decide ((ss.getD i s0).left<=t)) (λi=>(aS ts).getD i .b3) (λi v N R G au I=>?_) (λi v N R G aG au I=>?_) (λD N nG bI U=>?_)
 .unfold aS at G;rw[dV]at G;obtain⟨r,gW,rfl⟩:=gS.mp G;obtain⟨d,cF,hd⟩:=b2.get bQ gW;rw[dV]at cF;obtain⟨j,bT,rfl⟩:=gS.mp cF;have dg:ss.getD i s0=j:=zE bT;rw[dg]at I;show#[_,rfl,r,_,_,_,rfl,rfl,cV.of (au _ _ hd),rfl,_,rfl,_,_,rfl,rfl,_,rfl,I N (aB.refl _)]
 .show#[_,rfl,?_];rw[zE G]at I;exact I N (aB.refl _)
 obtain⟨us,p5,tp⟩:=arB bQ s0 (λj=>decide (j.left<=t));rw[p5]at bI;unfold spotOf at q;have ō:∀{a c:Addr}{o:gQ},N a=none->N c=none->aB H (upd (upd N c (.own a)) a o):=λ{a c o}L m b v e=>by have Y:=U _ _ e;rw[aJ (b1 Y L),aJ (b1 Y m)];exact Y
 have X:∀{a c:Addr}{o l9:gQ},N a=none->N c=none->aB H (upd (upd (upd N c (.own a)) a o) a l9):=λ{a c o l9}L m=>by rw[y9];exact ō L m
 rcases X2 (ss.filter λj=>decide (j.left<=t))with e|⟨pre,j,e⟩
 .rw[e]at tp q;have asH:us=[]:=by have:=tp.len;exact NI.mp this
  subst asH;show#[_,rfl,false,.inl #[_,aQ.of bI,rfl],hU λa c L m _=>q _ _ (ō L m) #[a,c,rfl,aK]]
 rw[X1]at e;rw[e]at tp q;rw[adw,List.getLast?_singleton]at q;obtain⟨ps,u,rfl,dh⟩:=aeZ tp;have EZ:=U _ _ dh;have B:=cV.of (K:=K) EZ;have wJ:(aS (ps++[u])).isEmpty=false:=by unfold aS;rw[eK];cases ps<;>rfl
 have Kx:ao.gT (aS (ps++[u])) (-1)=some (.ref u):=by unfold aS;rw[eK];exact U4
 show#[_,rfl,true,.inl #[_,aQ.of bI,by rw[wJ];rfl],fR ?_];show#[_,rfl,_,rfl,D,_,_,_,rfl,rfl,aQ.of bI,Kx,?_];show#[_,rfl,u,_,_,_,rfl,rfl,B,rfl,_,rfl,_,_,rfl,rfl,_,rfl,?_];show(if decide (t<j.br)=true then _ else _);change ∀v H',aB H H'->Hn S H' v (zL j y t)->Q v H' at q;unfold zL at q;by_cases M:t<j.br
 .rw[bS M]at q;refine eQ (cE M) #[_,rfl,u,_,_,_,rfl,rfl,B,rfl,_,rfl,u,_,_,_,rfl,rfl,B,rfl,λa c L m _=>#[a,c,_,_,rfl,aK,rfl,?_]];exact q _ _ (X L m) #[a,c,rfl,aK]
 rw[bx M]at q;refine dA (dt M) ?_;have Pq:ao.gT (dm.map V.str) (k:Int)=some (.str y):=iH (by rw[dV,eI];rfl);show#[_,rfl,u,_,_,_,rfl,rfl,B,rfl,_,rfl,x,C,ag,_,_,rfl,U _ _ ar,T.cl,T.hM,rfl,_,rfl,g,_,_,_,rfl,rfl,aQ.of (U _ _ W.goals),Pq,rfl,_,rfl,?_];by_cases O:j.iq=y
 .rw[bS O]at q;refine eQ (cE (fa V.str O)) #[_,rfl,u,_,_,_,rfl,rfl,B,rfl,λa c L m _=>#[a,c,_,rfl,aK,rfl,?_]];exact q _ _ (X L m) #[a,c,rfl,aK]
 rw[bx O]at q;refine dA (dt λz=>O (V.str.inj z)) #[_,rfl,u,_,_,_,rfl,rfl,B,rfl,_,rfl,u,_,_,_,rfl,rfl,B,rfl,λa c L m _=>#[a,c,_,_,rfl,aK,rfl,?_]];exact q _ _ (X L m) #[a,c,rfl,aK]
noncomputable abbrev D_:Stmt:=fS (top 63) 10
theorem alE:cI d4 d4 (b5 D_):={}
inductive zY(ay C aw aq c1:Addr)(Sp_:xT)(vs:aO)(H:af)(Q:a4)(E:bY):Prop where
 |mk(bD:af)(x:Addr)(A:ct)(hs:bt)(ds:cC)(s:c8)(i:Int)(_:vs=[.ref x,.int i])(_:ej ay C aw aq bD H x A hs ds s)(_:s.aY.length=s.bB.length)(_:∀ss∈s.aY,ss.length<=100)
   (dD:∀n:Nat,i=n->n<s.bB.length->∀v H',aB H H'->Hn Sp_ H' v (spotOf (s.aY.getD n []) (j2 (e_ s.bB) n) s.pr)->Q v H') (e1:¬(0<=i/\i<s.bB.length)->∀ag H',H ag=none->aB H H'->H' ag=some (oI ag [("number",.int i)])->E (.ref c1) (some ag) H')
theorem aj6{f:Addr}{Sp_:xT}(F:cj K "spot" "Day.spot" D_ f fd)(B:ft mg)(c:tE K G)(jF:dM K C)(O:cH K C "spot_at" "Walk.spot_at" IC DJ f1 c2)(k:aD P w K mg base a3 3 f1 c2 DJ (Zu C Sp_))(v_:qN K mg "RoadError" j R)(p1:mg "NoLetter"=some (.ref j))(T:mj K (.ref j)=true)(U:cD K (.ref j) "__init__"=some (some (.ref I)))(X:ua K (.ref I)=true)(yb:aD P w K mg base a3 1 I Z d4 (D5 j))(Y:Binds K Z d4 []):
  aD P w K mg base (iz P w) 4 f fd d4 (zY G C aw aq j Sp_):=by
 refine y3 F alE (λ_ i9 _ s0 H vs Q E r h=>?_);obtain⟨bD,x,A,hs,ds,s,i,rfl,D,ln,c3,q,fq⟩:=h;show#[_,(a6 (d8 (j0 (Gd rK zR aZ (ae 1) (eD kN B.len jI (ak (d5 (ae 0)) aA)))) (a7 (UZ v_ p1 T U X yb r.mono Y rfl (ak (ae 1) aA))) ed)
  (a7 (cd (fy (d5 (ae 0)) jF O.dQ k r.mono O.bd .nil b0 (ak (ae 1) (ak (d5 (ae 0)) aA)))))),?_]
 try dsimp only[cT,cS]
 have J:(aS A.j_).length=s.bB.length:=by have:=D.pt.len;rw[bP]at this;rw[fo];exact this
 have L:¬(0<=i/\i<s.bB.length)->∀e,H e=none->D5 j (V.ref e::[.int i]) (upd H e (nw e j)) (λu t=>u=.b3/\∃a,t e=some (nv e j a)/\E (.ref j) (some a) (del t e)) kC:=λuJ e ne=>by
  show#[e,.int i,rfl,aK,λa p M=>#[rfl,a,aK,?_]];have o:H a=none:=by rw[aJ M]at p;exact p
  have aH:del (upd (upd (upd H e (nw e j)) a (oI a [("number",.int i)])) e (nv e j a)) e=upd H a (oI a [("number",.int i)]):=by
   funext b;by_cases d:b=e
   .subst d;rw[Vv,aJ (dY M)];exact ne.symm
   rw[uY d,aJ d];by_cases m:b=a
   .subst m;rw[aK,aK]
   rw[aJ m,aJ m,aJ d]
  rw[aH];exact fq uJ a _ o (bF o) aK
 show#[_,rfl,_,_,rfl,rfl,_,rfl,?_];by_cases l:0<=i
 .refine eQ (cE l) #[_,rfl,x,G,A.ag,_,_,rfl,D.ins,c.cl,c.no,rfl,A.pl,_,rfl,.inl (aQ.of D.po),_,_,rfl,rfl,_,rfl,?_];by_cases g:i<((aS A.j_).length:Int)
  .refine C' g ?_;rw[J]at g;obtain⟨n,rfl⟩:∃n:Nat,i=(n:Int):=#[i.toNat,by omega]
   have N:n<s.bB.length:=by omega
   have y:s.aY[n]?=some (s.aY.getD n []):=y_ (by omega);have rb:(e_ s.bB)[n]?=some (j2 (e_ s.bB) n):=y_ (by unfold e_;rw[bP];exact N);show#[_,rfl,x,G,A.ag,_,_,rfl,D.ins,c.cl,c.jn,rfl,A.dp,A.jX,_,rfl,D.wi,rfl,_,rfl,_,rfl,x,G,A.ag,_,_,rfl,D.ins,c.cl,c.np,rfl,A.dp,A.n,A.g,A.bM,_,_,_,n,_,_,_,rfl,D.walk,y,c3 _ (fC y),rb,λv H' au sp=>q n rfl N v H' au sp]
  refine eQ (by rw[dt g];rfl) ?_;show#[_,rfl,(by show 1<=sizeLine;decide),L λz=>g (by rw[J];exact z.2)]
 refine dA (dt l) #[_,rfl,?_];exact hU #[_,rfl,(by show 1<=sizeLine;decide),L λz=>l z.1]
noncomputable def De(l:b7)(r:Nat):List Nat:=if r∈l then l else l++[r]
noncomputable def w_(s:c8)(r:Nat):c8:={s with iR:=De s.iR r}
noncomputable def s6(s:c8)(r:Nat):c8:={s with iR:=s.iR.filter λk=>decide (k≠r)}
theorem agP(l:b7)(r:Nat):fw (mS l) (fV (r:Int)) (.aV true)=mS (De l r):=by
 unfold fw De;have b:((mS l).any λc=>decide (c.1=(fV (r:Int):bq)))=decide (r∈l):=by
  unfold mS;rw[adi,Mx,pM,decide_eq_true_iff];constructor
  .rintro⟨k,a,e⟩;have e:=nK e;have e:(k:Int)=(r:Int):=D8 e;rw[<-acv e];exact a
  exactλh=>#[r,h,cE rfl]
 rw[b];by_cases h:r∈l
 .rw[bS (cE h),bS h];unfold mS;rw[hc];refine t4 λk _=>?_;show(if(fV (k:Int):bq)=fV (r:Int)then((fV (k:Int):bq),V.aV true)else(fV (k:Int),V.aV true))=_;split<;>rfl
 rw[bx (by simp[h]),bx h];unfold mS;rw[eK];rfl
theorem ae2(l:b7)(r:Nat):w7 (mS l) (fV (r:Int))=mS (l.filter λk=>decide (k≠r)):=by
 unfold w7 mS;rw[It];congr 1;refine List.filter_congr λk _=>?_;show decide ((fV (k:Int):bq)≠fV (r:Int))=decide (k≠r);by_cases e:k=r
 .subst e;rw[dt (by simp),dt (by simp)]
 rw[cE e,cE (show(fV (k:Int):bq)≠fV (r:Int) fromλz=>e (acv (D8 z)))]
theorem ae3(l:b7)(r:Nat)(h:dk (mS l) (fV (r:Int):bq)=none):(l.filter λk=>decide (k≠r))=l:=by have:=Yj l r;rw[h]at this;have a:r∉l:=nK this.symm;exact adq.mpr λk b=>cE λz=>a (z▸b)
end
section
variable{P:cx}{w:bf}{K:aN}{mg:cb}{base:Heap}{ay C aw aq:Addr}{bD H:af}{x:Addr}{A:ct}{hs:bt}{ds:cC}{s:c8}
theorem ej.KD(D:ej ay C aw aq bD H x A hs ds s):A.t∈A.b9 x/\A.cp∈A.b9 x:=by unfold ct.b9;simp
theorem Mk{c d:Type}{F G:c->d->Prop}:∀{a:List c}{b:List d},b2 F a b->(∀x∈a,∀y,F x y->G x y)->b2 G a b
 |_,_,.nil,_=>.nil
 |_,_,.cons h r,k=>.cons (k _ (by simp) _ h) (Mk r λx f=>k x (by simp[f]))
theorem ej.ax3(D:ej ay C aw aq bD H x A hs ds s)(m:aB H H')(kvs:gm):ej ay C aw aq bD (upd H' A.t (.dB kvs)) x A hs ds {s with kvs:=kvs}/\gH (A.b9 x) (A.b9 x) H (upd H' A.t (.dB kvs)):=by
 have d:=D.same m;have h:∀{b v},H' b=some (.tup v)->b≠A.t:=λ{b v}e z=>by rw[z,d.tB]at e;cases e
 have k:=D.aI;unfold ct.b9 at k;simp only[jw,dr,not_or]at k;obtain⟨⟨_,_,j,_⟩,⟨_,i,_⟩,⟨q,_⟩,⟨p,n,r,B,t,y⟩,_⟩:=k;obtain⟨bh,V⟩:=d.d3;show#[#[λb o e=>?_,D.el,D.fJ,?_,?_,b2.fT d.pt λa v e=>?_,#[bh,?_],aK,?_,?_,?_,?_,?_,?_,b2.fT d.sp λa v e=>?_,D.aI,D.fr],#[λb o u e=>?_,λb L=>.inl L]]
 .rw[aJ (λz=>by rw[z,D.fr _ D.KD.1]at e;cases e)];exact d.cL _ _ e
 .rw[aJ j];exact d.ins
 .rw[aJ i];exact d.po
 .rw[aJ (h e)];exact e
 .rw[aJ q];exact V
 .rw[aJ (dY p)];exact d.cp
 .rw[aJ (dY n)];exact d.wi
 .rw[aJ (dY r)];exact d.hY
 .rw[aJ (dY B)];exact d.ws
 .exact Mk d.pA λl N F⟨E,g,f⟩=>#[E,by rw[aJ (λz=>y (by rw[<-z];exact N))];exact g,b2.fT f λa v e=>by rw[aJ (h e)];exact e]
 .rw[aJ (dY t)];exact d.c5
 .obtain⟨c,g,f⟩:=e;show#[c,by rw[aJ (h g)];exact g,by rw[aJ (h f)];exact f]
 rw[aJ (λz=>u (by rw[z];exact D.KD.1))];exact m _ _ e
theorem ej.Ű(D:ej ay C aw aq bD H x A hs ds s)(m:aB H H')(l:b7):ej ay C aw aq bD (upd H' A.cp (.cv (mS l))) x A hs ds {s with iR:=l}/\gH (A.b9 x) (A.b9 x) H (upd H' A.cp (.cv (mS l))):=by
 have d:=D.same m;have h:∀{b v},H' b=some (.tup v)->b≠A.cp:=λ{b v}e z=>by rw[z,d.cp]at e;cases e
 have k:=D.aI;unfold ct.b9 at k;simp only[jw,dr,not_or]at k;obtain⟨⟨_,_,_,j,_⟩,⟨_,_,i,_⟩,⟨_,q,_⟩,⟨p,_⟩,⟨n,r,B,t,y⟩,_⟩:=k;obtain⟨bh,V⟩:=d.d3;show#[#[λb o e=>?_,D.el,D.fJ,?_,?_,b2.fT d.pt λa v e=>?_,#[bh,?_],?_,aK,?_,?_,?_,?_,?_,b2.fT d.sp λa v e=>?_,D.aI,D.fr],#[λb o u e=>?_,λb L=>.inl L]]
 .rw[aJ (λz=>by rw[z,D.fr _ D.KD.2]at e;cases e)];exact d.cL _ _ e
 .rw[aJ j];exact d.ins
 .rw[aJ i];exact d.po
 .rw[aJ (h e)];exact e
 .rw[aJ q];exact V
 .rw[aJ p];exact d.tB
 .rw[aJ (dY n)];exact d.wi
 .rw[aJ (dY r)];exact d.hY
 .rw[aJ (dY B)];exact d.ws
 .exact Mk d.pA λl N F⟨E,g,f⟩=>#[E,by rw[aJ (λz=>y (by rw[<-z];exact N))];exact g,b2.fT f λa v e=>by rw[aJ (h e)];exact e]
 .rw[aJ (dY t)];exact d.c5
 .obtain⟨c,g,f⟩:=e;show#[c,by rw[aJ (h g)];exact g,by rw[aJ (h f)];exact f]
 rw[aJ (λz=>u (by rw[z];exact D.KD.2))];exact m _ _ e
end
section
variable{P:cx}{w:bf}{K:aN}{mg:cb}{base:Heap}
inductive Jh(ay C aw aq dW:Addr)(vs:aO)(H:af)(Q:a4)(E:bY):Prop where
 |mk(bD:af)(x:Addr)(A:ct)(hs:bt)(ds:cC)(s:c8)(i:Int)(_:vs=[.ref x,.int i])(_:ej ay C aw aq bD H x A hs ds s)(_:0<=i/\i<ds.length->Q .b3 H)(_:¬(0<=i/\i<ds.length)->∀H',aB H H'->E (.ref dW) none H')
noncomputable abbrev Gw:Stmt:=fS (top 63) 11
theorem am6:cI d4 d4 (b5 Gw):={}
theorem alF{f:Addr}(F:cj K "need_road" "Day.need_road" Gw f fd)(d:tE K j)(L:dM K e)(k:cH K e "road" "Net.road" zu d4 f1 u)(l:aD P w K mg base (fg P w) 1 f1 u d4 (Xm e B)):
  aD P w K mg base (fg P w) 2 f fd d4 (Jh j C G e B):=by
 refine nL F am6 (λr I b J H vs Q E o h=>?_);obtain⟨N,x,A,V,ds,s,i,rfl,D,q,y⟩:=h;show#[_,(a7 (hj (fy (d5 (ae 0)) L k.dQ l o.mono k.bd .nil rq (ak (ae 1) aA)))),?_]
 try dsimp only[cT,cS]
 have g:=D.el.same D.cL;obtain⟨t,m⟩:=g.ins;have c:((aS A.rs).length:Int)=ds.length:=by rw[fo,D.fJ.len]
 show#[_,rfl,x,j,_,_,_,rfl,D.ins,d.cl,d.nn,rfl,A.n,t,_,rfl,m,rfl,_,rfl,A.n,A.a',A.b',_,_,i,rfl,g,λa=>?_,λa=>y (λz=>a (by rw[c];exact z)) H (aB.refl _)];rw[c]at a;obtain⟨v,p⟩:∃v,ao.gT (aS A.rs) i=some v:=by
  have n:i.toNat < (aS A.rs).length:=by omega
  show#[(aS A.rs)[i.toNat],?_];have:=iH (xs:=aS A.rs) (dw n)
  rwa [xt a.1]at this
 show#[v,p,q a]
inductive xa(ay C aw aq dW:Addr)(up:c8->Nat->c8)(vs:aO)(H:af)(Q:a4)(E:bY):Prop where
 |mk(bD:af)(x:Addr)(A:ct)(hs:bt)(ds:cC)(s:c8)(i:Int)(_:vs=[.ref x,.int i])(_:ej ay C aw aq bD H x A hs ds s)(_:s.iR.length<=900)(_:∀r:Nat,i=r->r<ds.length->∀H',gH (A.b9 x) (A.b9 x) H H'->ej ay C aw aq bD H' x A hs ds (up s r)->Q .b3 H')(_:¬(0<=i/\i<ds.length)->∀H',aB H H'->E (.ref dW) none H')
noncomputable abbrev Df:Stmt:=fS (top 63) 5
theorem aj7:cI mh mh (b5 Df):={}
theorem aiE{f:Addr}(F:cj K "shut" "Day.shut" Df f fd)(a:tE K e)(g:cH K e "need_road" "Day.need_road" Gw d4 f1 B)(l:aD P w K mg base (fg P w) 2 f1 B d4 (Jh e C u j G)):
  aD P w K mg base (fg P w) 3 f fd mh (xa e C u j G w_):=by
 have p:=a.cl;refine nL F aj7 (λo L c N H vs Q E d h=>?_);obtain⟨n,x,A,y,ds,s,i,rfl,D,m,q,t⟩:=h;show#[_,(a6 (hj (fy (ae 0) p g.dQ l d.mono g.bd .nil rq (ak (ae 1) aA)))
  (a7 (Me (l8 d) (d5 (ae 0)) (ae 1) iK rfl))),?_]
 try dsimp only[cT,cS]
 show#[_,rfl,x,A.ag,_,rfl,D.ins,rfl,_,rfl,n,x,A,y,ds,s,i,rfl,D,λz=>?_,t];obtain⟨r,rfl⟩:∃r:Nat,i=(r:Int):=#[i.toNat,by omega]
 have b:=D.Ű (aB.refl H) (De s.iR r);rw[<-agP]at b;show#[_,rfl,x,e,_,_,_,rfl,D.ins,a.cl,a.s8,rfl,_,rfl,A.cp,_,rfl,tD.k (k:=fV (r:Int)) D.cp (e' (by unfold mS;rw[bP];omega)),q r rfl (by omega) _ b.2 b.1]
noncomputable abbrev Ea:Stmt:=fS (top 63) 6
theorem alG:cI mh mh (b5 Ea):={}
theorem aj8{f:Addr}(F:cj K "reopen" "Day.reopen" Ea f fd)(a:tE K j)(g:cH K j "need_road" "Day.need_road" Gw d4 f1 G)(l:aD P w K mg base (fg P w) 2 f1 G d4 (Jh j C B u I)):
  aD P w K mg base (fg P w) 3 f fd mh (xa j C B u I s6):=by
 have t:=a.cl;refine nL F alG (λp N c V H vs Q E m h=>?_);obtain⟨o,x,A,z,ds,s,i,rfl,D,n,q,y⟩:=h;show#[_,(a6 (hj (fy (ae 0) t g.dQ l m.mono g.bd .nil rq (ak (ae 1) aA)))
  (a7 (hj (af6 (d5 (ae 0)) (ae 1) kT #[rfl,rfl,rfl,rfl])))),?_]
 try dsimp only[cT,cS]
 show#[_,rfl,x,A.ag,_,rfl,D.ins,rfl,_,rfl,o,x,A,z,ds,s,i,rfl,D,λL=>?_,y];obtain⟨r,rfl⟩:∃r:Nat,i=(r:Int):=#[i.toNat,by omega]
 have b:=D.Ű (aB.refl H) (s.iR.filter λk=>decide (k≠r));rw[<-ae2]at b;show#[_,rfl,x,j,_,_,_,rfl,D.ins,a.cl,a.s8,rfl,A.cp,rfl,.inl #[_,.inl D.cp],_,rfl,_,fV (r:Int),D.cp,rfl,λv d=>q r rfl (by omega) _ b.2 b.1,λd=>?_];refine q r rfl (by omega) H (gH.refl (aB.refl _)) ?_;have e:s6 s r=s:=by unfold s6;rw[ae3 _ _ d]
 rw[e];exact D
inductive Dg(ay C aw aq:Addr)(vs:aO)(H:af)(Q:a4)(E:bY):Prop where
 |mk(bD:af)(x:Addr)(A:ct)(hs:bt)(ds:cC)(s:c8)(_:vs=[.ref x])(_:ej ay C aw aq bD H x A hs ds s)(_:∀l,H l=none->Q (.ref l) (upd H l (.lst (aS A.jW))))
noncomputable abbrev Av:Stmt:=fS (top 63) 8
theorem alH:cI cG cG (b5 Av):={}
theorem aj9{f:Addr}(F:cj K "log" "Day.log" Av f fd)(B:ft mg)(b:tE K e):aD P w K mg base a3 1 f fd cG (Dg e C j i):=by
 refine F.ok alH (λc A a s H vs Q E d h=>?_);obtain⟨g,x,A,k,ds,s,rfl,D,q⟩:=h;show#[_,(a7 (cd (hC Br B.list wL (ak (d5 (ae 0)) aA)))),?_]
 try dsimp only[cT,cS]
 show#[_,rfl,x,e,_,_,_,rfl,D.ins,b.cl,b.ns,rfl,A.c5,_,rfl,.inl (aQ.of D.c5),q]
noncomputable def Pa:fu:=λvs H Q _=>∃x:Addr,vs=[.ref x]/\Q (.str Fl) H
noncomputable def Pb(C:Addr):fu:=λvs H Q _=>∃(x a:Addr)(z:Str)(i:Int),vs=[.ref x]/\H x=some (.ins C a [("at",.str z),("since",.int i)])/\z.length<=8/\qL i/\Q (.str (Ń z i)) H
noncomputable def Pf(C:Addr):fu:=λvs H Q _=>∃(x a:Addr)(i j:Int),vs=[.ref x]/\H x=some (.ins C a [("by",.int i),("due",.int j)])/\qL i/\qL j/\Q (.str (ń i j)) H
noncomputable def Pg(C:Addr):fu:=λvs H Q _=>∃(x a:Addr)(i:Int),vs=[.ref x]/\H x=some (.ins C a [("since",.int i)])/\qL i/\Q (.str (ł i)) H
noncomputable abbrev Gs:Stmt:=fS (top 29) 0
noncomputable abbrev Gr:Stmt:=fS (top 30) 1
noncomputable abbrev Gu:Stmt:=fS (top 31) 1
noncomputable abbrev Gq:Stmt:=fS (top 32) 1
theorem am7:cI cG cG (b5 Gs):={}
theorem alb{f:Addr}(F:cj K "line" "NotYet.line" Gs f fd):aD P w K mg base a3 1 f fd cG Pa:=by refine F.ok am7 (λb A a s H vs Q E c h=>?_);obtain⟨x,rfl,q⟩:=h;show#[_,(a7 (cd cn)),q]
theorem am8:cI cG cG (b5 Gr):={}
theorem alc{f:Addr}(F:cj K "line" "AtHouse.line" Gr f fd)(B:ft mg)(d:dM K C)(m:cD K (.ref C) "at"=some none)(k:cD K (.ref C) "since"=some none):aD P w K mg base a3 1 f fd cG (Pb C):=by
 refine F.ok am8 (λl A a s H vs Q E p h=>?_);obtain⟨x,b,z,i,rfl,c,n,g,q⟩:=h;show#[_,(a7 (cd (bO fX (bO fX (bO fX cn (d5 (ae 0))) cn) (hC kM B.str j1 (ak (d5 (ae 0)) aA))))),?_]
 try dsimp only[cT,cS]
 have o:=HY g;show#[_,rfl,x,C,b,_,_,rfl,c,d,m,rfl,_,_,rfl,rfl,(by show 3+z.length<=sizeLine;exact mi (e' (by omega))),_,_,rfl,rfl,(by rw[za];show 3+z.length+7<=sizeLine;exact mi (e' (by omega))),?_];show#[_,rfl,x,C,b,_,_,rfl,c,d,k,rfl,i,rfl,HZ g,_,_,rfl,rfl,?_,q];rw[za,za];show 3+z.length+7+(num i).length<=sizeLine;exact mi (e' (by omega))
theorem am9:cI cG cG (b5 Gu):={}
theorem ald{f:Addr}(F:cj K "line" "OnRoad.line" Gu f fd)(B:ft mg)(g:dM K C)(n:cD K (.ref C) "by"=some none)(l:cD K (.ref C) "due"=some none):aD P w K mg base a3 1 f fd cG (Pf C):=by
 refine F.ok am9 (λm A a s H vs Q E r h=>?_);obtain⟨x,b,i,j,rfl,c,k,d,q⟩:=h;show#[_,(a7 (cd (bO fX (bO fX (bO fX cn (hC kM B.str j1 (ak (d5 (ae 0)) aA))) cn) (hC kM B.str j1 (ak (d5 (ae 0)) aA))))),?_]
 try dsimp only[cT,cS]
 have o:=HY k;have p:=HY d;show#[_,rfl,x,C,b,_,_,rfl,c,g,n,rfl,i,rfl,HZ k,_,_,rfl,rfl,(by show 3+(num i).length<=sizeLine;exact mi (e' (by omega))),_,_,rfl,rfl,(by rw[za];show 3+(num i).length+7<=sizeLine;exact mi (e' (by omega))),?_];show#[_,rfl,x,C,b,_,_,rfl,c,g,l,rfl,j,rfl,HZ d,_,_,rfl,rfl,?_,q];rw[za,za];show 3+(num i).length+7+(num j).length<=sizeLine;exact mi (e' (by omega))
theorem ana:cI cG cG (b5 Gq):={}
theorem ale{f:Addr}(F:cj K "line" "AtHome.line" Gq f fd)(B:ft mg)(k:dM K C)(l:cD K (.ref C) "since"=some none):aD P w K mg base a3 1 f fd cG (Pg C):=by
 refine F.ok ana (λg A a s H vs Q E n h=>?_);obtain⟨x,c,i,rfl,d,b,q⟩:=h;show#[_,(a7 (cd (bO fX cn (hC kM B.str j1 (ak (d5 (ae 0)) aA))))),?_]
 try dsimp only[cT,cS]
 have m:=HY b;show#[_,rfl,x,C,c,_,_,rfl,d,k,l,rfl,i,rfl,HZ b,_,_,rfl,rfl,(by show 11+(num i).length<=sizeLine;exact mi (e' (by omega))),q]
noncomputable abbrev r3:=Nat×Nat×List Nat
noncomputable def Dp(a:b7):List ao.V:=a.map λn:Nat=>V.int (n:Int)
noncomputable def Aw(H:af)(a:Addr)(b:r3):Prop:=∃c,H a=some (.tup [.int (b.1:Int),.int (b.2.1:Int),.ref c])/\H c=some (.tup (Dp b.2.2))
theorem Aw.same{b:r3}(h:Aw H a b)(d:aB H H'):Aw H' a b:=let⟨c,f,g⟩:=h;#[c,d _ _ f,d _ _ g]
structure Ji(b:r3):Prop where
 t:b.1<10 ^ 10
 r:b.2.1<10 ^ 10
 n:∀n∈b.2.2,n<10 ^ 10
 ne:b.2.2≠[]
 c3:b.2.2.length<=40
noncomputable def rY(b:r3):List Nat:=df b.1++[32]++df b.2.1++[58,32]++d1 [32] (b.2.2.map df)
noncomputable def zZ(a:List r3):List Nat:=d1 [59,32] (a.map rY)
theorem Nl(y:b7)(k:Nat):∀a:List b7,(∀p∈a,p.length<=k)->(d1 y a).length<=a.length*(k+y.length)
 |[],_=>e4 _
 |[p],h=>by have:=h p (.head _);show p.length<=1*(k+y.length);omega
 |p::q::r,h=>by have f:=h p (.head _);have b:=Nl y k (q::r) λd c=>h d (.tail _ c);show(p++y++d1 y (q::r)).length<=(r.length+1+1)*(k+y.length);rw[eM,eM,Ys];rw[gC]at b;omega
theorem ahd{b:r3}(ok:Ji b):(rY b).length<=500:=by
 have g:=lF ok.t;have h:=lF ok.r;have d:=Nl [32] 10 (b.2.2.map df) λp a=>by obtain⟨n,c,rfl⟩:=cm.mp a;exact lF (ok.n n c)
 rw[bP]at d;have f:=ok.c3;have k:b.2.2.length*(10+[32].length)<=40*11:=NU f (cB _);unfold rY;simp only[eM,gC,vB]at *;omega
theorem CK{c:Type}(f:c->Nat)(k:Nat):∀l:List c,(∀a∈l,f a<=k)->(l.map f).sum<=l.length*k
 |[],_=>e4 _
 |a::l,h=>by have g:=h a (.head _);have m:=CK f k l λb d=>h b (.tail _ d);rw[jd,NO,gC,Ys];omega
noncomputable def ZG:fu:=λvs H Q _=>∃(a:Addr)(b:r3),vs=[.ref a]/\Aw H a b/\Ji b/\∀H',aB H H'->Q (.str (S (rY b))) H'
end
noncomputable def Dq(K:aN):fu:=λvs H Q _=>∃(p:Addr)(c:bL)(a:List r3),vs=[.ref p]/\aQ K H p (aS c)/\b2 (Aw H) c a/\(∀b∈a,Ji b)/\a.length<=1000/\∀H',aB H H'->Q (.str (S (zZ a))) H'
theorem MZ{n:Nat}(h:n<10 ^ 10):((n:Int)).natAbs.log2<1920:=by
 rw[acu];by_cases a:n=0
 .subst a;decide
 exact(Yp a).mpr (jx h (by decide+kernel))
section
variable{P:cx}{w:bf}{K:aN}{mg:cb}{base:Heap}
noncomputable abbrev Jj:Stmt:=top 82
theorem ZH:cI ["bag","numbers"] ["bag"] (b5 Jj):={}
theorem akn{f:Addr}(F:cj K "show_bag" "show_bag" Jj f fd)(B:ft mg):aD P w K mg base a3 1 f fd ["bag"] ZG:=by
 refine F.ok ZH (λM A o s H vs Q E X h=>?_);obtain⟨a,b,rfl,⟨c,z,l⟩,ok,q⟩:=h;show#[_,(a6 (dO 1 ZH.aI (oz N_ afo afq XF cn (ak (tl (N':=["number"]) (cs:=[none]) rfl (YC (b8 eH (ae 0) aZ)) rfl (by decide+kernel) rfl (by decide+kernel) (lE (λp d=>bG d (e3))) rfl
   (.own .nil)
   (λC Y Z dc fA=>#[(fG 0 (by show(["number"]:cK).Nodup;decide+kernel)),o5,(hC kM B.str j1 (ak (ae 0) aA))])) aA)))
  (a7 (cd (bO fX (bO fX (bO fX (bO fX (hC kM B.str j1 (ak (b8 eH (ae 0) aZ) aA)) cn) (hC kM B.str j1 (ak (b8 eH (ae 0) aZ) aA))) cn) (ae 1))))),?_]
 try dsimp only[cT,cS]
 have G:(Dp b.2.2).length=b.2.2.length:=bP _;have T:=ok.c3;show#[rfl,?_];dsimp only[pb];refine MD (J:=Dw K c) (H1:=H) (xs:=Dp b.2.2) (rest:=[]) (λR h=>#[_,rfl,a,_,_,_,rfl,rfl,cV.of z,rfl,c,rfl,#[_,cV.of l],h]) rfl (ai1 (cV.of l) λH' y=>cV.of (y _ _ l)) (e' (by omega)) (λi=>.str (S (df (b.2.2.getD i 0)))) (λi v t R m y k=>?_) (λD t nG bI N=>?_)
 .unfold Dp at m;rw[dV]at m;obtain⟨n,L,rfl⟩:=gS.mp m;show#[_,rfl,_,rfl,MZ (ok.n n (fC L)),?_];rw[kn];have:=k t (aB.refl _);rw[ea,L]at this;exact this
 have U:(eB (Dp b.2.2).length).map (λi=>V.str (S (df (b.2.2.getD i 0))))=((b.2.2.map df).map S).map V.str:=by rw[G,range_getD (λn=>V.str (S (df n))) 0 b.2.2,hc,hc];rfl
 rw[U]at bI;have j:bc " "=S [32]:=by decide+kernel
 have O:bc ": "=S [58,32]:=by decide+kernel
 have dZ:=lF ok.t;have dG:=lF ok.r;have e:=Nl [32] 10 (b.2.2.map df) λp d=>by obtain⟨n,g,rfl⟩:=cm.mp d;exact lF (ok.n n g)
 have I:(d1 [32] (b.2.2.map df)).length<=440:=dX e (by rw[bP];exact NU T (cB _));rw[j,O];show#[S [32],D,(b.2.2.map df).map S,rfl,rfl,aQ.of bI,?_,?_]
 .have:=CK (λx:Str=>x.length) 10 ((b.2.2.map df).map S) λx u=>by obtain⟨p,d,rfl⟩:=cm.mp u;obtain⟨n,g,rfl⟩:=cm.mp d;rw[d6];exact lF (ok.n n g)
  rw[bP,bP,d6]at *;simp only[gC,vB];omega
 rw[Wy];have r:=cV.of (K:=K) (N _ _ z);show#[_,rfl,a,_,_,_,rfl,rfl,r,rfl,_,rfl,MZ ok.t,?_];rw[kn];show#[_,_,rfl,rfl,?_,_,rfl,a,_,_,_,rfl,rfl,r,rfl,_,rfl,MZ ok.r,?_]
 .rw[d6,d6];show _+1<=16777216;omega
 rw[kn,mM];show#[_,_,rfl,rfl,?_,_,_,rfl,rfl,?_,_,rfl,_,_,rfl,rfl,?_,?_]
 .rw[d6,d6,eM];show _+1+_<=16777216;omega
 .rw[mM,d6,d6,eM,eM];show _+1+_+2<=16777216;omega
 .rw[mM,mM,d6,d6,eM,eM,eM];show _+1+_+2+_<=16777216;omega
 rw[mM,mM,mM];exact q _ N
noncomputable abbrev xv:Stmt:=top 83
theorem alf:cI pQ pQ (b5 xv):={}
theorem ako{f:Addr}(F:cj K "show_plan" "show_plan" xv f fd)(z:cu K mg "show_bag" Jj ["bag"] f1 I)(l:aD P w K mg base a3 1 f1 I ["bag"] ZG):aD P w K mg base a3 2 f fd pQ (Dq K):=by
 refine F.ok alf (λM A o s H vs Q E u h=>?_);obtain⟨p,m,d,rfl,c,y,ok,Z,q⟩:=h;show#[_,(a7 (cd (oz N_ afo afq XF cn (ak (tl (N':=["bag"]) (cs:=[none]) rfl (jE (ae 0)) rfl (by decide+kernel) rfl (by decide+kernel) (lE (λp c=>bG c (e3))) rfl
   (.own .nil)
   (λC X Y dc fA=>#[(fG 0 (by show(["bag"]:cK).Nodup;decide+kernel)),o5,(d9 l z u.mono b0 (ak (ae 0) aA))])) aA)))),?_]
 try dsimp only[cT,cS]
 have L:=jy y;have r:=fo m;show#[rfl,?_];dsimp only[pb];refine MD (J:=n2 K p) (H1:=H) (xs:=aS m) (rest:=[]) (λR h=>#[_,rfl,p,rfl,#[_,c],h]) rfl (s4 c) (by rw[r];show _<16777216;omega) (λi=>.str (S (rY (d.getD i (0,0,[]))))) (λi v j R n G k=>?_) (λD j nG bI O=>?_)
 .unfold aS at n;rw[dV]at n;obtain⟨a,e,rfl⟩:=gS.mp n;obtain⟨b,t,g⟩:=b2.get y e;show#[_,rfl,a,b,rfl,g.same G,ok b (fC t),λH' T=>?_];have:=k H' T;rw[ea,t]at this;exact this
 have U:(eB (aS m).length).map (λi=>V.str (S (rY (d.getD i (0,0,[])))))=((d.map rY).map S).map V.str:=by rw[r,L,range_getD (λb=>V.str (S (rY b))) (0,0,[]) d,hc,hc];rfl
 rw[U]at bI;have N:bc "; "=S [59,32]:=by decide+kernel
 rw[N];show#[S [59,32],D,(d.map rY).map S,rfl,rfl,aQ.of bI,?_,?_]
 .have:=CK (λx:Str=>x.length) 500 ((d.map rY).map S) λx B=>by obtain⟨p,c,rfl⟩:=cm.mp B;obtain⟨b,g,rfl⟩:=cm.mp c;rw[d6];exact ahd (ok b g)
  rw[bP,bP,d6]at *;simp only[gC,vB];omega
 rw[Wy];exact q _ O
noncomputable abbrev TX:Stmt:=top 90
theorem Α:cI ["word","turn"] kI (b5 TX):={}
theorem akp{f:Addr}(F:cj K "as_first_turn" "as_first_turn" TX f fd)(d:I7 mg)(c:cu K mg "as_number" Gl kI f1 e)(a:aD P w K mg base a3 2 f1 e kI D0):aD P w K mg base a3 3 f fd kI OZ:=by
 refine F.ok Α (λ_ A _ s H vs Q E b h=>?_);obtain⟨m,rfl,k,q⟩:=h;show#[_,(a6 (dO 1 Α.aI (d9 a c b.mono b0 (ak (ae 0) aA)))
  (a6 (d8 (eN zI (ae 1) (uP (by rfl) d.Yl) (ek _)) (a7 uO) ed)
  (a7 (cd (ae 1))))),?_]
 try dsimp only[cT,cS]
 show#[_,rfl,m,rfl,by omega,λH' g=>#[_,rfl,_,_,rfl,rfl,_,rfl,dA (dt (by omega)) #[_,rfl,q H' g]]]
noncomputable abbrev Ph:Stmt:=top 113
theorem alg:cI h1 h1 (b5 Ph):={}
inductive Oz(ay C aw aq:Addr)(vs:aO)(H:af)(Q:a4)(E:bY):Prop where
 |mk(bD:af)(x:Addr)(v:ao.V)(A:ct)(hs:bt)(ds:cC)(s:c8)(_:vs=[.ref x,v])(_:ej ay C aw aq bD H x A hs ds s)(_:0<=s.pr/\s.pr<10 ^ 10)(_:Q (.str (bc (toString s.pr))) H)
theorem akq{f:Addr}(F:cj K "day_turn" "day_turn" Ph f fd)(B:ft mg)(g:dM K e)(a:cH K e "now" "Day.now" Ec cG f1 u)(b:aD P w K mg base a3 1 f1 u cG (Iz e C j i)):aD P w K mg base a3 2 f fd h1 (Oz e C j i):=by
 refine F.ok alg (λ_ n _ o H vs Q E c h=>?_);show#[_,(a7 (cd (hC kM B.str j1 (ak (iG (ae 0) g a.dQ b c.mono a.bd .nil b0) aA)))),?_]
 try dsimp only[cT,cS]
 obtain⟨d,x,v,A,k,ds,s,rfl,D,l,q⟩:=h;show#[_,rfl,x,_,_,rfl,D.ins,rfl,d,x,A,k,ds,s,rfl,D,s.pr,rfl,?_,q];obtain⟨m,em⟩:=xr l.1;rw[em];exact qb (by omega)
inductive z0(ay C aw aq dW:Addr)(up:c8->Nat->c8)(vs:aO)(H:af)(Q:a4)(E:bY):Prop where
 |mk(bD:af)(x v:Addr)(A:ct)(hs:bt)(ds:cC)(s:c8)(n:Nat)(_:vs=[.ref x,.ref v])(_:ej ay C aw aq bD H x A hs ds s)(_:H v=some (.lst [.int (n:Int)]))(_:s.iR.length<=900)(_:n<ds.length->∀H',gH (A.b9 x) (A.b9 x) H H'->ej ay C aw aq bD H' x A hs ds (up s n)->Q (.str "ok") H')(_:¬n<ds.length->∀H',aB H H'->E (.ref dW) none H')
noncomputable abbrev Pj:Stmt:=top 115
theorem alh:cI h1 h1 (b5 Pj):={}
theorem akr{f:Addr}(F:cj K "day_shut" "day_shut" Pj f fd)(o:dM K i)(a:cH K i "shut" "Day.shut" Df mh f1 B)(b:aD P w K mg base (fg P w) 3 f1 B mh (xa i C u j G w_)):aD P w K mg base (fg P w) 4 f fd h1 (z0 i C u j G w_):=by
 refine nL F alh (λ_ N _ I H vs Q E c h=>?_);show#[_,(a6 (hj (fy (ae 0) o a.dQ b c.mono a.bd .nil rq (ak (b8 eO (ae 1) aZ) aA)))
  (a7 (cd cn))),?_]
 try dsimp only[cT,cS]
 obtain⟨g,x,v,A,t,ds,s,n,rfl,D,k,L,q,p⟩:=h;show#[_,rfl,x,_,_,rfl,D.ins,rfl,_,rfl,v,_,_,_,rfl,rfl,aQ.of k,rfl,g,x,A,t,ds,s,(n:Int),rfl,D,L,λr e V H' m l=>q (by omega) H' m (by rw[show n=r by omega];exact l),λy H' d=>p (λz=>y #[by omega,by omega]) H' d]
noncomputable abbrev Pk:Stmt:=top 116
theorem ali:cI h1 h1 (b5 Pk):={}
theorem aks{f:Addr}(F:cj K "day_reopen" "day_reopen" Pk f fd)(o:dM K i)(a:cH K i "reopen" "Day.reopen" Ea mh f1 B)(b:aD P w K mg base (fg P w) 3 f1 B mh (xa i C u j G s6)):aD P w K mg base (fg P w) 4 f fd h1 (z0 i C u j G s6):=by
 refine nL F ali (λ_ N _ I H vs Q E c h=>?_);show#[_,(a6 (hj (fy (ae 0) o a.dQ b c.mono a.bd .nil rq (ak (b8 eO (ae 1) aZ) aA)))
  (a7 (cd cn))),?_]
 try dsimp only[cT,cS]
 obtain⟨g,x,v,A,t,ds,s,n,rfl,D,k,L,q,p⟩:=h;show#[_,rfl,x,_,_,rfl,D.ins,rfl,_,rfl,v,_,_,_,rfl,rfl,aQ.of k,rfl,g,x,A,t,ds,s,(n:Int),rfl,D,L,λr e V H' m l=>q (by omega) H' m (by rw[show n=r by omega];exact l),λy H' d=>p (λz=>y #[by omega,by omega]) H' d]
noncomputable abbrev Pl:Stmt:=top 111
theorem alj:cI h1 h1 (b5 Pl):={}
inductive OA(ay C aw aq c1:Addr)(vs:aO)(H:af)(Q:a4)(E:bY):Prop where
 |mk(bD:af)(x v:Addr)(A:ct)(hs:bt)(ds:cC)(s:c8)(h g:Str)(_:vs=[.ref x,.ref v])(_:ej ay C aw aq bD H x A hs ds s)(_:H v=some (.lst [.str h,.str g]))(_:Good hs)(_:Ny hs s.bB)(_:s.bB.length<=40)(_:s.aY.length=s.bB.length)(_:∀H,c7 H (.str h) (.str h))(_:∀H,c7 H (.str g) (.str g))
   (Mp:r1 (bI hs) ((s.bB++[(h,s.pr,g)]).map nE)->∀H' c0,gH (A.b9 x) (c0.b9 x) H H'->ej ay C aw aq bD H' x c0 hs ds (Dh s h g)->Q (.str (S (df s.bB.length))) H') (VE:¬r1 (bI hs) ((s.bB++[(h,s.pr,g)]).map nE)->∀o H',aB H H'->E (.ref c1) o H')
theorem akt{f:Addr}(F:cj K "day_post" "day_post" Pl f fd)(B:ft mg)(y:dM K e)(c:cH K e "post" "Day.post" Di iU f1 I)(g:aD P w K mg base (iz P w) 5 f1 I iU (HW e C j i u)):aD P w K mg base (iz P w) 6 f fd h1 (OA e C j i u):=by
 refine y3 F alj (λ_ Y _ Z H vs Q E k h=>?_);show#[_,(a7 (cd (hC kM B.str j1 (ak (fy (ae 0) y c.dQ g k.mono c.bd .nil nr (ak (b8 eO (ae 1) aZ) (ak (b8 eO (ae 1) aZ) aA))) aA)))),?_]
 try dsimp only[cT,cS]
 obtain⟨m,x,v,A,V,ds,s,N,L,rfl,D,n,G,R,J,d,O,r,q,z⟩:=h;have b:=aQ.of (K:=K) n;show#[_,rfl,x,_,_,rfl,D.ins,rfl,_,rfl,v,_,_,_,rfl,rfl,b,rfl,_,rfl,v,_,_,_,rfl,rfl,b,rfl,m,x,A,V,ds,s,N,L,rfl,D,G,R,J,d,O,r,λa H' o t p=>#[((s.bB.length:Nat):Int),rfl,qb (by omega),?_],λM U H' T l X=>z M _ H' l];rw[kn];exact q a H' o t p
noncomputable def qU(b:kG×List Nat):r3:=(b.1.1.toNat,b.1.2,b.2)
structure xw(b:kG×List Nat):Prop where
 t:0<=b.1.1/\b.1.1<10 ^ 10
 r:b.1.2<10 ^ 10
 n:∀n∈b.2,n<10 ^ 10
 ne:b.2≠[]
 c3:b.2.length<=40
theorem xw.ok{b:kG×List Nat}(h:xw b):Ji (qU b):=#[by have:=h.t;show b.1.1.toNat < 10 ^ 10;omega,h.r,h.n,h.ne,h.c3]
theorem FF{d:vU}(h:b2 (nI H) as d)(ok:∀b∈d,xw b):b2 (Aw H) as (d.map qU):=by
 induction h with
 |nil=>exact .nil
 |@cons a b as d h t e=>
  refine .cons ?_ (e λb f=>ok b (.tail _ f));obtain⟨c,g,k⟩:=h;have o:=(ok b (.head _)).t;show#[c,?_,k];show H a=some (.tup [.int ((b.1.1.toNat:Nat):Int),.int b.1.2,.ref c]);rw[xt o.1];exact g
noncomputable abbrev Pm:Stmt:=top 117
theorem alk:cI h1 h1 (b5 Pm):={}
inductive OB(ay C aw aq:Addr)(vs:aO)(H:af)(Q:a4)(E:bY):Prop where
 |mk(bD:af)(x:Addr)(v:ao.V)(A:ct)(hs:bt)(ds:cC)(s:c8)(_:vs=[.ref x,v])(_:ej ay C aw aq bD H x A hs ds s)(_:∀b∈s.mT,xw b)(_:s.mT.length<=1000)(_:∀H',aB H H'->Q (.str (S (zZ (s.mT.map qU)))) H')
theorem aku{f:Addr}(F:cj K "day_log" "day_log" Pm f fd)(r:dM K i)(d:cH K i "log" "Day.log" Av cG f1 B)(k:aD P w K mg base a3 1 f1 B cG (Dg i C u j))(y:cu K mg "show_plan" xv pQ f2 G)(L:aD P w K mg base a3 2 f2 G pQ (Dq K)):aD P w K mg base a3 3 f fd h1 (OB i C u j):=by
 refine F.ok alk (λ_ N _ V H vs Q E a h=>?_);show#[_,(a7 (cd (d9 L y a.mono b0 (ak (iG (ae 0) r d.dQ k a.mono d.bd .nil b0) aA)))),?_]
 try dsimp only[cT,cS]
 obtain⟨p,x,v,A,t,ds,s,rfl,D,ok,z,q⟩:=h;show#[_,rfl,x,_,_,rfl,D.ins,rfl,p,x,A,t,ds,s,rfl,D,λl g=>#[l,A.jW,s.mT.map qU,rfl,aQ.of aK,b2.fT (FF D.sp ok) λ_ _ e=>e.same (bF g),λb m=>?_,by rw[bP];exact z,λH' n=>q H' ((bF g).trans n)]];obtain⟨c,o,rfl⟩:=cm.mp m;exact(ok c o).ok
noncomputable abbrev Pn:Stmt:=top 112
theorem alm:cI h1 h1 (b5 Pn):={}
inductive OC(ay C aw aq:Addr)(vs:aO)(H:af)(Q:a4)(E:bY):Prop where
 |mk(bD:af)(x:Addr)(v:ao.V)(A:ct)(hs:bt)(ds:cC)(s:c8)(k:Nat)(_:vs=[.ref x,v])(_:ej ay C aw aq bD H x A hs ds s)(_:Good hs)(_:iM hs ds k s)(_:k<=98)(_:∀b∈gL ds s,xw b)(_:(gL ds s).length<=1000)(_:∀H' c0,gH (A.b9 x) (c0.b9 x) H H'->ej ay C aw aq bD H' x c0 hs ds (u9 hs ds s)->Q (.str (S (zZ ((gL ds s).map qU)))) H')
theorem akv{f:Addr}(F:cj K "day_pass" "day_pass" Pn f fd)(z:dM K e)(l:cH K e "pass_turn" "Day.pass_turn" Dj cG f1 u)(m:aD P w K mg base a3 6 f1 u cG (HX K e C j i))(I:cu K mg "show_plan" xv pQ f2 B)(M:aD P w K mg base a3 2 f2 B pQ (Dq K)):aD P w K mg base a3 7 f fd h1 (OC e C j i):=by
 refine F.ok alm (λ_ U _ Z H vs Q E d h=>?_);show#[_,(a7 (cd (d9 M I d.mono b0 (ak (iG (ae 0) z l.dQ m d.mono l.bd .nil b0) aA)))),?_]
 try dsimp only[cT,cS]
 obtain⟨p,x,v,A,L,ds,s,k,rfl,D,G,O,R,ok,J,q⟩:=h;show#[_,rfl,x,_,_,rfl,D.ins,rfl,p,x,A,L,ds,s,k,rfl,D,G,O,R,λT r aV N y t X Y a V=>#[aV,N,(gL ds s).map qU,rfl,aQ.of a,FF V ok,λb a=>?_,by rw[bP];exact J,λn g=>q n r (y.trans (gH.refl g)) (t.same g)]];obtain⟨c,o,rfl⟩:=cm.mp a;exact(ok c o).ok
noncomputable def ID:D7->Str
 |.e8=>Fl
 |.at_ h t=>Ń h t
 |.on (some r) t=>ń r t
 |.on none _=>Fl
 |.ks t=>ł t
inductive u_:D7->Prop
 |e8:u_ .e8
 |at_{h:Str}{t:Int}(_:h.length<=8)(_:qL t):u_ (.at_ h t)
 |on{r t:Int}(_:qL r)(_:qL t):u_ (.on (some r) t)
 |ks{t:Int}(_:qL t):u_ (.ks t)
theorem w6{t u:TE}(b:bA X e t)(c:bA X e u):bA X e (λU H Q=>t U H Q\/u U H Q):=λa s U H Q I h=>h.elim (b a s U H Q I) (c a s U H Q I)
noncomputable abbrev Po:Stmt:=top 114
theorem aln:cI h1 h1 (b5 Po):={}
inductive OD(ay C aw aq c1:Addr)(vs:aO)(H:af)(Q:a4)(E:bY):Prop where
 |mk(bD:af)(x v:Addr)(A:ct)(hs:bt)(ds:cC)(s:c8)(n:Nat)(_:vs=[.ref x,.ref v])(_:ej ay C aw aq bD H x A hs ds s)(_:H v=some (.lst [.int (n:Int)]))(_:s.aY.length=s.bB.length)(_:∀ss∈s.aY,ss.length<=100)(_:n<s.bB.length->u_ (spotOf (s.aY.getD n []) (j2 (e_ s.bB) n) s.pr))
   (hu:n<s.bB.length->∀H',aB H H'->Q (.str (ID (spotOf (s.aY.getD n []) (j2 (e_ s.bB) n) s.pr))) H') (jR:¬n<s.bB.length->∀o H',aB H H'->E (.ref c1) o H')
seal hg bA h2 h8
theorem akw{f:Addr}{S_:xT}(F:cj K "day_spot" "day_spot" Po f fd)(o:dM K i)(k:cH K i "spot" "Day.spot" D_ d4 f1 c2)(r:aD P w K mg base (iz P w) 4 f1 c2 d4 (zY i C G B I S_))(wt:dM K S_.e8)(sG:dM K S_.at_)(sS:dM K S_.on)(sT:dM K S_.ks)(T:cH K S_.e8 "line" "NotYet.line" Gs cG jk Y)(Tr:aD P w K mg base a3 1 jk Y cG Pa)(O:cH K S_.at_ "line" "AtHouse.line" Gr cG g1 Z)(Th:aD P w K mg base a3 1 g1 Z cG (Pb S_.at_))(U:cH K S_.on "line" "OnRoad.line" Gu cG g2 Qk)(Ts:aD P w K mg base a3 1 g2 Qk cG (Pf S_.on))(X:cH K S_.ks "line" "AtHome.line" Gq cG g3 Ql)(Tt:aD P w K mg base a3 1 g3 Ql cG (Pg S_.ks)):aD P w K mg base (iz P w) 5 f fd h1 (OD i C G B I):=by
 refine y3 F aln (λ_ i9 _ s0 H vs Q E d h=>?_);show#[_,(a7 (cd (w6 (w6 (w6 (iG (fy (ae 0) o k.dQ r d.mono k.bd .nil nr (ak (b8 eO (ae 1) aZ) aA)) wt T.dQ Tr d.mono T.bd .nil b0) (iG (fy (ae 0) o k.dQ r d.mono k.bd .nil nr (ak (b8 eO (ae 1) aZ) aA)) sG O.dQ Th d.mono O.bd .nil b0)) (iG (fy (ae 0) o k.dQ r d.mono k.bd .nil nr (ak (b8 eO (ae 1) aZ) aA)) sS U.dQ Ts d.mono U.bd .nil b0)) (iG (fy (ae 0) o k.dQ r d.mono k.bd .nil nr (ak (b8 eO (ae 1) aZ) aA)) sT X.dQ Tt d.mono X.bd .nil b0)))),?_]
 try dsimp only[cT,cS]
 obtain⟨t,x,v,A,J,ds,s,n,rfl,D,bb,M,L,ok,q,fq⟩:=h;have N:=aQ.of (K:=K) bb;by_cases p:n<s.bB.length
 .have ok:=ok p;have q:=q p;have l:∀(R:a4),(∀g H',aB H H'->Hn S_ H' g (spotOf (s.aY.getD n []) (j2 (e_ s.bB) n) s.pr)->R g H')->C7 i (bc "spot") (zY i C G B I S_) [] E (xl 0) (pb (Cz (OV K) (xl 1) (tk (V.int 0))) xi) (ao.start [bc "day",bc "values"] [V.ref x,V.ref v]) H R:=λR dn=>by show#[_,rfl,x,_,_,rfl,D.ins,rfl,_,rfl,v,_,_,_,rfl,rfl,N,rfl,t,x,A,J,ds,s,(n:Int),rfl,D,M,L,λm e _ g H' a c=>dn g H' a ?_,λno=>bG #[by omega,by omega] no];rw[show n=m by omega];exact c
  generalize spotOf (s.aY.getD n []) (j2 (e_ s.bB) n) s.pr=sp at ok q l;cases ok with
  |e8=>exact .inl (.inl (.inl (l _ λg H' a c=>by
    obtain⟨y,bh,rfl,b⟩:=c;show#[y,bh,_,rfl,b,rfl,y,rfl,q H' a])))
  |at_ u j=>exact .inl (.inl (.inr (l _ λg H' a c=>by
    obtain⟨y,bh,rfl,b⟩:=c;show#[y,bh,_,rfl,b,rfl,y,bh,_,_,rfl,b,u,j,q H' a])))
  |on u j=>exact .inl (.inr (l _ λg H' a c=>by
    obtain⟨y,bh,rfl,b⟩:=c;show#[y,bh,_,rfl,b,rfl,y,bh,_,_,rfl,b,u,j,q H' a]))
  |ks z=>exact .inr (l _ λg H' a c=>by
    obtain⟨y,bh,rfl,b⟩:=c;show#[y,bh,_,rfl,b,rfl,y,bh,_,rfl,b,z,q H' a])
 exact .inr #[_,rfl,x,_,_,rfl,D.ins,rfl,_,rfl,v,_,_,_,rfl,rfl,N,rfl,t,x,A,J,ds,s,(n:Int),rfl,D,M,L,λm e dG=>bG (by omega) p,λ_ ag H' aI a hd=>fq p _ H' a]
unseal hg bA h2 h8
noncomputable def iv(L:bL)(H:af):af:=λb=>if b∈L then H b else none
theorem Mm{L:bL}{H:af}{b:Addr}(m:b∈L)(e:H b=some o):iv L H b=some o:=by unfold iv;rw[bS m];exact e
theorem GZ{L:bL}{H:af}{b:Addr}(e:iv L H b=some o):b∈L/\H b=some o:=by
 unfold iv at e;split at e
 .show#[‹_›,e]
 cases e
noncomputable def oF(n a b:Addr)(rs:bL):List Addr:=n::a::b::rs
theorem hL.iv(N:hL e H n a' b' xs i):hL e (iv (oF n a' b' rs) H) n a' b' xs i:=
 let⟨b,a⟩:=N.ins
 #[#[b,Mm (.head _) a],Mm (.tail _ (.head _)) N.jL,Mm (.tail _ (.tail _ (.head _))) N.ky]
theorem Wl{L:bL}:∀{rs:bL}{ds:List aO},eE H rs ds->(∀r∈rs,r∈L)->eE (iv L H) rs ds
 |_,_,.nil,_=>.nil
 |_,_,.cons h t,m=>.cons (Mm (m _ (.head _)) h) (Wl t λr a=>m r (.tail _ a))
theorem gs.iv(R:gs H hs rs ds):gs (iv (oF n a b rs) H) hs rs ds:=#[Wl R.gz λ_ h=>.tail _ (.tail _ (.tail _ h)),R.ok]
theorem ej.iv{A:ct}{s:c8}(D:ej q C j i u H x A hs ds s):ej q C j i (iv (oF A.n A.a' A.b' A.rs) u) H x A hs ds s:=
 {D with
  cL:=λb o e=>D.cL b o (GZ e).2
  el:=D.el.iv
  fJ:=D.fJ.iv
  fr:=λb a=>by
   unfold dR.iv;split
   .exact D.fr b a
   rfl}
noncomputable abbrev Pp:Stmt:=top 102
theorem alo:cI m6 m6 (b5 Pp):={}
inductive OE(ay C aL aw aq:Addr)(vs:aO)(H:af)(Q:a4)(E:bY):Prop where
 |mk(x v:Addr)(A:fU)(s:h0)(m:Nat)(_:vs=[.ref x,.ref v])(_:g8 aL aw aq H x A s)(_:H v=some (.lst [.int (m:Int)]))(_:oM s)
   (dD:∀H' bh(B:ct)kvs,H bh=none->(∀b∈B.b9 bh,H b=none)->(∀b o,b≠x->H b=some o->H' b=some o)->g8 aL aw aq H' x {A with d:=.ref bh} s->ej ay C aw aq (iv (oF A.n A.a' A.b' A.rs) H) H' bh B s.hs s.ds #[(m:Int),[],[],[],kvs,[]]->ru s.hs s.ds kvs->Q (.str "ok") H')
theorem akx{f:Addr}(F:cj K "take_day" "take_day" Pp f fd)(y:va K u)(kk:dM K u)(wX:mg "Day"=some (.ref j))(Nm:lq K j kR)(rh:jc K j "Day.__init__" Ed vG kR ur)(UB:aD P w K mg base a3 5 kR ur vG (IA j C Y J)):
  aD P w K mg base a3 7 f fd m6 (OE j C u Y J):=by
 refine F.ok alo (λ_ i9 _ s0 H vs Q E G h=>?_);show#[_,(a6 (h5 (ae 0) (o4 Nm UB G.mono (by rfl) wX rh.bd .nil b0 (ak (d5 (ae 0)) (ak (b8 eO (ae 1) aZ) aA))) rfl)
  (a7 (cd cn))),?_]
 try dsimp only[cT,cS]
 obtain⟨x,v,A,s,m,rfl,D,bb,gI,q⟩:=h;have f9:A.rs.length<=40:=by rw[D.fJ.len];exact gI.c3
 show#[_,rfl,x,u,A.ag,_,_,rfl,D.ins,y.cl,y.nn,rfl,_,rfl,v,_,_,_,rfl,rfl,aQ.of bb,rfl,λbh k e8 aI Ũ=>?_];have l:aB H (upd (upd H k (.own bh)) bh (.ins j k [])):=gJ e8 (bF aI);have hd:upd (upd H k (.own bh)) bh (.ins j k []) bh=some (.ins j k []):=aK;generalize upd (upd H k (.own bh)) bh (.ins j k [])=H1 at l hd⊢;show#[bh,k,A.n,A.a',A.b',s.hs,A.rs,s.ds,(m:Int),rfl,hd,D.d3.el.same l,gI.g,D.fJ.same l,f9,λg B p cL f_ hK gW ST T=>#[rfl,?_]];have c:aB H g:=λb o e=>cL b o (b1 e e8) (l _ _ e);show#[_,rfl,x,u,A.ag,_,rfl,c _ _ D.ins,y.cl,y.aI,(by show 4<1000;decide),?_];have L:∀b o,b≠x->g b=some o->upd g x (.ins u A.ag (qn A.n A.l A.y (.ref bh))) b=some o:=λb o r e=>by rw[aJ r];exact e
 have st:vc g (upd g x (.ins u A.ag (qn A.n A.l A.y (.ref bh)))):=λb o U e=>L b o (λz=>U.1 _ _ _ _ _ _ (hI (e.symm.trans ((fa g z).trans (c _ _ D.ins))))) e;obtain⟨I,b6⟩:=D.d3.ins;have zB:x≠A.t:=ao.eg D.ins D.d3.told (by intro z;cases z);obtain⟨cy,t⟩:=f_.el.ins;obtain⟨c9,X⟩:=D.d3.el.ins;have yr:H1 B.n=some (.ins J cy (Ae B.a' B.b')):=by
  unfold mask at t;split at t
  .cases t
  exact t
 rw[hK]at yr;have n:=yr.symm.trans (l _ _ X);injection n with n;injection n with _ _ n;unfold Ae at n;injection n with c6 R;injection R with R;have aR:B.a'=A.a':=V.ref.inj (N6 c6).2;have dE:B.b'=A.b':=V.ref.inj (N6 R).2;have di:∀b∈B.b9 bh,b≠x:=λb a z=>by
  rcases T b a with e|e
  .exact b1 D.ins e8 (z.symm.trans e)
  rw[z,l _ _ D.ins]at e;cases e
 have N:∀b∈oF A.n A.a' A.b' A.rs,∃o,H b=some o/\Tame o:=λb a=>by
  rcases dr.mp a with rfl|a
  .show#[_,X,L7]
  rcases dr.mp a with rfl|a
  .show#[_,D.d3.el.jL,rv]
  rcases dr.mp a with rfl|a
  .show#[_,D.d3.el.ky,rv]
  obtain⟨i,hi⟩:=t2 a;obtain⟨d,_,_,G⟩:=D.fJ.get hi;show#[_,G,VH]
 have O:aB (iv (oF A.n A.a' A.b' A.rs) H) (upd g x (.ins u A.ag (qn A.n A.l A.y (.ref bh)))):=λb o e=>by obtain⟨kv,nF⟩:=GZ e;obtain⟨cY,Z,U⟩:=N b kv;rw[Z]at nF;cases nF;exact st b _ U (c _ _ Z)
 refine q _ bh B p e8 (λb a=>(T b a).elim (λe=>by rw[e];exact e8) λe=>eU l e) (λb o r e=>L b o r (c _ _ e)) #[aK,#[#[I,st _ _ U3 (c _ _ b6)],(D.d3.el.same c).lg st,L _ _ zB.symm (c _ _ D.d3.told)],(D.fJ.same c).lg st,(D.lt.same c).lg st] ?_ ST;have fr:∀b∈B.b9 bh,H b=none:=λb a=>(T b a).elim (λe=>by rw[e];exact e8) λe=>eU l e;have hx:ej j C Y J (iv (oF A.n A.a' A.b' A.rs) H) g bh B s.hs s.ds #[(m:Int),[],[],[],p,[]]:=
  {f_ with
   cL:=λb o e=>c _ _ (GZ e).2
   el:=by rw[hK,aR,dE,gW];exact D.d3.el.iv
   fJ:=by rw[gW];exact D.fJ.iv
   fr:=λb a=>by
    unfold iv;split
    .exact fr b a
    rfl}
 exact hx.frame (M:=[x]) O (λb o r e=>L b o (λz=>r (gp.mpr z)) e) (λb a z=>di b a (gp.mp z)) λb a v z=>by rw[gp.mp a,c _ _ D.ins]at z;cases z
inductive ei where
 |post|pass|turn|jq|lR|lO|log
deriving DecidableEq
end
noncomputable def ei.w:ei->List Nat
 |.post=>[112,111,115,116]
 |.pass=>[112,97,115,115]
 |.turn=>[116,117,114,110]
 |.jq=>[115,112,111,116]
 |.lR=>[115,104,117,116]
 |.lO=>[114,101,111,112,101,110]
 |.log=>[108,111,103]
noncomputable def ei.row(h g:b7)(n:Nat):ei->List b7
 |.post=>[ei.post.w,h,g]
 |.jq=>[ei.jq.w,df n]
 |.lR=>[ei.lR.w,df n]
 |.lO=>[ei.lO.w,df n]
 |k=>[k.w]
noncomputable def ei.num:ei->Bool
 |.jq=>true
 |.lR=>true
 |.lO=>true
 |_=>false
theorem ix{x y:Str}(k m:Nat)(a:x.length<=k)(b:y.length<=m)(h:k+m<=1000):x.length+y.length<=sizeLine:=dX (Nat.add_le_add a b) (dX h (by decide))
theorem k4{x y:Str}{k m n:Nat}(a:x.length<=k)(b:y.length<=m)(h:k+m=n):(x++y).length<=n:=by have:(x++y).length=x.length+y.length:=za x y;omega
theorem G0{k:ei}(h:k≠.post):S k.w≠bc "post":=by
 cases k with
 |post=>exact bG rfl h
 |_=>decide+kernel
theorem Zz(k:ei):oq (.str (S k.w)) [.str (bc "spot"),.str (bc "shut"),.str (bc "reopen")]=k.num:=by cases k<;>decide+kernel
theorem ahe(a b:b7):bc "post "++S a++bc " "++S b=S (d1 [32] [ei.post.w,a,b]):=by
 have d:bc "post "=S (ei.post.w++[32]):=by decide+kernel
 have c:bc " "=S [32]:=by decide+kernel
 rw[d,c];simp only[mM,d1,oN]
theorem aiF{k:ei}(h:k.num=true){n:Nat}:S k.w++bc " "++S (df n)=S (d1 [32] (k.row a b n)):=by
 have c:bc " "=S [32]:=by decide+kernel
 rw[c];cases k with
 |jq=>simp only[mM,d1,ei.row]
 |lR=>simp only[mM,d1,ei.row]
 |lO=>simp only[mM,d1,ei.row]
 |_=>cases h
theorem ahf{k:ei}(b:k≠.post)(a:¬k.num=true){n:Nat}:S (d1 [32] (k.row h g n))=S k.w:=by
 cases k with
 |post=>exact bG rfl b
 |jq=>exact bG rfl a
 |lR=>exact bG rfl a
 |lO=>exact bG rfl a
 |_=>rfl
section
variable{P:cx}{w:bf}{K:aN}{mg:cb}{base:Heap}
noncomputable abbrev Jk:Stmt:=top 130
noncomputable abbrev Ei:List Str:=["_law_what","_law_house","_law_goal","_law_number"]
theorem alp:cI Ei Ei (b5 Jk):={}
inductive ZI(vs:aO)(H:af)(Q:a4)(E:bY):Prop where
 |mk(k:ei)(h g:b7)(n:Nat)(_:vs=[.str (S k.w),.str (S h),.str (S g),.int (n:Int)])(_:h.length<=20)(_:g.length<=20)(_:n<10 ^ 10)(_:∀H',aB H H'->Q (.str (S (d1 [32] (k.row h g n)))) H')
seal hg bA h2 h8
theorem aky{f:Addr}(F:cj K "_law_text" "_law_text" Jk f fd)(B:ft mg):aD P w K mg base a3 1 f fd Ei ZI:=by
 refine F.ok alp (λt A d s H vs Q E e h=>?_);show#[_,(a6 (d8 (eN kV (ae 0) cn (ek _)) (a7 (cd (bO fX (bO fX (bO fX cn (ae 1)) cn) (ae 2)))) ed)
  (a6 (d8 (eN UQ (ae 0) (rE (ak cn (ak cn (ak cn aA)))) (by rfl)) (a7 (cd (bO fX (bO fX (ae 0) cn) (hC kM B.str j1 (ak (ae 3) aA))))) ed)
  (a7 (cd (ae 0))))),?_]
 try dsimp only[cT,cS]
 obtain⟨k,L,y,n,rfl,b,r,o,q⟩:=h;have dl:=lF o;by_cases c:k=.post
 .subst c;show#[_,rfl,rfl,_,rfl,eQ (cE (fa V.str (by decide+kernel))) #[_,rfl,_,_,rfl,rfl,?_,_,_,rfl,rfl,?_,_,rfl,_,_,rfl,rfl,?_,?_]]
  .exact ix 5 20 (by decide+kernel) (by rw[d6];exact b) (by decide)
  .exact ix 25 1 (k4 (k:=5) (m:=20) (by decide+kernel) (by rw[d6];exact b) rfl) (by decide+kernel) (by decide)
  .exact ix 26 20 (k4 (k:=25) (m:=1) (k4 (k:=5) (m:=20) (by decide+kernel) (by rw[d6];exact b) rfl) (by decide+kernel) rfl) (by rw[d6];exact r) (by decide)
  rw[ahe];exact q H (aB.refl _)
 show#[_,rfl,rfl,_,rfl,dA (dt λz=>bG (V.str.inj z) (G0 c)) ?_];show#[_,rfl,(by show 3<=sizeLine;decide),λl N=>#[l,_,rfl,.inr (cV.of aK),rfl,rfl,_,rfl,?_]];have p:aB H (upd H l (.tup [.str (bc "spot"),.str (bc "shut"),.str (bc "reopen")])):=bF N;by_cases a:k.num=true
 .refine eQ (by rw[Zz,a];rfl) #[_,rfl,_,_,rfl,rfl,?_,_,rfl,(n:Int),rfl,qb o,_,_,rfl,rfl,?_,?_]
  .exact ix 6 1 (by rw[d6];cases k<;>decide) (by decide+kernel) (by decide)
  .rw[kn];exact ix 7 10 (k4 (k:=6) (m:=1) (by rw[d6];cases k<;>decide) (by decide+kernel) rfl) (by rw[d6];exact dl) (by decide)
  rw[kn,aiF a];exact q _ p
 refine dA (by rw[Zz,r4.mpr a];rfl) #[_,rfl,?_];have:=q _ p;rw[<-ahf (h:=L) (g:=y) (n:=n) c a];exact this
unseal hg bA h2 h8
structure An(hs:bt)(s:Step):Prop where
 l:0<=s.left
 d:s.left<=s.br
 m:s.br<10 ^ 11
 h:s.iq∈hs.map S
 n:s.AP=none->s.br=s.left
 r:∀r,s.AP=some r->0<=r/\r<10 ^ 9
theorem An.jq(G:Good hs){b:List Step}(h:∀s∈b,An hs s){t:Int}:u_ (spotOf b y t):=by
 unfold spotOf;cases e:(b.filter λs=>decide (s.left<=t)).getLast? with
 |none=>exact .e8
 |some s=>
  obtain⟨f,c⟩:=g4.mp (adA e);have c:=nK c;have k:=h s f;have g:=k.l;have l:=k.d;have m:=k.m;have a:qL s.br:=#[by omega,by omega]
  show u_ (zL s y t);unfold zL;split
  .cases i:s.AP with
   |none=>
    have:=k.n i;omega
   |some r=>
    have:=k.r r i;exact .on #[by omega,by omega] a
  split
  .exact .ks a
  refine .at_ ?_ a;obtain⟨z,d,e⟩:=cm.mp k.h;rw[<-e,d6];exact(G.nm z d).2.1
structure ir(hs:bt)(ds:cC)(k:Nat)(s:c8):Prop where
 g:Good hs
 r:∀d∈ds,d.Ok hs.length
 o:iM hs ds k s
 p:0<=s.pr/\s.pr<=1000000000+k
 st:∀ss∈s.aY,∀x∈ss,An hs x
 hh:∀b∈s.mT,xw b
 sn:s.mT.length<=16*k
 mC:ds.length<=16
 cp:s.iR.length<=100+k
theorem aaB{ds:cC}{s:c8}{b:kG×List Nat}(h:b∈gL ds s):∃r,r<ds.length/\b=mO ds (vq s.aY) (mR s.kvs (e_ s.bB) s.aY) s.pr ((mF s).filter (mJ s)) r/\f7 (vq s.aY) (mR s.kvs (e_ s.bB) s.aY) s.pr ((mF s).filter (mJ s)) r≠[]:=by unfold gL rO at h;obtain⟨r,c,e⟩:=cm.mp (g4.mp h).1;unfold o8 at c;obtain⟨d,a⟩:=g4.mp c;show#[r,lp.mp d,e.symm,λz=>?_];rw[z]at a;cases a
theorem VF(ds:cC)(s:c8):(gL ds s).length<=ds.length:=by unfold gL rO o8;refine dX (m4 _ _) ?_;rw[bP];refine dX (m4 _ _) ?_;rw[oO];exact cB _
theorem ZJ{a:bt}{ds:cC}(R:∀d∈ds,d.Ok a.length){r:Nat}(h:r<ds.length):(ds.getD r td).Ok a.length:=R _ (by rw[ea,dw h];exact m3 h)
theorem ir.Ju{k:Nat}{s:c8}(D:ir hs ds k s)(m:k<=90){b:kG×List Nat}(h:b∈gL ds s):xw b:=by
 obtain⟨r,g,rfl,l⟩:=aaB h;have ok:=ZJ D.r g;have p:=D.p;have t:=D.mC;have d:((mF s).filter (mJ s)).Nodup:=(NN.filter _).filter _;have c:∀n∈(mO ds (vq s.aY) (mR s.kvs (e_ s.bB) s.aY) s.pr ((mF s).filter (mJ s)) r).2,n∈eB s.bB.length:=λn a=>by have f:=(Mh a).1;exact(g4.mp (g4.mp f).1).1
 have o:=D.o.jO;show#[#[p.1,by show s.pr<10 ^ 10;omega],by show r<10 ^ 10;omega,λn a=>?_,ajI ok.m.1 l,?_]
 .have:=lp.mp (c n a);omega
 have:=FV (Zy d r) c;rw[oO]at this;omega
end
theorem ir.pass{k:Nat}{s:c8}(D:ir hs ds k s)(g:k<=90):ir hs ds (k+1) (u9 hs ds s):=by
 have p:=D.p;have A:=D.sn;have w:=D.mC;have o:=VF ds s;show#[D.g,D.r,D.o.pass D.r,#[by show 0<=s.pr+1;omega,by show s.pr+1<=1000000000+((k+1:Nat):Int);omega],λK m x h=>?_,λb a=>?_,?_,D.mC,by have:=D.cp;show s.iR.length<=_;omega]
 .obtain⟨i,d⟩:=X9.mp m;rw[show(u9 hs ds s).aY=qd hs ds (gL ds s) s.aY from rfl,L4]at d;obtain⟨n,l,rfl⟩:=gS.mp d;rcases hy.mp h with z|z
  .exact D.st n (fC l) x z
  obtain⟨b,a,rfl⟩:=cm.mp z;obtain⟨r,c,e,_⟩:=aaB (g4.mp a).1;have f:b.1=(s.pr,r):=by rw[e];rfl
  rw[f];have ok:=ZJ D.r c;have t:=ok.t;have y:zc ds r=(ds.getD r td).t:=rfl;show#[p.1,?_,?_,WL D.r c,(λz=>nomatch z),λq z=>?_]
  .show s.pr<=s.pr+zc ds r;omega
  .show s.pr+zc ds r<10 ^ 11;omega
  cases z;show#[by omega,by omega]
 .rcases hy.mp a with z|z
  .exact D.hh b z
  exact D.Ju g z
 show(s.mT++gL ds s).length<=_;rw[eM];omega
theorem ahg{b:bt}{s:c8}{h g:Str}(a:r1 (bI b) ((s.bB++[(h,s.pr,g)]).map nE)):h∈b.map S/\g∈b.map S/\s.bB.length+1<=40:=by obtain⟨f,l,_⟩:=a;have:=Kw.mpr f (nE (h,s.pr,g)) (cm.mpr #[_,pN _ (.head _),rfl]);obtain⟨c,d,_⟩:=aiC.mp this;rw[bP,eM]at l;show#[c,d,l]
theorem ir.post{k:Nat}{s:c8}(D:ir hs ds k s)(n:k<=90){g:Str}(a:r1 (bI hs) ((s.bB++[(h,s.pr,g)]).map nE)):ir hs ds k (Dh s h g):=by
 obtain⟨c,d,l⟩:=ahg a;have p:=D.p;show#[D.g,D.r,D.o.post c d l,D.p,λm f x b=>?_,D.hh,D.sn,D.mC,D.cp];rcases hy.mp f with z|z
 .exact D.st m z x b
 rw[gp.mp z]at b;rw[gp.mp b];show#[p.1,vy _,by show s.pr<10 ^ 11;omega,c,λ_=>rfl,λr z=>nomatch z]
theorem iM.iR{k:Nat}{s:c8}(O:iM hs ds k s)(l:b7):iM hs ds k {s with iR:=l}:=#[O.len,O.jO,O.ui,O.lets,O.tab,O.ne,O.jL,O.c3,O.zg]
theorem iM.up{k:Nat}{s:c8}(O:iM hs ds k s):iM hs ds (k+1) s:=#[O.len,O.jO,O.ui,O.lets,O.tab,O.ne,O.jL,λa h=>dX (O.c3 a h) (vL _),dX O.zg (by omega)]
theorem ir.up{k:Nat}{s:c8}(D:ir hs ds k s):ir hs ds (k+1) s:=#[D.g,D.r,D.o.up,#[D.p.1,by have:=D.p.2;omega],D.st,D.hh,by have:=D.sn;omega,D.mC,by have:=D.cp;omega]
theorem ir.iR{k:Nat}{s:c8}(D:ir hs ds k s){l:b7}(h:l.length<=s.iR.length+1):ir hs ds (k+1) {s with iR:=l}:=#[D.g,D.r,(D.o.iR l).up,#[D.p.1,by have:=D.p.2;show s.pr<=_;omega],D.st,D.hh,by have:=D.sn;show s.mT.length<=_;omega,D.mC,by have:=D.cp;show l.length<=_;omega]
inductive iA(hs:bt)(ds:cC)(s:c8)(h g:b7)(n:Nat):ei->List ao.V->c8->Prop
 |Cc(_:r1 (bI hs) ((s.bB++[(S h,s.pr,S g)]).map nE)):iA hs ds s h g n .post [.aV true,.str (S (df s.bB.length))] (Dh s (S h) (S g))
 |FW(_:¬r1 (bI hs) ((s.bB++[(S h,s.pr,S g)]).map nE)):iA hs ds s h g n .post [.str "letter"] s
 |pass:iA hs ds s h g n .pass [.aV true,.str (S (zZ ((gL ds s).map qU)))] (u9 hs ds s)
 |turn:iA hs ds s h g n .turn [.aV true,.str (bc (toString s.pr))] s
 |GC(_:n<s.bB.length):iA hs ds s h g n .jq [.aV true,.str (ID (spotOf (s.aY.getD n []) (j2 (e_ s.bB) n) s.pr))] s
 |GB(_:¬n<s.bB.length):iA hs ds s h g n .jq [.str "letter"] s
 |Cp(_:n<ds.length):iA hs ds s h g n .lR [.aV true,.str "ok"] (w_ s n)
 |Gz(_:¬n<ds.length):iA hs ds s h g n .lR [.str "road"] s
 |Cf(_:n<ds.length):iA hs ds s h g n .lO [.aV true,.str "ok"] (s6 s n)
 |Gj(_:¬n<ds.length):iA hs ds s h g n .lO [.str "road"] s
 |log:iA hs ds s h g n .log [.aV true,.str (S (zZ (s.mT.map qU)))] s
theorem iA.pre{s b:c8}{n k:Nat}{d:ei}{c:aO}(r:iA hs ds s h g n d c b)(D:ir hs ds k s)(a:k<=90):ir hs ds (k+1) b:=by
 cases r with
 |Cc z=>exact(D.post a z).up
 |pass=>exact D.pass a
 |Cp z=>
  refine D.iR ?_;unfold De;split
  .omega
  rw[eM];exact cB _
 |Cf z=>exact D.iR (dX (m4 _ _) (vL _))
 |_=>exact D.up
noncomputable def mU(s:c8)(kvs:gm):c8:={s with kvs:=kvs}
theorem acG{s:c8}{b:gm}(a:∀h g,dk s.kvs (f6 h g)=dk b (f6 h g)):gL ds (mU s b)=gL ds s:=by
 have e:∀h g,u6 b h g=u6 s.kvs h g:=λh g=>by unfold u6;rw[a]
 have d:mR b (e_ s.bB) s.aY=mR s.kvs (e_ s.bB) s.aY:=by funext n;unfold mR;rw[e]
 have c:mJ (mU s b)=mJ s:=by funext n;unfold mJ;exact fa Option.isSome (e _ _)
 unfold gL;rw[c,show mR (mU s b).kvs (e_ (mU s b).bB) (mU s b).aY=mR s.kvs (e_ s.bB) s.aY from d];rfl
theorem iA.kvs{s a:c8}{n:Nat}{d:ei}{b:aO}(r:iA hs ds s h g n d b a):a.kvs=s.kvs:=by cases r<;>rfl
theorem iA.alike{s f:c8}{n:Nat}{d:ei}{c:aO}(r:iA hs ds s h g n d c f){b:gm}(a:∀h g,dk s.kvs (f6 h g)=dk b (f6 h g)):iA hs ds (mU s b) h g n d c (mU f b):=by
 cases r with
 |Cc z=>exact .Cc z
 |FW z=>exact .FW z
 |pass=>
  have e:=acG (ds:=ds) a;have:=iA.pass (hs:=hs) (ds:=ds) (s:=mU s b) (h:=h) (g:=g) (n:=n);rw[e]at this;have k:u9 hs ds (mU s b)=mU (u9 hs ds s) b:=by unfold u9;rw[e];rfl
  rw[k]at this;exact this
 |turn=>exact .turn
 |GC z=>exact .GC z
 |GB z=>exact .GB z
 |Cp z=>exact .Cp z
 |Gz z=>exact .Gz z
 |Cf z=>exact .Cf z
 |Gj z=>exact .Gj z
 |log=>exact .log
theorem ir.mU{ds:cC}{k:Nat}{s:c8}(D:ir hs ds k s){a:gm}(t:xV a ds.length):ir hs ds k (mU s a):=
 #[D.g,D.r,#[D.o.len,D.o.jO,D.o.ui,D.o.lets,t,D.o.ne,D.o.jL,D.o.c3,D.o.zg],D.p,D.st,D.hh,D.sn,D.mC,D.cp]
structure kK(p:b7):Prop where
 a:32∉p
 b:p≠[]
 c:p.length<=20
 d:∀c∈p,c<256
theorem mP(h:m7 n):kK n:=#[λz=>by have:=h.2.2 _ z;omega,λz=>by rw[z]at h;exact bG h.1 (by decide),by have:=h.2.1;omega,λc a=>by have:=h.2.2 c a;omega]
theorem Dr{m:Nat}(h:m<10 ^ 10):kK (df m):=#[λz=>by have:=CS z;omega,Ig m,dX (lF h) (by decide),λc a=>by have:=CS a;omega]
theorem W6{c:Nat}{r:b7}(h:c≠99):Ox (S (c::r)) (bc "check ")=false:=by
 rw[r4];intro z;unfold Ox atW at z;obtain⟨_,z⟩:=(i' _ _).mp z;have z:=eq_of_beq z;have e:=fa (λa:Array Nat=>a[0]?) z;have b:(bc "check ").cps[0]?=some 99:=by decide+kernel
 have d:(bc "check ").length=6:=by decide+kernel
 dsimp only at e;rw[b,d]at e;have f:((S (c::r)).cps.extract 0 (0+6))[0]?=some c:=by rw[Array.getElem?_extract];simp[S]
 rw[f]at e;exact h (hI e)
theorem tv{c:Nat}{k:b7}{r:bt}(b:c≠99)(d:kK (c::k))(l:r.length<=5)(h:∀p∈r,kK p):tN ((c::k)::r):=by
 show#[nofun,by rw[gC];omega,λp a=>?_,?_]
 .have w:kK p:=by
   rcases dr.mp a with rfl|a
   .exact d
   exact h p a
  show#[w.a,w.b,w.c,w.d]
 cases r with
 |nil=>exact W6 b
 |cons q r=>exact W6 b
theorem qp(h:kK p):c7 H (.str (S p)) (.str (S p)):=.str _ (by rw[d6];have:=h.c;omega) (by
 simp only[lr,S];rw[VZ];intro x a;have:=h.d x (by simpa using a);exact cE (by omega))
section
variable{P:cx}{w:bf}{K:aN}{mg:cb}{base:Heap}
noncomputable abbrev Jl:Stmt:=top 128
noncomputable abbrev tF:List Str:=["_law_day","_law_what","_law_house","_law_goal","_law_number"]
theorem alq:cI tF tF (b5 Jl):={}
inductive IM(c1 dW:Addr):Addr->Nat->Str->Prop
 |l:IM c1 dW c1 3 "letter"
 |r:IM c1 dW dW 2 "road"
inductive ZK(ay C aw aq c1 dW:Addr)(vs:aO)(H:af)(Q:a4)(E:bY):Prop where
 |mk(bD:af)(x:Addr)(A:ct)(hs:bt)(ds:cC)(s:c8)(k:Nat)(d:ei)(h g:b7)(n:Nat)(_:vs=[.ref x,.str (S d.w),.str (S h),.str (S g),.int (n:Int)])(_:ej ay C aw aq bD H x A hs ds s)(_:ir hs ds k s)(_:k<=60)(_:kK h)(_:kK g)
   (hu:∀y s' c0 H',iA hs ds s h g n d [.aV true,.str y] s'->gH (A.b9 x) (c0.b9 x) H H'->ej ay C aw aq bD H' x c0 hs ds s'->Q (.str y) H') (jR:∀y c cQ o H',iA hs ds s h g n d [.str y] s->IM c1 dW c cQ y->aB H H'->E (.ref c) o H')
theorem ig{k:ei}{y:Str}{b:Bool}(h:decide (S k.w=y)=b):decide (V.str (S k.w)=V.str y)=b:=by rw[<-h];exact decide_eq_decide.mpr #[V.str.inj,fa _]
seal hg bA h2 h8
theorem akz{f:Addr}{S_:xT}(F:cj K "_law_deed" "_law_deed" Jl f fd)(B:ft mg)(L:dM K i)(rg:cH K i "post" "Day.post" Di iU f1 c2)(UA:aD P w K mg base (iz P w) 5 f1 c2 iU (HW i C u j c1))(qZ:cH K i "pass_turn" "Day.pass_turn" Dj cG f2 eW)(Sd:aD P w K mg base a3 6 f2 eW cG (HX K i C u j))(rj:cH K i "now" "Day.now" Ec cG cP jZ)(U6:aD P w K mg base a3 1 cP jZ cG (Iz i C u j))(M:cH K i "spot" "Day.spot" D_ d4 f4 yj)(uM:aD P w K mg base (iz P w) 4 f4 yj d4 (zY i C u j c1 S_))(nk:cH K i "log" "Day.log" Av cG fz Ez)(F8:aD P w K mg base a3 1 fz Ez cG (Dg i C u j))(rf:cH K i "shut" "Day.shut" Df mh Ey EA)(Uz:aD P w K mg base (iz P w) 3 Ey EA mh (xa i C u j dW w_))(q7:cH K i "reopen" "Day.reopen" Ea mh PN PV)(Tz:aD P w K mg base (iz P w) 3 PN PV mh (xa i C u j dW s6))(mz:cu K mg "show_plan" xv pQ f8 PW)(wm:aD P w K mg base a3 2 f8 PW pQ (Dq K))(wt:dM K S_.e8)(sG:dM K S_.at_)(sS:dM K S_.on)(sT:dM K S_.ks)(q2:cH K S_.e8 "line" "NotYet.line" Gs cG jk Qi)(Tr:aD P w K mg base a3 1 jk Qi cG Pa)(q1:cH K S_.at_ "line" "AtHouse.line" Gr cG g1 Qj)(Th:aD P w K mg base a3 1 g1 Qj cG (Pb S_.at_))(q3:cH K S_.on "line" "OnRoad.line" Gu cG g2 Qk)(Ts:aD P w K mg base a3 1 g2 Qk cG (Pf S_.on))(qX:cH K S_.ks "line" "AtHome.line" Gq cG g3 Ql)(Tt:aD P w K mg base a3 1 g3 Ql cG (Pg S_.ks)):aD P w K mg base (iz P w) 7 f fd tF (ZK i C u j c1 dW):=by
 refine y3 F alq (λ_ i9 _ s0 H vs Q E o h=>?_);show#[_,(a6 (d8 (eN kV (ae 1) cn (ek _)) (a7 (cd (hC kM B.str j1 (ak (fy (ae 0) L rg.dQ UA o.mono rg.bd .nil nr (ak (ae 2) (ak (ae 3) aA))) aA)))) ed)
  (a6 (d8 (eN kV (ae 1) cn (ek _)) (a7 (cd (d9 wm mz o.mono b0 (ak (iG (ae 0) L qZ.dQ Sd o.mono qZ.bd .nil b0) aA)))) ed)
  (a6 (d8 (eN kV (ae 1) cn (ek _)) (a7 (cd (hC kM B.str j1 (ak (iG (ae 0) L rj.dQ U6 o.mono rj.bd .nil b0) aA)))) ed)
  (a6 (d8 (eN kV (ae 1) cn (ek _)) (a7 (cd (w6 (w6 (w6 (iG (fy (ae 0) L M.dQ uM o.mono M.bd .nil nr (ak (ae 4) aA)) wt q2.dQ Tr o.mono q2.bd .nil b0) (iG (fy (ae 0) L M.dQ uM o.mono M.bd .nil nr (ak (ae 4) aA)) sG q1.dQ Th o.mono q1.bd .nil b0)) (iG (fy (ae 0) L M.dQ uM o.mono M.bd .nil nr (ak (ae 4) aA)) sS q3.dQ Ts o.mono q3.bd .nil b0)) (iG (fy (ae 0) L M.dQ uM o.mono M.bd .nil nr (ak (ae 4) aA)) sT qX.dQ Tt o.mono qX.bd .nil b0)))) ed)
  (a6 (d8 (eN kV (ae 1) cn (ek _)) (a7 (cd (d9 wm mz o.mono b0 (ak (iG (ae 0) L nk.dQ F8 o.mono nk.bd .nil b0) aA)))) ed)
  (a6 (d8 (eN kV (ae 1) cn (ek _)) (a7 (hj (fy (ae 0) L rf.dQ Uz o.mono rf.bd .nil nr (ak (ae 4) aA)))) (a7 (hj (fy (ae 0) L q7.dQ Tz o.mono q7.bd .nil nr (ak (ae 4) aA)))))
  (a7 (cd cn)))))))),?_]
 try dsimp only[cT,cS]
 obtain⟨G,x,A,I,ds,s,k,d,h,g,n,rfl,D,O,E9,kc,hY,q,fq⟩:=h;have p:=O.p;have la:s.iR.length<=900:=dX O.cp (by omega);cases d with
 |post=>
  show#[_,rfl,rfl,_,rfl,eQ (ig (by decide+kernel)) #[_,rfl,x,_,_,rfl,D.ins,rfl,_,rfl,_,rfl,G,x,A,I,ds,s,S h,S g,rfl,D,O.g,O.o.lets,O.o.jO,O.o.len,λ_=>qp kc,λ_=>qp hY,λyes H' c0 X U=>#[((s.bB.length:Nat):Int),rfl,qb (by have:=O.o.jO;omega),?_],λY ag H' aI a hd=>fq _ _ _ _ H' (.FW Y) .l a]];rw[kn];exact q _ _ c0 H' (.Cc yes) X U
 |pass=>
  show#[_,rfl,rfl,_,rfl,dA (ig (by decide+kernel)) #[_,rfl,rfl,_,rfl,eQ (ig (by decide+kernel)) ?_]];show#[_,rfl,x,_,_,rfl,D.ins,rfl,G,x,A,I,ds,s,k,rfl,D,O.g,O.o,by omega,λH1 c0 aV jW X U nb nm T lM=>#[aV,jW,(gL ds s).map qU,rfl,aQ.of T,FF lM λb T=>O.Ju (by omega) T,λb T=>?_,?_,λai a=>q _ _ c0 ai .pass (X.trans (gH.refl a)) (U.same a)]]
  .obtain⟨c,av,rfl⟩:=cm.mp T;exact(O.Ju (by omega) av).ok
  rw[bP];have:=VF ds s;have:=O.mC;omega
 |turn=>
  show#[_,rfl,rfl,_,rfl,dA (ig (by decide+kernel)) #[_,rfl,rfl,_,rfl,dA (ig (by decide+kernel)) #[_,rfl,rfl,_,rfl,eQ (ig (by decide+kernel)) ?_]]];show#[_,rfl,x,_,_,rfl,D.ins,rfl,G,x,A,I,ds,s,rfl,D,s.pr,rfl,?_,q _ _ A H .turn (gH.refl (aB.refl _)) D];obtain⟨m,em⟩:=xr p.1;rw[em];exact qb (by omega)
 |jq=>
  show#[_,rfl,rfl,_,rfl,dA (ig (by decide+kernel)) #[_,rfl,rfl,_,rfl,dA (ig (by decide+kernel)) #[_,rfl,rfl,_,rfl,dA (ig (by decide+kernel)) #[_,rfl,rfl,_,rfl,eQ (ig (by decide+kernel)) ?_]]]];have c3:∀ss∈s.aY,ss.length<=100:=λss h=>dX (O.o.c3 ss h) (by omega);by_cases Z:n<s.bB.length
  .have ok:u_ (spotOf (s.aY.getD n []) (j2 (e_ s.bB) n) s.pr):=An.jq O.g (O.st _ (fC (y_ (d:=[]) (by rw[O.o.len];exact Z))));have q:=λH' a=>q _ _ A H' (.GC Z) (gH.refl a) (D.same a);have go:∀(R:a4),(∀J H',aB H H'->Hn S_ H' J (spotOf (s.aY.getD n []) (j2 (e_ s.bB) n) s.pr)->R J H')->C7 i (bc "spot") (zY i C u j c1 S_) [] E (xl 0) (pb (xl 4) xi) (ao.start tF [V.ref x,V.str (S ei.jq.w),V.str (S h),V.str (S g),V.int (n:Int)]) H R:=λR dn=>by show#[_,rfl,x,_,_,rfl,D.ins,rfl,_,rfl,G,x,A,I,ds,s,(n:Int),rfl,D,O.o.len,c3,λm e _ J H' a N=>dn J H' a ?_,λY=>bG #[by omega,by omega] Y];rw[show n=m by omega];exact N
   generalize spotOf (s.aY.getD n []) (j2 (e_ s.bB) n) s.pr=sp at ok q go;cases ok with
   |e8=>exact .inl (.inl (.inl (go _ λJ H' a N=>by
     obtain⟨y,bh,rfl,t⟩:=N;show#[y,bh,_,rfl,t,rfl,y,rfl,q H' a])))
   |at_ a9 a5=>exact .inl (.inl (.inr (go _ λJ H' a N=>by
     obtain⟨y,bh,rfl,t⟩:=N;show#[y,bh,_,rfl,t,rfl,y,bh,_,_,rfl,t,a9,a5,q H' a])))
   |on a9 a5=>exact .inl (.inr (go _ λJ H' a N=>by
     obtain⟨y,bh,rfl,t⟩:=N;show#[y,bh,_,rfl,t,rfl,y,bh,_,_,rfl,t,a9,a5,q H' a]))
   |ks z=>exact .inr (go _ λJ H' a N=>by
     obtain⟨y,bh,rfl,t⟩:=N;show#[y,bh,_,rfl,t,rfl,y,bh,_,rfl,t,z,q H' a])
  exact .inr #[_,rfl,x,_,_,rfl,D.ins,rfl,_,rfl,G,x,A,I,ds,s,(n:Int),rfl,D,O.o.len,c3,λm e dG=>bG (by omega) Z,λ_ ag H' aI a hd=>fq _ _ _ _ H' (.GB Z) .l a]
 |log=>
  show#[_,rfl,rfl,_,rfl,dA (ig (by decide+kernel)) #[_,rfl,rfl,_,rfl,dA (ig (by decide+kernel)) #[_,rfl,rfl,_,rfl,dA (ig (by decide+kernel)) #[_,rfl,rfl,_,rfl,dA (ig (by decide+kernel)) #[_,rfl,rfl,_,rfl,eQ (ig (by decide+kernel)) ?_]]]]];show#[_,rfl,x,_,_,rfl,D.ins,rfl,G,x,A,I,ds,s,rfl,D,λl nl=>#[l,A.jW,s.mT.map qU,rfl,aQ.of aK,b2.fT (FF D.sp O.hh) λ_ _ e=>e.same (bF nl),λb T=>?_,?_,λH' a=>q _ _ A H' .log (gH.refl ((bF nl).trans a)) (D.same ((bF nl).trans a))]]
  .obtain⟨c,av,rfl⟩:=cm.mp T;exact(O.hh c av).ok
  rw[bP];have:=O.sn;omega
 |lR=>
  show#[_,rfl,rfl,_,rfl,dA (ig (by decide+kernel)) #[_,rfl,rfl,_,rfl,dA (ig (by decide+kernel)) #[_,rfl,rfl,_,rfl,dA (ig (by decide+kernel)) #[_,rfl,rfl,_,rfl,dA (ig (by decide+kernel)) #[_,rfl,rfl,_,rfl,dA (ig (by decide+kernel)) #[_,rfl,rfl,_,rfl,eQ (ig (by decide+kernel)) ?_]]]]]];show#[_,rfl,x,_,_,rfl,D.ins,rfl,_,rfl,G,x,A,I,ds,s,(n:Int),rfl,D,la,λr e Z H' X U=>q _ _ A H' (.Cp (by omega)) X (by rw[show n=r by omega];exact U),λY H' a=>fq _ _ _ _ H' (.Gz λz=>Y #[by omega,by omega]) .r a]
 |lO=>
  show#[_,rfl,rfl,_,rfl,dA (ig (by decide+kernel)) #[_,rfl,rfl,_,rfl,dA (ig (by decide+kernel)) #[_,rfl,rfl,_,rfl,dA (ig (by decide+kernel)) #[_,rfl,rfl,_,rfl,dA (ig (by decide+kernel)) #[_,rfl,rfl,_,rfl,dA (ig (by decide+kernel)) #[_,rfl,rfl,_,rfl,dA (ig (by decide+kernel)) ?_]]]]]];show#[_,rfl,x,_,_,rfl,D.ins,rfl,_,rfl,G,x,A,I,ds,s,(n:Int),rfl,D,la,λr e Z H' X U=>q _ _ A H' (.Cf (by omega)) X (by rw[show n=r by omega];exact U),λY H' a=>fq _ _ _ _ H' (.Gj λz=>Y #[by omega,by omega]) .r a]
unseal hg bA h2 h8
noncomputable abbrev Jm:Stmt:=top 129
theorem z1:cI ["_law_day","_law_what","_law_house","_law_goal","_law_number","_law_error","_law_found","e"] tF (b5 Jm):={}
inductive ZL(ay C aw aq:Addr)(vs:aO)(H:af)(Q:a4)(E:bY):Prop where
 |mk(bD:af)(x:Addr)(A:ct)(hs:bt)(ds:cC)(s:c8)(k:Nat)(d:ei)(h g:b7)(n:Nat)(_:vs=[.ref x,.str (S d.w),.str (S h),.str (S g),.int (n:Int)])(_:ej ay C aw aq bD H x A hs ds s)(_:ir hs ds k s)(_:k<=60)(_:kK h)(_:kK g)
   (hu:∀br s' c0 H1 l H',iA hs ds s h g n d br s'->gH (A.b9 x) (c0.b9 x) H H1->ej ay C aw aq bD H1 x c0 hs ds s'->H1 l=none->aB H1 H'->H' l=some (.lst br)->Q (.ref l) H')
theorem akA{f:Addr}(F:cj K "_law_due" "_law_due" Jm f fd)(B:ft mg)(nj:mg "RoadError"=some (.ref e))(T:qh K e e=true)(M:m2 K e cs c1 3)(J:m2 K e cs dW 2)(L:cu K mg "_law_deed" Jl tF f1 c2)(b:aD P w K mg base (fg P w) 7 f1 c2 tF (B6 (ZK ay C Z X c1 dW)))(uC:cu K mg "_law_kind" Gp xF f2 eW)(U:aD P w K mg base a3 1 f2 eW xF (O7 K e cs)):aD P w K mg base a3 8 f fd tF (ZL ay C Z X):=by
 refine F.ok z1 (λcdv A t s H vs Q E j h=>?_);show#[_,(a6 (dO 5 z1.aI kT)
  (a6 (dO 6 z1.aI cn)
  (a6 (Y' (i:=7) rfl rfl (WC (XS (i:=6) z1.aI rfl (IH rfl) (ahS b j.mono (by rfl) L.at_ L.fn.eJ L.bd (ak (ae 0) (ak (ae 1) (ak (ae 2) (ak (ae 3) (ak (ae 4) aA)))))))) z1.aI rfl rfl rfl nj T (λV=>(a7 (dO 5 z1.aI (ae 7)))))
  (a6 (d8 (eN zt (ae 5) kT (ek _)) (a7 (cd (g7 (ak iK (ak (ae 6) aA))))) ed)
  (a7 (cd (g7 (ak (d9 U uC j.mono b0 (ak (ae 5) aA)) aA)))))))),?_]
 try dsimp only[cT,cS]
 obtain⟨bD,x,A,hs,ds,s,k,d,h,g,n,rfl,D,O,G,kc,hY,q⟩:=h;show#[_,rfl,_,rfl,_,rfl,_,rfl,_,rfl,bD,x,A,hs,ds,s,k,d,h,g,n,rfl,D,O,G,kc,hY,λy s' c0 N r f5 cg=>?_,λy c m o N r I Y=>?_]
 .show#[_,rfl,rfl,_,rfl,eQ (cE rfl) ?_];show#[_,rfl,(by show 2<=sizeLine;decide),λl a=>q _ _ c0 N l _ r f5 cg a (bF a) aK]
 have p:m2 K e cs c m/\qo[m]?=some y:=by
  cases I with
  |l=>show#[M,rfl]
  |r=>show#[J,rfl]
 show#[c,rfl,p.1.sub,λV wg=>#[_,rfl,?_]];show#[_,rfl,rfl,_,rfl,dA (dt (by intro z;cases z)) #[_,rfl,V,c,m,rfl,aK,p.1,λai fe R s2=>#[(by show 1<=sizeLine;decide),λl a=>?_]]];obtain rfl:fe=y:=hI (R.symm.trans p.2);have u:=Y.trans ((bF wg).trans s2);exact q _ _ A H l _ r (gH.refl (aB.refl _)) D (eU u a) (u.trans (bF a)) aK
structure pF where
 (aX u1 ve bh po hp tp sp cp re lo:Addr)
noncomputable def pF.of(F:pF):ei->Addr
 |.post=>F.po
 |.pass=>F.hp
 |.turn=>F.tp
 |.jq=>F.sp
 |.lR=>F.cp
 |.lO=>F.re
 |.log=>F.lo
inductive nW(ay C aL aw aq eS c1 fh dW:Addr)(D:pF):Addr->fu->Prop
 |aX:nW ay C aL aw aq eS c1 fh dW D D.aX (Z' aL aw aq eS)
 |u1:nW ay C aL aw aq eS c1 fh dW D D.u1 (γ aL aw aq eS)
 |ve:nW ay C aL aw aq eS c1 fh dW D D.ve (δ aL aw aq)
 |bh:nW ay C aL aw aq eS c1 fh dW D D.bh (OE ay C aL aw aq)
 |po:nW ay C aL aw aq eS c1 fh dW D D.po (OA ay C aw aq c1)
 |hp:nW ay C aL aw aq eS c1 fh dW D D.hp (OC ay C aw aq)
 |tp:nW ay C aL aw aq eS c1 fh dW D D.tp (Oz ay C aw aq)
 |sp:nW ay C aL aw aq eS c1 fh dW D D.sp (OD ay C aw aq c1)
 |cp:nW ay C aL aw aq eS c1 fh dW D D.cp (z0 ay C aw aq dW w_)
 |re:nW ay C aL aw aq eS c1 fh dW D D.re (z0 ay C aw aq dW s6)
 |lo:nW ay C aL aw aq eS c1 fh dW D D.lo (OB ay C aw aq)
end
structure Jn(K:aN)(R:jU)(cO cR:Addr)(kw:b7)(dv:List mm)(f:Addr):Prop where
 v8:h6 K cO (S kw) (dv.map R.f)
 ns:e5 K cR (S kw)=some (some (.ref f))
structure amC(K:aN)(R:jU)(cO cR eb:Addr)(kw:b7)(dv:List mm)(f:Addr):Prop where
 v8:h6 K cO (S kw) (dv.map R.f)
 no:e5 K cR (S kw)=some none
 ns:e5 K eb (S kw)=some (some (.ref f))
noncomputable def wY:List Nat:=[104,111,117,115,101]
noncomputable def zM:List Nat:=[114,111,97,100]
noncomputable def Ak:List Nat:=[119,97,121]
noncomputable def Al:List Nat:=[100,97,121]
noncomputable def ei.dv:ei->List mm
 |.post=>[.t,.t]
 |.jq=>[.n]
 |.lR=>[.n]
 |.lO=>[.n]
 |_=>[]
noncomputable def ei.args(h g:b7)(n:Nat):ei->List b7
 |.post=>[h,g]
 |.jq=>[df n]
 |.lR=>[df n]
 |.lO=>[df n]
 |_=>[]
noncomputable def ei.us(h g:b7)(n:Nat):ei->List ao.V
 |.post=>[.str (S h),.str (S g)]
 |.jq=>[.int (n:Int)]
 |.lR=>[.int (n:Int)]
 |.lO=>[.int (n:Int)]
 |_=>[]
theorem ei.ź(k:ei)(h g:b7)(n:Nat):k.row h g n=k.w::k.args h g n:=by cases k<;>rfl
theorem ei.fJ(k:ei){n:Nat}(a:n<10 ^ 10):pU k.dv ((k.args h g n).map S) (k.us h g n):=by
 have one:pU [.n] [S (df n)] [.int (n:Int)]:=.cons #[n,a,rfl,rfl] .nil;cases k with
 |post=>exact .cons rfl (.cons rfl .nil)
 |jq=>exact one
 |lR=>exact one
 |lO=>exact one
 |_=>exact .nil
theorem ei.ws(k:ei){n:Nat}(c:kK h)(b:kK g)(d:n<10 ^ 10):tN (k.row h g n):=by
 have one:∀p∈[df n],kK p:=λp a=>by rw[gp.mp a];exact Dr d
 cases k with
 |post=>
  refine tv (by decide) #[by decide,by decide,by decide,by decide] (t6 rfl) λp a=>?_;rcases dr.mp a with rfl|a
  .exact c
  rw[gp.mp a];exact b
 |jq=>exact tv (by decide) #[by decide,by decide,by decide,by decide] (t6 rfl) one
 |lR=>exact tv (by decide) #[by decide,by decide,by decide,by decide] (t6 rfl) one
 |lO=>exact tv (by decide) #[by decide,by decide,by decide,by decide] (t6 rfl) one
 |_=>exact tv (by decide) #[by decide,by decide,by decide,by decide] (t6 rfl) λp a=>nomatch a
structure qz(K:aN)(R:jU)(cO cR eb:Addr)(D:pF):Prop where
 aX:Jn K R cO cR wY [.t] D.aX
 u1:Jn K R cO cR zM [.t,.t,.n,.n] D.u1
 ve:Jn K R cO cR Ak [.t,.t,.r] D.ve
 bh:Jn K R cO cR Al [.f] D.bh
 day:∀k:ei,amC K R cO cR eb k.w k.dv (D.of k)
theorem aeK{b:bt}{n:b7}(h:n∈b):wq (.list (bI b++[.str (S n)]))=false:=by rw[r4];intro z;obtain⟨_,c,a⟩:=abU z;rw[V9,Vu]at a;have a:(b.map S++[S n]).Nodup:=a;exact(vE.mp a).2.2 _ (cm.mpr #[n,h,rfl]) _ (.head _) rfl
theorem aa9{c:bt}{n:b7}(G:Good c)(k:m7 n)(h:n∉c)(l:c.length<12):Good (c++[n]):=by
 show#[λx g=>?_,vE.mpr #[G.aI,by simp,λa d b f e=>?_],by rw[eM];exact l]
 .rcases hy.mp g with z|z
  .exact G.nm x z
  rw[gp.mp z];exact k
 rw[gp.mp f]at e;rw[e]at d;exact h d
theorem vO.same{A b:fU}(n:vO H' A b)(a:aB H H'):vO H A b:=#[n.t.imp id (eU a),n.l.imp id (eU a),n.a.imp id (eU a),n.b.imp id (eU a),n.y.imp id (eU a),n.n.imp id (eU a),n.d]
section
variable{K:aN}{ay C aL aw aq eS c1 fh dW g5 g6 cO cR eb x:Addr}{cs:bL}{R:jU}{F:pF}
noncomputable abbrev spS(K:aN)(ay C aL aw aq eS c1 fh dW g5:Addr)(R:jU)(cO cR eb:Addr)(F:pF):fu:=Jp K aL g5 R cO cR eb (nW ay C aL aw aq eS c1 fh dW F)
noncomputable def xA(x:Addr)(H H':af):Prop:=∀b o,b≠x->H b=some o->H' b=some o
theorem Wm(f:qz K R cO cR eb F){s:h0}{A:fU}{n:b7}(c:m7 n)(D:g8 aL aw aq H x A s)(g:oM s)(L:n∉s.hs)(l:s.hs.length<12){Q:a4}(q:∀H' a,vO H A a->xA x H H'->g8 aL aw aq H' x a #[s.hs++[n],s.ds,s.bB,lI s.bj]->Q (.str "ok") H'):spS K ay C aL aw aq eS c1 fh dW g5 R cO cR eb F [.ref x,.str (S (d1 [32] [wY,n]))] H Q E:=by
 show#[x,A.ag,A.n,A.l,A.y,A.d,_,S wY,[S n],[.t],[.str (S n)],rfl,D.ins,tv (by decide) #[by decide,by decide,by decide,by decide] (t6 rfl) (λp h=>?_),rfl,f.aX.v8,.cons rfl .nil,by decide,.vY F.aX _ f.aX.ns .aX λy N V d r=>?_]
 .rw[gp.mp h];exact mP c
 show#[x,y,A,s,S n,rfl,D.same d,r,g,qp (mP c),.inl #[n,rfl,aa9 g.g c L l,λm a z k t=>q m a (z.same d) (λb o w e=>k b o w (d _ _ e)) t]]
theorem ahh(b:qz K R cO cR eb F){s:h0}{A:fU}{n:b7}(c:m7 n)(D:g8 aL aw aq H x A s)(l:oM s)(a:n∈s.hs){E:bY}(q:∀H',aB H H'->E (.ref eS) none H'):spS K ay C aL aw aq eS c1 fh dW g5 R cO cR eb F [.ref x,.str (S (d1 [32] [wY,n]))] H Q E:=by
 show#[x,A.ag,A.n,A.l,A.y,A.d,_,S wY,[S n],[.t],[.str (S n)],rfl,D.ins,tv (by decide) #[by decide,by decide,by decide,by decide] (t6 rfl) (λp f=>?_),rfl,b.aX.v8,.cons rfl .nil,by decide,.vY F.aX _ b.aX.ns .aX λk o r d h=>?_]
 .rw[gp.mp f];exact mP c
 show#[x,k,A,s,S n,rfl,D.same d,h,l,qp (mP c),.inr #[aeK a,λg m=>q g (d.trans m)]]
theorem W7(g:qz K R cO cR eb F){s:h0}{A:fU}{t m:Nat}{d:cw.fD}(n:m7 a)(r:m7 b)(D:g8 aL aw aq H x A s)(j:oM s)(ok:d.Ok s.hs.length)(u:s.ds.length<40)(e:pC (S a) (S b) t m=gY s.hs d)(k:t<10 ^ 10)(l:m<10 ^ 10){Q:a4}(q:∀H' c,vO H A c->xA x H H'->g8 aL aw aq H' x c #[s.hs,s.ds++[d],s.bB,lI s.bj]->Q (.str (S (df s.ds.length))) H'):spS K ay C aL aw aq eS c1 fh dW g5 R cO cR eb F [.ref x,.str (S (d1 [32] [zM,a,b,df t,df m]))] H Q E:=by
 show#[x,A.ag,A.n,A.l,A.y,A.d,_,S zM,[S a,S b,S (df t),S (df m)],[.t,.t,.n,.n],pC (S a) (S b) t m,rfl,D.ins,tv (by decide) #[by decide,by decide,by decide,by decide] (t6 rfl) (λp h=>?_),rfl,g.u1.v8,.cons rfl (.cons rfl (.cons #[t,k,rfl,rfl] (.cons #[m,l,rfl,rfl] .nil))),by decide,.vY F.u1 _ g.u1.ns .u1 λV B G f z=>?_]
 .simp only[dr,e3,or_false]at h;rcases h with rfl|rfl|rfl|rfl
  .exact mP n
  .exact mP r
  .exact Dr k
  exact Dr l
 show#[x,V,A,s,S a,S b,t,m,rfl,D.same f,z,j,qp (mP n),qp (mP r),.inl #[d,ok,u,e,λy c i w L=>q y c (i.same f) (λb o N e=>w b o N (f _ _ e)) L]]
theorem aiG(c:qz K R cO cR eb F){s:h0}{A:fU}{a b:b7}{i:Nat}{d:cw.fD}(h:m7 a)(k:m7 b)(D:g8 aL aw aq H x A s)(V:oM s)(w:a∈s.hs)(n:b∈s.hs)(u:a≠b)(cF:s.ds[i]?=some d)(m:S (s.hs.getD d.a [])=S a)(g:i<10 ^ 10){Q:a4}(q:∀H',z6 x A.t H H'->g8 aL aw aq H' x A #[s.hs,s.ds,s.bB,k_ s.bj (S a) (S b) i]->Q (.str "ok") H'):spS K ay C aL aw aq eS c1 fh dW g5 R cO cR eb F [.ref x,.str (S (d1 [32] [Ak,a,b,df i]))] H Q E:=by
 show#[x,A.ag,A.n,A.l,A.y,A.d,_,S Ak,[S a,S b,S (df i)],[.t,.t,.r],[.str (S a),.str (S b),.int (i:Int)],rfl,D.ins,tv (by decide) #[by decide,by decide,by decide,by decide] (t6 rfl) (λp f=>?_),rfl,c.ve.v8,.cons rfl (.cons rfl (.cons (.inr #[i,g,rfl,rfl]) .nil)),by decide,.vY F.ve _ c.ve.ns .ve λN I J l t=>?_]
 .simp only[dr,e3,or_false]at f;rcases f with rfl|rfl|rfl
  .exact mP h
  .exact mP k
  exact Dr g
 have G:iI (bI s.hs) (.str (S a)) (.str (S b))=true:=y' (cm.mpr #[_,w,rfl]) (cm.mpr #[_,n,rfl]) λe=>u (zU e);have B:((i:Nat):Int)∈kz s.hs s.ds (·.a) (S a):=WY cF m;show#[x,N,A,s,S a,S b,i,rfl,D.same l,t,V,qp (mP h),qp (mP k),G,B,λr j z=>q r (λb o L y e=>j b o L y (l _ _ e)) z]
theorem aiq(g:qz K R cO cR eb F){s:h0}{A:fU}{m:Nat}(z:m<=1000000000)(D:g8 aL aw aq H x A s)(y:oM s){Q:a4}(q:∀c H' bh(B:ct)a,aB H c->c bh=none->(∀b∈B.b9 bh,c b=none)->xA x c H'->g8 aL aw aq H' x {A with d:=.ref bh} s->ej ay C aw aq (iv (oF A.n A.a' A.b' A.rs) c) H' bh B s.hs s.ds #[(m:Int),[],[],[],a,[]]->ru s.hs s.ds a->Q (.str "ok") H'):spS K ay C aL aw aq eS c1 fh dW g5 R cO cR eb F [.ref x,.str (S (d1 [32] [Al,df m]))] H Q E:=by
 show#[x,A.ag,A.n,A.l,A.y,A.d,_,S Al,[S (df m)],[.f],[.int (m:Int)],rfl,D.ins,tv (by decide) #[by decide,by decide,by decide,by decide] (t6 rfl) (λp k=>?_),rfl,g.bh.v8,.cons #[m,z,rfl,rfl] .nil,by decide,.vY F.bh _ g.bh.ns .bh λw c L h n=>?_]
 .rw[gp.mp k];exact Dr (by omega)
 show#[x,w,A,s,m,rfl,D.same h,n,y,λH' bh B a t o l r f ST=>q c H' bh B a h t o l r f ST]
theorem ahi(a:qz K R cO cR eb F){s:h0}{A:fU}(k:ei){n:Nat}(d:kK h)(c:kK g)(b:n<10 ^ 10)(D:g8 aL aw aq H x A s)(cF:A.d=.b3){E:bY}(q:∀H',aB H H'->E (.ref g5) none H'):spS K ay C aL aw aq eS c1 fh dW g5 R cO cR eb F [.ref x,.str (S (d1 [32] (k.row h g n)))] H Q E:=
 #[x,A.ag,A.n,A.l,A.y,A.d,_,S k.w,(k.args h g n).map S,k.dv,k.us h g n,rfl,D.ins,k.ws d c b,(by rw[k.ź];rfl),(a.day k).v8,k.fJ b,(by cases k<;>decide),.none (a.day k).no cF q]
theorem W8(U:qz K R cO cR eb F){s:h0}{A:fU}{B:ct}{f Z:c8}{j n:Nat}{k:ei}{X:aO}(r:iA hs ds f h g n k X Z)(kc:kK h)(hY:kK g)(ln:n<10 ^ 10)(D:g8 aL aw aq H x A s)(cF:A.d=.ref bh)(Y:ej ay C aw aq e H bh B hs ds f)(O:ir hs ds j f)(axC:j<=60){Q:a4}{E:bY}(q:∀y I H',X=[.aV true,.str y]->gH (B.b9 bh) (I.b9 bh) H H'->ej ay C aw aq e H' bh I hs ds Z->Q (.str y) H')(P:∀y c cQ o H',X=[.str y]->Z=f->IM c1 dW c cQ y->aB H H'->E (.ref c) o H'):spS K ay C aL aw aq eS c1 fh dW g5 R cO cR eb F [.ref x,.str (S (d1 [32] (k.row h g n)))] H Q E:=by
 have p:=O.p;have T:f.iR.length<=900:=dX O.cp (by omega);have c3:∀ss∈f.aY,ss.length<=100:=λss h=>dX (O.o.c3 ss h) (by omega);have V:∀sp,nW ay C aL aw aq eS c1 fh dW F (F.of k) sp->(∀l H',H l=none->aB H H'->H' l=some (.lst (k.us h g n))->sp [.ref bh,.ref l] H' Q E)->spS K ay C aL aw aq eS c1 fh dW g5 R cO cR eb F [.ref x,.str (S (d1 [32] (k.row h g n)))] H Q E:=λsp av z=>#[x,A.ag,A.n,A.l,A.y,A.d,_,S k.w,(k.args h g n).map S,k.dv,k.us h g n,rfl,D.ins,k.ws kc hY ln,(by rw[k.ź];rfl),(U.day k).v8,k.fJ ln,(by cases k<;>decide),.day bh (F.of k) sp (U.day k).no cF (U.day k).ns av z]
 have ok:n<f.bB.length->u_ (spotOf (f.aY.getD n []) (j2 (e_ f.bB) n) f.pr):=λlt=>An.jq O.g (O.st _ (fC (y_ (d:=[]) (by rw[O.o.len];exact lt))));have J:∀{M iV:bL}{L ai:af},aB H L->gH M iV L ai->gH M iV H ai:=λa m=>(gH.refl a).trans m;cases r with
 |Cc z=>exact V _ .po λl L i a t=>#[e,bh,l,B,hs,ds,f,S h,S g,rfl,Y.same a,t,O.g,O.o.lets,O.o.jO,O.o.len,λ_=>qp kc,λ_=>qp hY,λ_ H' I m G=>q _ I H' rfl (J a m) G,λu=>bG z u]
 |FW z=>exact V _ .po λl L i a t=>#[e,bh,l,B,hs,ds,f,S h,S g,rfl,Y.same a,t,O.g,O.o.lets,O.o.jO,O.o.len,λ_=>qp kc,λ_=>qp hY,λw=>bG w z,λ_ o H' N=>P _ _ _ o H' rfl rfl .l (a.trans N)]
 |pass=>exact V _ .hp λl L i a t=>#[e,bh,_,B,hs,ds,f,j,rfl,Y.same a,O.g,O.o,by omega,λb aa=>O.Ju (by omega) aa,dX (VF ds f) (dX O.mC (by decide)),λH' I m G=>q _ I H' rfl (J a m) G]
 |turn=>exact V _ .tp λl L i a t=>#[e,bh,_,B,hs,ds,f,rfl,Y.same a,#[p.1,by omega],q _ B L rfl (gH.refl a) (Y.same a)]
 |GC z=>exact V _ .sp λl L i a t=>#[e,bh,l,B,hs,ds,f,n,rfl,Y.same a,t,O.o.len,c3,ok,λ_ H' N=>q _ B H' rfl (gH.refl (a.trans N)) (Y.same (a.trans N)),λu=>bG z u]
 |GB z=>exact V _ .sp λl L i a t=>#[e,bh,l,B,hs,ds,f,n,rfl,Y.same a,t,O.o.len,c3,ok,λw=>bG w z,λ_ o H' N=>P _ _ _ o H' rfl rfl .l (a.trans N)]
 |Cp z=>exact V _ .cp λl L i a t=>#[e,bh,l,B,hs,ds,f,n,rfl,Y.same a,t,T,λ_ H' m G=>q _ B H' rfl (J a m) G,λu=>bG z u]
 |Gz z=>exact V _ .cp λl L i a t=>#[e,bh,l,B,hs,ds,f,n,rfl,Y.same a,t,T,λw=>bG w z,λ_ H' N=>P _ _ _ none H' rfl rfl .r (a.trans N)]
 |Cf z=>exact V _ .re λl L i a t=>#[e,bh,l,B,hs,ds,f,n,rfl,Y.same a,t,T,λ_ H' m G=>q _ B H' rfl (J a m) G,λu=>bG z u]
 |Gj z=>exact V _ .re λl L i a t=>#[e,bh,l,B,hs,ds,f,n,rfl,Y.same a,t,T,λw=>bG w z,λ_ H' N=>P _ _ _ none H' rfl rfl .r (a.trans N)]
 |log=>exact V _ .lo λl L i a t=>#[e,bh,_,B,hs,ds,f,rfl,Y.same a,O.hh,dX O.sn (by omega),λH' N=>q _ B H' rfl (gH.refl (a.trans N)) (Y.same (a.trans N))]
end
structure vT(F pG M iV:bL)(H H':af):Prop where
 eJ:∀b o,b∉M->H b=some o->H' b=some o
 aov:∀b∈pG,b∈F\/H b=none
 aow:∀b∈iV,b∈M\/H b=none
theorem vT.refl(a:aB H H'):vT F F M M H H':=#[λb o _ e=>a _ _ e,λ_ h=>.inl h,λ_ h=>.inl h]
structure md(F M pG iV:bL):Prop where
 a:∀b∈M,b∉pG
 b:∀b∈iV,b∉F
theorem md.symm(h:md F M i e):md i e F M:=#[h.b,h.a]
theorem md.step{cw c d:bL}{H:af}(h:md F M c d)(s:vT F e M cw H H')(f:∀b∈c,H b≠none)(g:∀b∈d,b∈c):md e cw c d:=by
 show#[λb a z=>?_,λb a z=>?_]
 .rcases s.aow b a with y|y
  .exact h.a b y z
  exact f b z y
 rcases s.aov b z with y|y
 .exact h.b b a y
 exact f b (g b a) y
noncomputable def Kept(F:bL)(H H':af):Prop:=∀b o,(b∈F\/∃v,o=.tup v)->H b=some o->H' b=some o
theorem md.kept{M cw:bL}{H:af}(h:md F M i q)(s:vT F j M cw H H')(a:∀b∈M,∀v,H b≠some (.tup v)):Kept i H H':=λb o k e=>by
 refine s.eJ b o (λz=>?_) e;rcases k with k|⟨v,rfl⟩
 .exact h.a b z k
 exact a b z v e
theorem U7{F:bL}{H H':af}(k:Kept F H H')(c:∀b∈F,H b≠none):∀b∈F,H' b≠none:=λb a z=>by
 cases e:H b with
 |none=>exact c b a e
 |some o=>rw[k b o (.inl a) e]at z;cases z
inductive oL(ay C aw aq:Addr)(H:af)(d:Addr)(B:ct)(L:bL)(hs:bt)(ds:cC)(s:c8):Prop where
 |mk(bD:af)(_:ej ay C aw aq bD H d B hs ds s)(_:∀b o,bD b=some o->b∈L)(_:∀b∈L,bD b≠none)
theorem oL.live{H:af}{d:Addr}{B:ct}{L:bL}{s:c8}(D:oL q C j i H d B L hs ds s):∀b∈B.b9 d++L,H b≠none:=λb a z=>by
 obtain⟨c,D,g,f⟩:=D;rcases hy.mp a with h|h
 .exact D.live z h
 cases e:c b with
 |none=>exact f b h e
 |some o=>rw[D.cL _ _ e]at z;cases z
theorem oL.lJ{H:af}{B:ct}{L:bL}{s:c8}(D:oL j C i e H d B L hs ds s):∀b∈B.b9 d,∀v,H b≠some (.tup v):=λb a v=>by obtain⟨c,D,_,_⟩:=D;exact D.lJ a
theorem oL.kept{d:Addr}{B:ct}{L:bL}{s:c8}(D:oL q C j i H d B L hs ds s)(k:Kept (B.b9 d++L) H H'):oL q C j i H' d B L hs ds s:=by obtain⟨t,D,m,w⟩:=D;show#[t,?_,m,w];have a:∀b o,b∈B.b9 d->H b=some o->H' b=some o:=λb o n e=>k b o (.inl (z8 _ n)) e;have f:∀b v,H b=some (.tup v)->H' b=some (.tup v):=λb v e=>k b _ (.inr #[v,rfl]) e;obtain⟨bh,r⟩:=D.d3;show#[λb o e=>k b o (.inl (pN _ (m b o e))) (D.cL _ _ e),D.el,D.fJ,a _ _ ct.m0 D.ins,a _ _ ct.kv D.po,b2.fT D.pt λ_ _ e=>f _ _ e,#[bh,a _ _ ct.nF r],a _ _ ct.yR D.tB,a _ _ ct.yS D.cp,a _ _ ct.yT D.wi,a _ _ ct.yU D.hY,a _ _ ct.R9 D.ws,?_,a _ _ ct.KB D.c5,b2.fT D.sp λ_ _⟨c,g,h⟩=>#[c,f _ _ g,f _ _ h],D.aI,D.fr];exact Mk D.pA λl p z⟨y,g,h⟩=>#[y,a _ _ (ct.Fo p) g,b2.fT h λ_ _ e=>f _ _ e]
theorem gH.pk{M a L:bL}(m:gH M a H H'):vT (M++L) (a++L) M a H H':=#[m.keep,λb c=>by
 rcases hy.mp c with h|h
 .exact(m.own b h).imp (z8 _) id
 exact .inl (pN _ h),m.own]
structure ij(aL aw aq:Addr)(H:af)(x an bl:Addr)(A:fU)(s:h0)(ls:bL):Prop where
 dS:g8 aL aw aq H x A s
 ok:oM s
 ez:∀r∈s.bj,r.2.1∈(s.hs.take 2).map S
 nm:H an=some (.lst (cN s.hs))
 ln:H bl=some (.lst (aS ls))
 a_:gs H s.hs ls s.ds
 aj:2<=s.hs.length
 rk:s.hs.length<=10
 q8:s.ds.length<=s.hs.length+6
 qe:s.bB=[]
 ne:an≠bl
 gy:A.a'≠an/\A.a'≠bl
 en:A.b'≠an/\A.b'≠bl
 k7:A.l≠an/\A.l≠bl
noncomputable def i4(x a b:Addr)(A:fU):List Addr:=[x,A.n,A.y,A.t,A.a',A.b',A.l,a,b]
noncomputable def lL(x a b:Addr)(A:fU):List Addr:=[x,A.t,a,b]
theorem CM{A:fU}:∀b∈lL x c d A,b∈i4 x c d A:=λb a=>by unfold lL at a;unfold i4;simp only[dr,e3,or_false]at a⊢;rcases a with h|h|h|h<;>simp[h]
theorem ZA{A:fU}{p:Addr->Prop}(g:p x)(h:p A.n)(k:p A.y)(l:p A.t)(m:p A.a')(n:p A.b')(f:p A.l)(r:p c)(o:p d):∀b∈i4 x c d A,p b:=λb a=>by unfold i4 at a;simp only[dr,e3,or_false]at a;rcases a with rfl|rfl|rfl|rfl|rfl|rfl|rfl|rfl|rfl<;>assumption
theorem H0{A:fU}{p:Addr->Prop}(f:p x)(g:p A.t)(k:p c)(h:p d):∀b∈lL x c d A,p b:=λb a=>by unfold lL at a;simp only[dr,e3,or_false]at a;rcases a with rfl|rfl|rfl|rfl<;>assumption
theorem Nn{H:af}(h:c7 H (.ref l) (.list [])):H l=some (.lst []):=by
 cases h with
 |lst h z t=>
  cases t;exact h
section
variable{aL aw aq:Addr}{H H':af}{x an bl:Addr}{A:fU}{s:h0}{ls:bL}
theorem ij.aqq(D:ij aL aw aq H x an bl A s ls):H A.l=some (.lst []):=Nn (by have:=D.dS.lt;rw[D.qe]at this;exact this)
theorem ij.live(D:ij aL aw aq H x an bl A s ls):∀b∈i4 x an bl A,H b≠none:=by
 have ok:∀{b:Addr}{o:gQ},H b=some o->H b≠none:=λe z=>by rw[e]at z;cases z
 obtain⟨d,a⟩:=D.dS.d3.el.ins;obtain⟨bh,c⟩:=D.dS.d3.ins;exact ZA (ok D.dS.ins) (ok a) (ok c) (ok D.dS.d3.told) (ok D.dS.d3.el.jL) (ok D.dS.d3.el.ky) (ok D.aqq) (ok D.nm) (ok D.ln)
theorem ij.lJ(D:ij aL aw aq H x an bl A s ls):∀b∈lL x an bl A,∀v,H b≠some (.tup v):=
 H0 (λv z=>by rw[D.dS.ins]at z;cases z) (λv z=>by rw[D.dS.d3.told]at z;cases z) (λv z=>by rw[D.nm]at z;cases z) (λv z=>by rw[D.ln]at z;cases z)
theorem W9(r:gs H hs rs ds)(k:Kept F H H'):gs H' hs rs ds:=#[b2.fT r.gz λ_ _ e=>k _ _ (.inr #[_,rfl]) e,r.ok]
theorem g8.kept{F:bL}(D:g8 aL aw aq H x A s)(c:s.bB=[])(k:Kept F H H')(l:∀b∈[x,A.n,A.y,A.t,A.a',A.b',A.l],b∈F):g8 aL aw aq H' x A s:=by have f:H A.l=some (.lst []):=Nn (by have:=D.lt;rw[c]at this;exact this);obtain⟨h,d⟩:=D.d3.el.ins;obtain⟨bh,g⟩:=D.d3.ins;have a:∀{b:Addr}{o:gQ},b∈[x,A.n,A.y,A.t,A.a',A.b',A.l]->H b=some o->H' b=some o:=λm e=>k _ _ (.inl (l _ m)) e;show#[a (by simp) D.ins,#[#[bh,a (by simp) g],#[#[h,a (by simp) d],a (by simp) D.d3.el.jL,a (by simp) D.d3.el.ky],a (by simp) D.d3.told],W9 D.fJ k,?_];rw[c];exact .lst (a (by simp) f) (e4 _) .nil
theorem ij.kept(D:ij aL aw aq H x an bl A s ls)(k:Kept (i4 x an bl A) H H'):ij aL aw aq H' x an bl A s ls:=
 {D with
  dS:=D.dS.kept D.qe k λb a=>by unfold i4;simp only[dr,e3,or_false]at a⊢;rcases a with h|h|h|h|h|h|h<;>simp[h]
  nm:=k _ _ (.inl (by unfold i4;simp)) D.nm
  ln:=k _ _ (.inl (by unfold i4;simp)) D.ln
  a_:=W9 D.a_ k}
theorem ij.same(D:ij aL aw aq H x an bl A s ls)(a:aB H H'):ij aL aw aq H' x an bl A s ls:=D.kept λb o _ e=>a _ _ e
end
structure kH(ay C aL aw aq:Addr)(H:af)(ex:bL)(x an bl:Addr)(A:fU)(s:h0)(ls:bL)(cy c9:Addr)(ff fx:ct)(hQ ao:bL)(hs:bt)(ds:cC)(k:Nat)(eF jV:c8)(eY:gm):Prop where
 dj:ij aL aw aq H x an bl A s ls
 hF:oL ay C aw aq H cy ff hQ hs ds jV
 js:oL ay C aw aq H c9 fx ao hs ds (mU eF eY)
 pr:ir hs ds k jV
 bC:xV eY ds.length
 lk:∀h g,dk jV.kvs (f6 h g)=dk eY (f6 h g)
 cF:A.d=.ref c9
 a1:md (i4 x an bl A) (lL x an bl A) (ff.b9 cy++hQ) (ff.b9 cy)
 a2:md (i4 x an bl A) (lL x an bl A) (fx.b9 c9++ao) (fx.b9 c9)
 gD:md (ff.b9 cy++hQ) (ff.b9 cy) (fx.b9 c9++ao) (fx.b9 c9)
 mc:∀b∈ex,H b≠none
 x0:md (i4 x an bl A) (lL x an bl A) ex []
 e0:md (ff.b9 cy++hQ) (ff.b9 cy) ex []
 ht:md (fx.b9 c9++ao) (fx.b9 c9) ex []
theorem uZ{M L:bL}:∀b∈M,b∈M++L:=λ_ h=>z8 _ h
theorem M0{L:bL}:∀b∈([]:bL),b∈L:=λ_ h=>nomatch h
section
variable{ay C aL aw aq:Addr}{H H':af}{ex:bL}{x an bl:Addr}{A c0:fU}{s s':h0}{ls BP:bL}{cy c9:Addr}{ff fx nU:ct}{hQ ao:bL}{hs:bt}{ds:cC}{k:Nat}{eF jV:c8}{eY:gm}
theorem kH.same(L:kH ay C aL aw aq H ex x an bl A s ls cy c9 ff fx hQ ao hs ds k eF jV eY)(a:aB H H'):kH ay C aL aw aq H' ex x an bl A s ls cy c9 ff fx hQ ao hs ds k eF jV eY:=
 {L with dj:=L.dj.same a,hF:=L.hF.kept λb o _ e=>a _ _ e,js:=L.js.kept λb o _ e=>a _ _ e,mc:=λb c z=>L.mc b c (eU a z)}
theorem kH.put(L:kH ay C aL aw aq H ex x an bl A s ls cy c9 ff fx hQ ao hs ds k eF eF eY){p:Addr}(c:H p=none):kH ay C aL aw aq (upd H p o) (p::ex) x an bl A s ls cy c9 ff fx hQ ao hs ds k eF eF eY:=by
 have e:∀{F M:bL},(∀b∈F,H b≠none)->(∀b∈M,b∈F)->md F M ex []->md F M (p::ex) []:=λf d h=>#[λb a z=>by
  rcases dr.mp z with rfl|z
  .exact f b (d b a) c
  exact h.a b a z,λ_ h=>nomatch h]
 exact{L.same (bF c)with
  mc:=λb a z=>by
   rcases dr.mp a with rfl|a
   .rw[aK]at z;cases z
   exact L.mc b a (eU (bF c) z)
  x0:=e L.dj.live CM L.x0
  e0:=e L.hF.live uZ L.e0
  ht:=e L.js.live uZ L.ht}
theorem kH.vY(L:kH ay C aL aw aq H ex x an bl A s ls cy c9 ff fx hQ ao hs ds k eF eF eY)(st:vT (i4 x an bl A) (i4 x an bl c0) (lL x an bl A) (lL x an bl c0) H H')(O:ij aL aw aq H' x an bl c0 s' BP)(cF:c0.d=A.d):kH ay C aL aw aq H' ex x an bl c0 s' BP cy c9 ff fx hQ ao hs ds k eF eF eY/\Kept ex H H':=
 have k:=L.x0.kept st L.dj.lJ
 #[#[O,L.hF.kept (L.a1.kept st L.dj.lJ),L.js.kept (L.a2.kept st L.dj.lJ),L.pr,L.bC,L.lk,cF.trans L.cF,L.a1.step st L.hF.live uZ,L.a2.step st L.js.live uZ,L.gD,U7 k L.mc,L.x0.step st L.mc M0,L.e0,L.ht],k]
theorem kH.anL(L:kH ay C aL aw aq H ex x an bl A s ls cy c9 ff fx hQ ao hs ds k eF eF eY)(a:gH (ff.b9 cy) (nU.b9 cy) H H')(y:oL ay C aw aq H' cy nU hQ hs ds jV)(p:ir hs ds (k+1) jV)(b:jV.kvs=eF.kvs):kH ay C aL aw aq H' ex x an bl A s ls cy c9 nU fx hQ ao hs ds (k+1) eF jV eY/\Kept ex H H':=
 have k:=L.e0.kept a.pk L.hF.lJ
 #[#[L.dj.kept (L.a1.symm.kept a.pk L.hF.lJ),y,L.js.kept (L.gD.kept a.pk L.hF.lJ),p,L.bC,(by rw[b];exact L.lk),L.cF,(L.a1.symm.step a.pk L.dj.live CM).symm,L.a2,L.gD.step a.pk L.js.live uZ,U7 k L.mc,L.x0,L.e0.step a.pk L.mc M0,L.ht],k]
theorem kH.new(L:kH ay C aL aw aq H ex x an bl A s ls cy c9 ff fx hQ ao hs ds k eF jV eY){p:Addr}(a:H p=none):p∉fx.b9 c9:=λz=>L.js.live p (uZ p z) a
theorem kH.Ó(L:kH ay C aL aw aq H ex x an bl A s ls cy c9 ff fx hQ ao hs ds k eF jV eY)(a:gH (fx.b9 c9) (nU.b9 c9) H H')(y:oL ay C aw aq H' c9 nU ao hs ds (mU jV eY)):kH ay C aL aw aq H' ex x an bl A s ls cy c9 ff nU hQ ao hs ds k jV jV eY/\Kept ex H H':=
 have k:=L.ht.kept a.pk L.js.lJ
 #[#[L.dj.kept (L.a2.symm.kept a.pk L.js.lJ),L.hF.kept (L.gD.symm.kept a.pk L.js.lJ),y,L.pr,L.bC,L.lk,L.cF,L.a1,(L.a2.symm.step a.pk L.dj.live CM).symm,(L.gD.symm.step a.pk L.hF.live uZ).symm,U7 k L.mc,L.x0,L.e0,L.ht.step a.pk L.mc M0],k]
end
theorem M1{p:b7}(h:∀c∈p,c<256):lr (S p)=true:=by simp only[lr,S];rw[VZ];intro x a;have:=h x (by simpa using a);exact cE (by omega)
inductive xb:List ao.V->Prop
 |one{y:Str}(_:lr y=true):xb [.str y]
 |two{y:Str}(_:lr y=true):xb [.aV true,.str y]
theorem xb.data{K:aN}{a:aO}(h:xb a):∃ds:List PyData,DU (.list ds)=true/\DV (.list ds)<=1/\∀(H:af)(l:Addr),H l=some (.lst a)->nX K H (.ref l) (.list ds):=by
 cases h with
 |@one y h=>show#[[.str y],by simp only[DU,xM,h,Wf],by simp[DV,qI],λH l e=>.lst (aQ.of e) (.cons (.str _) .nil)]
 |@two y h=>show#[[.bool true,.str y],by simp only[DU,xM,h,Wf],by simp[DV,qI],λH l e=>.lst (aQ.of e) (.cons (.aV _) (.cons (.str _) .nil))]
theorem Li{d:PyData}(h:DU d=true)(k:d.depth<=64):ud d=true:=by unfold ud;rw[h,cE k];rfl
theorem OG(n:Nat):lr (S (df n))=true:=M1 λc a=>by have:=CS a;omega
section
variable{K:aN}
theorem CN{a:aO}(h:xb a){H:af}{Q:a4}(e:H l=some (.lst a))(b:H i=some (.lst a))(q:Q (.aV false) H):IU K true (.ref l) (.ref i) H Q:=by obtain⟨ds,c,d,k⟩:=h.data (K:=K);show#[_,_,k H l e,k H i b,Li c (by omega),Li c (by omega),?_];rw[VB _ c];exact q
theorem Np{a:aO}(h:xb a){H:af}{Q:a4}(e:H l=some (.lst a))(b:H i=some (.lst a))(q:Q (.aV true) H):IU K false (.ref l) (.ref i) H Q:=by obtain⟨ds,c,d,k⟩:=h.data (K:=K);show#[_,_,k H l e,k H i b,Li c (by omega),Li c (by omega),?_];rw[VB _ c];exact q
theorem air(a b c:b7):bc "way "++S a++bc " "++S b++bc " "++S c=S (d1 [32] [Ak,a,b,c]):=by
 have f:bc "way "=S (Ak++[32]):=by decide+kernel
 have d:bc " "=S [32]:=by decide+kernel
 rw[f,d];simp only[mM,d1,oN]
theorem LP{a:bt}{j:Int}(h:2<=a.length)(b:0<=j)(d:j<2):∃g∈a.take 2,ao.gT (cN a) j=some (.str (S g)):=by
 obtain⟨m,rfl⟩:=xr b;have c:m<a.length:=by omega
 show#[a[m],List.mem_take_iff_getElem.mpr #[m,by omega,rfl],iH ?_];unfold cN;rw[dV,dw c];rfl
theorem Nq:xb [.aV true,.str (bc "ok")]:=.two (by decide+kernel)
end
section
variable{P:cx}{w:bf}{K:aN}{mg:cb}{base:Heap}
noncomputable abbrev I_:Stmt:=top 133
noncomputable abbrev Ja:List Str:=["_law_desk","_law_names","_law_lines","_law_n"]
theorem IE:cI ["_law_desk","_law_names","_law_lines","_law_n","_law_k","_law_goal","_law_row"] Ja (b5 I_):={}
inductive ZM(aL aw aq:Addr)(vs:aO)(H:af)(Q:a4)(E:bY):Prop where
 |mk(x an bl:Addr)(A:fU)(s:h0)(ls:bL)(n:Int)(_:vs=[.ref x,.ref an,.ref bl,.int n])(_:ij aL aw aq H x an bl A s ls)(_:∀H' bj,z6 x A.t H H'->ij aL aw aq H' x an bl A ⟨s.hs,s.ds,s.bB,bj⟩ ls->Q (.aV true) H')
inductive acO(aL aw aq:Addr)(x an bl:Addr)(A:fU)(s:h0)(ls:bL)(n:Int)(iC:af)(_:Nat)(U:ao.St)(H:af):Prop where
 |mk(v4 UG v6:lY)(bj:List Row)(_:U=[some (.ref x),some (.ref an),some (.ref bl),some (.int n),v4,UG,v6])(_:z6 x A.t iC H)(_:ij aL aw aq H x an bl A ⟨s.hs,s.ds,s.bB,bj⟩ ls)
theorem ij.way{A:fU}{s:h0}(O:ij j u q H x an C A s ls){a b:b7}{i:Nat}{d:cw.fD}(B:a∈s.hs)(l:b∈s.hs.take 2)(F:a≠b)(cF:s.ds[i]?=some d)(N:S (s.hs.getD d.a [])=S a)(k:z6 x A.t H H')(D:g8 j u q H' x A #[s.hs,s.ds,s.bB,k_ s.bj (S a) (S b) i]):ij j u q H' x an C A #[s.hs,s.ds,s.bB,k_ s.bj (S a) (S b) i] ls:=by
 have st:vc H H':=λb o n e=>k b o (λz=>n.1 _ _ _ _ _ _ (hI (e.symm.trans ((fa H z).trans O.dS.ins)))) (λz=>n.2 _ (hI (e.symm.trans ((fa H z).trans O.dS.d3.told)))) e;have ez:∀r∈k_ s.bj (S a) (S b) (i:Int),r.2.1∈(s.hs.take 2).map S:=λr c=>by
  unfold k_ at c;split at c
  .obtain⟨E,G,e⟩:=cm.mp c;subst e;split<;>exact O.ez E G
  rcases hy.mp c with h|h
  .exact O.ez r h
  rw[gp.mp h];exact cm.mpr #[b,l,rfl]
 have f:nH s.hs s.ds (S a,S b,(i:Int)):=#[cm.mpr #[a,B,rfl],cm.mpr #[b,t5 l,rfl],λe=>F (zU e),i,d,rfl,cF,N]
 have T:qy s.hs s.ds (k_ s.bj (S a) (S b) i):=O.ok.bj.put (h:=S a) (g:=S b) (i:=i) (λy ok=>by
  have h:=FV (L:=((s.hs.map S).flatMap λa=>((s.hs.take 2).map S).map λb=>(a,b))) y λp t=>by obtain⟨r,c,rfl⟩:=cm.mp t;exact adz.mpr #[r.1,(ok r c).a,cm.mpr #[r.2.1,ez r c,rfl]]
  have V:∀M:List Str,(M.flatMap λa=>((s.hs.take 2).map S).map λb=>(a,b)).length<=M.length*2:=λM=>by
   induction M with
   |nil=>exact cB _
   |cons m M I=>
    rw[List.flatMap_cons,eM,bP,bP,ll,gC];have:=O.aj;omega
  have:=V (s.hs.map S);rw[bP]at h this;have:=O.rk;omega) f
 exact{O with dS:=D,ok:=#[O.ok.g,O.ok.c3,T],ez:=ez,nm:=st _ _ rv O.nm,ln:=st _ _ rv O.ln,a_:=O.a_.lg st}
theorem aka{f:Addr}{R:jU}{pH:pF}(F:cj K "_law_ways_told" "_law_ways_told" I_ f fd)(B:ft mg)(SC:qz K R cO cR eb pH)(kO:cu K mg "_law_said" zd qH f1 c2)(ra:aD P w K mg base a3 10 f1 c2 qH (D4 K I g6 cs (spS K ay C I aw aq eS c1 fh dW g5 R cO cR eb pH))):
  aD P w K mg base a3 11 f fd Ja (ZM I aw aq):=by
 refine F.ok IE (λcdv i9 Z s0 H vs Q E al h=>?_);show#[_,(a6 (lD lW rfl (FQ rfl B.range (ak (eD kN B.len jI (ak (ae 2) aA)) aA)) (fG 4 IE.aI)
   (a6 (dO 5 IE.aI (b8 eO (ae 1) (bO h_ (bO jj (ae 3) (ae 4)) aZ)))
  (a6 (dO 6 IE.aI (bO fX (bO fX (bO fX (bO fX (bO fX cn (b8 eH (b8 eO (ae 2) (ae 4)) aZ)) cn) (ae 5)) cn) (hC kM B.str j1 (ak (ae 4) aA))))
  (a7 (d8 (kJ.pt (CG (eN zQ (b8 eH (b8 eO (ae 2) (ae 4)) aZ) (ae 5) (ek _)) (GN (eN (CI al.units) (d9 ra kO al.mono b0 (ak (ae 0) (ak (ae 6) aA))) (g7 (ak iK (ak cn aA))) (ek _))))) (a7 (cd iK)) ed)))))
  (a7 (cd iK))),?_]
 try dsimp only[cT,cS]
 obtain⟨x,an,r,A,s,y,n,rfl,O,q⟩:=h;have f9:y.length=s.ds.length:=O.a_.len;have Ga:=O.ok.c3;show#[_,rfl,r,_,rfl,.inl (aQ.of O.ln),_,rfl,(by rw[fo];omega),(by rw[fo];omega),?_];rw[fo,f9];refine UP (lo:=0) (n:=s.ds.length) (acO I aw aq x an r A s y n H) #[none,none,none,s.bj,rfl,λb o _ _ e=>e,O] ?_ ?_
 .rintro k U i aP ⟨v4,UG,v6,M,rfl,u,c⟩;refine cut λdz T=>?_;obtain⟨g,J,Jt⟩:=LP (j:=(n+(0+(k:Int)))%2) O.aj (n0 _ (by decide)) (pJ _ (by decide));show#[_,rfl,_,rfl,_,rfl,_,_,rfl,rfl,_,_,rfl,rfl,(by show(0:Int)<2;decide),an,_,_,_,rfl,rfl,aQ.of c.nm,Jt,?_];refine f3 dz T λdz T=>?_;obtain⟨p,A1⟩:∃p,y[k]?=some p:=#[_,dw (by omega)]
  obtain⟨d,cF,p2,yB⟩:=c.a_.get A1;have N:s.hs.getD d.a []∈s.hs:=by rw[ea,dw (show d.a<s.hs.length from p2.a)];exact m3 _
  have D:=O.ok.g.nm _ N;have Y:=O.ok.g.nm _ (t5 J);have E9:k<10 ^ 10:=by omega
  obtain⟨a,L⟩:∃a,a=s.hs.getD d.a []:=#[_,rfl]
  rw[<-L]at N D;have ĥ:cV K i p (gY s.hs d):=cV.of yB;have kf:ao.gT (gY s.hs d) 0=some (.str (S a)):=by rw[L];rfl
  have Â:ao.gT (aS y) (0+(k:Int))=some (.ref p):=by rw[pK];exact iH (by unfold aS;rw[dV,A1];rfl)
  have Ġ:aQ K i r (aS y):=aQ.of c.ln;have e6:bc (toString (0+(k:Int)))=S (df k):=by rw[pK,kn]
  have dZ:(bc "way "++S a).length<=12:=k4 (k:=4) (m:=8) (by decide+kernel) (by rw[d6];exact D.2.1) rfl;have X:(bc "way "++S a++bc " ").length<=13:=k4 (k:=12) (m:=1) dZ (by decide+kernel) rfl;have i1:(bc "way "++S a++bc " "++S g).length<=21:=k4 (k:=13) (m:=8) X (by rw[d6];exact Y.2.1) rfl;have jN:(bc "way "++S a++bc " "++S g++bc " ").length<=22:=k4 (k:=21) (m:=1) i1 (by decide+kernel) rfl;show#[_,rfl,_,rfl,r,_,_,_,rfl,rfl,Ġ,Â,p,_,_,_,rfl,rfl,ĥ,kf,_,_,rfl,rfl,ix 4 8 (by decide+kernel) (by rw[d6];exact D.2.1) (by decide),_,_,rfl,rfl,ix 12 1 dZ (by decide+kernel) (by decide),_,rfl,_,_,rfl,rfl,ix 13 8 X (by rw[d6];exact Y.2.1) (by decide),_,_,rfl,rfl,ix 21 1 i1 (by decide+kernel) (by decide),_,rfl,_,rfl,?_,_,_,rfl,rfl,?_,?_]
  .rw[pK];exact qb (by omega)
  .rw[e6];exact ix 22 10 jN (by rw[d6];exact lF E9) (by decide)
  rw[e6,air];subst T;show#[_,rfl,_,rfl,r,_,_,_,rfl,rfl,Ġ,Â,p,_,_,_,rfl,rfl,ĥ,kf,?_];by_cases G:a=g
  .show#[_,rfl,rfl,_,rfl,dA (by rw[cE (by rw[G])];rfl) (fR #[_,_,_,M,rfl,u,c])]
  show#[_,rfl,rfl,_,rfl,eQ (by rw[dt λz=>G (zU (V.str.inj z))];rfl) #[_,rfl,_,rfl,x,A.ag,A.n,A.l,A.y,A.d,_,rfl,c.dS.ins,λsl kC ef fH=>?_]];refine aiG (d:=d) SC D Y c.dS c.ok N (t5 J) G cF (fa S L.symm) E9 λH' lG cg=>ef _ H' λl ai nl s2 ax=>#[(by show 2<=sizeLine;decide),λX t=>CN Nq (bF t _ _ ax) aK #[_,rfl,dA rfl ?_]]
  have bp:=s2.trans (bF (o:=.lst [.aV true,.str (bc "ok")]) t);show#[_,_,_,_,rfl,λb o cz t e=>bp _ _ (lG b o cz t (u b o cz t e)),(c.way N J G cF (fa S L.symm) lG cg).same bp]
 rintro U i ⟨v4,UG,v6,M,rfl,u,c⟩;exact q i M u c
theorem ais(m:Nat):bc "day "++S (df m)=S (d1 [32] [Al,df m]):=by
 have a:bc "day "=S (Al++[32]):=by decide+kernel
 rw[a];simp only[mM,d1,oN]
noncomputable def Jb(m:Nat)(k:gm):c8:=#[(m:Int),[],[],[],k,[]]
theorem alr{a:bt}{ds:cC}{m:Nat}{k:gm}(G:Good a)(r:∀d∈ds,d.Ok a.length)(b:ds.length<=16)(c:m<=1000000000)(T:xV k ds.length):ir a ds 0 (Jb m k):=
 #[G,r,#[rfl,e4 _,dX b (by decide),(λ_ h=>nomatch h),T,(λ_ h=>nomatch h),(λ_ h=>nomatch h),(λ_ h=>nomatch h),e4 _],#[by show(0:Int)<=(m:Int);omega,by show(m:Int)<=1000000000+((0:Nat):Int);omega],(λ_ h=>nomatch h),(λ_ h=>nomatch h),e4 _,b,e4 _]
theorem akb{a' b':Addr}(N:hL i H n a b xs s)(M:hL i H' n a' b' j q)(g:aB H H'):a=a'/\b=b':=by obtain⟨l,d⟩:=N.ins;obtain⟨k,f⟩:=M.ins;have e:=(g _ _ d).symm.trans f;injection e with e;injection e with _ _ e;unfold Ae at e;injection e with h c;injection c with c;show#[V.ref.inj (N6 h).2,V.ref.inj (N6 c).2]
theorem V6{H:af}(N:hL e H n a b xs j)(R:gs H hs rs ds):∀p∈oF n a b rs,H p≠none:=λp c z=>by
 obtain⟨k,f⟩:=N.ins;rcases dr.mp c with rfl|c
 .rw[f]at z;cases z
 rcases dr.mp c with rfl|c
 .rw[N.jL]at z;cases z
 rcases dr.mp c with rfl|c
 .rw[N.ky]at z;cases z
 obtain⟨i,h⟩:=t2 c;obtain⟨d,_,_,g⟩:=R.get h;rw[g]at z;cases z
theorem ej.z{A:ct}{s:c8}(D:ej q C j i u H x A hs ds s):oL q C j i H x A (oF A.n A.a' A.b' A.rs) hs ds s:=#[_,D.iv,λb o e=>(GZ e).1,V6 D.iv.el D.iv.fJ]
noncomputable abbrev Jd:Stmt:=top 131
noncomputable abbrev Ej:List Str:=["_law_desk","_law_names","_law_lines","_law_first"]
theorem als:cI Ej Ej (b5 Jd):={}
inductive ZN(ay C aL aw aq:Addr)(vs:aO)(H:af)(Q:a4)(E:bY):Prop where
 |mk(ex:bL)(x an bl:Addr)(A:fU)(s:h0)(ls:bL)(m:Nat)(_:vs=[.ref x,.ref an,.ref bl,.int (m:Int)])(_:ij aL aw aq H x an bl A s ls)(_:m<=1000000000)(_:∀b∈ex,H b≠none)(_:∀b∈lL x an bl A,b∉ex)
   (e1:∀H' cy c9 ff fx hQ ao k1 k2,xA x H H'->kH ay C aL aw aq H' ex x an bl {A with d:=.ref c9} s ls cy c9 ff fx hQ ao s.hs s.ds 0 (Jb m k1) (Jb m k1) k2->Q (.ref cy) H')
theorem akc{f:Addr}{R:jU}{pH:pF}(F:cj K "_law_new_day" "_law_new_day" Jd f fd)(B:ft mg)(SC:qz K R cO cR eb pH)(wX:mg "Day"=some (.ref u))(ot:mg "Net"=some (.ref j))(kO:cu K mg "_law_said" zd qH f1 c2)(ra:aD P w K mg base a3 10 f1 c2 qH (D4 K aL g6 cs (spS K u C aL aw j eS c1 fh dW g5 R cO cR eb pH)))(Nm:lq K u kR)(rh:jc K u "Day.__init__" Ed vG kR ur)(UB:aD P w K mg base a3 5 kR ur vG (IA u C aw j))(ut:lq K j l2)(kg:jc K j "Net.__init__" w5 oP l2 ri)(rd:aD P w K mg base a3 5 l2 ri oP (Hd K j)):
  aD P w K mg base a3 11 f fd Ej (ZN u C aL aw j):=by
 refine F.ok als (λcdv i9 outer s0 H vs Q E n h=>?_);show#[_,(a6 (d8 (eN (CI n.units) (d9 ra kO n.mono b0 (ak (ae 0) (ak (bO fX cn (hC kM B.str j1 (ak (ae 3) aA))) aA))) (g7 (ak iK (ak cn aA))) (ek _)) (a7 (cd kT)) ed)
  (a7 (cd (o4 Nm UB n.mono (by rfl) wX rh.bd .nil b0 (ak (o4 ut rd n.mono (by rfl) ot kg.bd .nil b0 (ak (ae 1) (ak (ae 2) aA))) (ak (ae 3) aA)))))),?_]
 try dsimp only[cT,cS]
 obtain⟨ex,x,an,bl,A,s,y,m,rfl,O,hm,mc,x0,q⟩:=h;refine cut λdz cU=>?_;show#[_,rfl,_,rfl,(m:Int),rfl,qb (by omega),_,_,rfl,rfl,?_,?_]
 .rw[kn];exact ix 4 10 (by decide+kernel) (by rw[d6];exact lF (by omega)) (by decide)
 rw[kn,ais];show#[x,A.ag,A.n,A.l,A.y,A.d,_,rfl,O.dS.ins,λsl kC ef fH=>?_];refine aiq SC hm O.dS O.ok λacd H1 c9 fx k2 lb B4 T gX f_ aiI qM=>ef _ H1 λl ai V s2 J=>#[(by show 2<=sizeLine;decide),λdG T=>CN Nq (bF T _ _ J) aK #[_,rfl,dA rfl ?_]]
 subst cU;have bp:=s2.trans (bF (o:=.lst [.aV true,.str (bc "ok")]) T);show zG _ _ (upd ai dG (.lst [.aV true,.str (bc "ok")]));generalize upd ai dG (.lst [.aV true,.str (bc "ok")])=c at bp⊢;clear J V s2 T ai ef fH;have D:xA x H c:=λb o nb e=>bp _ _ (gX b o nb (lb _ _ e));have di:∀{b:Addr}{l:aO},H b=some (.lst l)->b≠x:=λe=>ao.eg e O.dS.ins (by intro z;cases z);have FE:∀{b:Addr}{l:aO},H b=some (.tup l)->b≠x:=λe=>ao.eg e O.dS.ins (by intro z;cases z);have aM:=D _ _ (di O.nm) O.nm;have J:=D _ _ (di O.ln) O.ln;have n:gs c s.hs y s.ds:=#[b2.fT O.a_.gz λ_ _ e=>D _ _ (FE e) e,O.a_.ok]
 have X:ij aL aw j c x an bl {A with d:=.ref c9} s y:={O with dS:=f_.same bp,nm:=aM,ln:=J,a_:=n}
 have f9:y.length<=40:=by rw[n.len];exact O.ok.c3
 show#[_,rfl,_,rfl,λk r SQ aqT SR=>?_];have L:aB c (upd (upd c r (.own k)) k (.ins j r [])):=gJ SQ (bF aqT);have c':upd (upd c r (.own k)) k (.ins j r []) k=some (.ins j r []):=aK;generalize upd (upd c r (.own k)) k (.ins j r [])=da at L c'⊢;show#[k,r,an,bl,s.hs,y,s.ds,rfl,c',L _ _ aM,O.ok.g,L _ _ J,n.same L,f9,λM a1 hB cL ah aj bZ aF c6=>#[rfl,_,rfl,λg t SJ aqS wD=>?_]];have c4:aB c M:=λb o e=>cL b o (b1 e SQ) (L _ _ e);have U:aB M (upd (upd M t (.own g)) g (.ins u t [])):=gJ SJ (bF aqS);have h7:upd (upd M t (.own g)) g (.ins u t []) g=some (.ins u t []):=aK;generalize upd (upd M t (.own g)) g (.ins u t [])=g0 at U h7⊢;have Yn:hL j g0 k a1 hB (cN s.hs) (aS y):=hL.same #[#[r,ah],aj,bZ] U;have agh:=n.same (c4.trans U);show#[g,t,k,a1,hB,s.hs,y,s.ds,(m:Int),rfl,h7,Yn,O.ok.g,agh,f9,λjv N k1 ar0 Ws hK gW ST jn=>#[rfl,?_]];have jo:aB c jv:=λb o e=>ar0 b o (b1 (c4 _ _ e) SJ) (U _ _ (c4 _ _ e));have G:∀b∈N.b9 g,c b=none:=λb a=>eU c4 ((jn b a).elim (λe=>by rw[e];exact SJ) λe=>eU U e);have Z:∀b∈fx.b9 c9,H b=none:=λb a=>eU lb (T b a);obtain⟨aR,dE⟩:=akb (a':=a1) (b':=hB) Ws.el (by rw[hK];exact Yn) (F4 _ _);have Y:oL u C aw j c c9 fx (oF A.n A.a' A.b' A.rs) s.hs s.ds (Jb m k2):=#[_,aiI.same bp,λb o e=>(GZ e).1,V6 (O.dS.d3.el.same lb).iv (O.dS.fJ.same lb).iv]
 have mC:s.ds.length<=16:=dX O.q8 (by have:=O.rk;omega);have bQ:∀b∈y,∃v,H b=some (.tup v):=λb a=>by obtain⟨i,hi⟩:=t2 a;obtain⟨d,_,_,h⟩:=O.a_.get hi;show#[_,h]
 have Uo:∀b∈A.rs,∃v,H b=some (.tup v):=λb a=>by obtain⟨i,hi⟩:=t2 a;obtain⟨d,_,_,h⟩:=O.dS.fJ.get hi;show#[_,h]
 have dZ:∀b∈oF N.n N.a' N.b' N.rs,c b=none\/b∈y:=λb a=>by
  rcases dr.mp a with e|a
  .rw[e,hK];exact .inl SQ
  rcases dr.mp a with e|a
  .rw[e,aR];exact .inl (eU L aF)
  rcases dr.mp a with e|a
  .rw[e,dE];exact .inl (eU L c6)
  rw[gW]at a;exact .inr a
 obtain⟨avU,nA⟩:=O.dS.d3.el.ins;have V:∀{p:Addr},p≠A.n->p≠A.a'->p≠A.b'->(∀v,H p≠some (.tup v))->p∉oF A.n A.a' A.b' A.rs:=λ{p}ah aj bZ c' z=>by
  rcases dr.mp z with e|z
  .exact ah e
  rcases dr.mp z with e|z
  .exact aj e
  rcases dr.mp z with e|z
  .exact bZ e
  obtain⟨v,e⟩:=Uo p z;exact c' v e
 have I:∀b∈ex,c b≠none:=λb a z=>by
  by_cases e:b=x
  .exact x0 x (.head _) (e▸a)
  cases dE:H b with
  |none=>exact mc b a dE
  |some o=>rw[D b o e dE]at z;cases z
 refine q jv g c9 N fx _ _ k1 k2 (λb o nb e=>jo _ _ (D b o nb e)) #[X.same jo,Ws.z,Y.kept λb o _ e=>jo _ _ e,alr O.ok.g O.a_.ok mC hm (ST.ok O.a_.ok),qM.ok O.a_.ok,ST.alike qM,rfl,#[λb a z=>?_,λb a z=>X.live b z (G b a)],#[λb a z=>?_,λb a z=>O.live b z (Z b a)],#[λb a z=>Y.live b z (G b a),λb a z=>?_],λb a z=>I b a (eU jo z),#[x0,λ_ h=>nomatch h],#[λb a z=>I b z (G b a),λ_ h=>nomatch h],#[λb a z=>mc b z (Z b a),λ_ h=>nomatch h]]
 .rcases hy.mp z with z|z
  .exact X.live b (CM b a) (G b z)
  rcases dZ b z with z|z
  .exact X.live b (CM b a) z
  obtain⟨v,e⟩:=bQ b z;exact O.lJ b a v e
 .rcases hy.mp z with z|z
  .exact O.live b (CM b a) (Z b z)
  refine H0 (p:=λb=>b∉oF A.n A.a' A.b' A.rs) ?_ ?_ ?_ ?_ b a z
  .exact V (ao.eg nA O.dS.ins (L7.1 _ _ _ _ _ _)).symm (ao.eg O.dS.d3.el.jL O.dS.ins (rv.1 _ _ _ _ _ _)).symm (ao.eg O.dS.d3.el.ky O.dS.ins (rv.1 _ _ _ _ _ _)).symm (O.lJ x (.head _))
  .exact V (ao.eg nA O.dS.d3.told (L7.2 _)).symm (ao.eg O.dS.d3.el.jL O.dS.d3.told (rv.2 _)).symm (ao.eg O.dS.d3.el.ky O.dS.d3.told (rv.2 _)).symm (O.lJ _ (.tail _ (.head _)))
  .exact V (ao.eg O.nm nA (by intro z;cases z)) O.gy.1.symm O.en.1.symm (O.lJ _ (.tail _ (.tail _ (.head _))))
  exact V (ao.eg O.ln nA (by intro z;cases z)) O.gy.2.symm O.en.2.symm (O.lJ _ (.tail _ (.tail _ (.tail _ (.head _)))))
 rcases hy.mp z with z|z
 .exact Y.live b (uZ b a) (G b z)
 rcases dZ b z with z|z
 .exact Y.live b (uZ b a) z
 obtain⟨v,e⟩:=bQ b z;have:=Z b a;rw[e]at this;cases this
end
end dR
namespace ao
open PySem PySem.Spec PyProof.Rows dR
section
variable{X:bH}
theorem ahj(c:Nat)(k:Nat):∀a:Array Nat,(m5 k #[c]).foldl (·++·) a=a++(m5 k c).toArray:=by
 induction k with
 |zero=>intro a;simp
 |succ k e=>
  intro a;rw[Yb,List.foldl_cons,e];apply C0.mp;simp[Yb]
theorem acI:hf X (uh .Mult) (λx y H Q=>∃(c k:Nat),x=.str (S [c])/\y=.int (k:Int)/\1<=k/\k<=100/\Q (.str (S (m5 k c))) H):=by
 intro b s U H x y v u Q I g l h;obtain⟨c,k,rfl,rfl,n,f,q⟩:=h;obtain⟨t,rfl⟩:=g;obtain⟨o,rfl⟩:=l;have m:¬((k:Int)<1):=by omega
 have a:(S [c]).length=1:=rfl;refine PySem.P.mul_str (by rw[dt (by omega),dt (by omega)];rfl) (λ_ _=>?_) (λ_ _=>?_) ?_
 .rw[a];have:(1:Int)<=(2 ^ 63-1)/(k:Int):=Int.le_ediv_of_mul_le (by omega) (by omega);omega
 .rw[a,Nat.one_mul,mZ];have:(100:Nat)<=sizeLine:=by decide
  exact dt (by omega)
 rw[bx m];by_cases e:k=1
 .subst e;rw[bS (by rfl)];show#[.str (S [c]),H,I,#[_,rfl],q]
 rw[bx (by rw[a];simp;omega),show(S [c]).cps=#[c]from rfl,mZ,ahj];have d:(⟨#[]++(m5 k c).toArray⟩:Str)=S (m5 k c):=by simp[S]
 rw[d];show#[?_,.str (S (m5 k c)),H,I.tok _,#[_,rfl],q];rw[d6,NJ];exact dX f (by decide)
end
end ao
namespace dR
open PySem ao b_ cw
theorem Yk{a:b7}{c:bt}:oq (.str (S a)) (cN c)=true↔a∈c:=by
 rw[MK];constructor
 .intro z;refine Decidable.byContradiction λy=>?_;rw[aa3 λz=>y (by obtain⟨b,d,e⟩:=cm.mp z;rw[<-zU e];exact d)]at z;cases z
 intro h;exact Xl (cm.mpr #[_,h,rfl])
theorem W'(a:bt):(cN a).all qm=true:=by rw[MK];exact U' _
theorem U8(m:b7):bc "house "++S m=S (d1 [32] [wY,m]):=by
 have a:bc "house "=S (wY++[32]):=by decide+kernel
 rw[a];simp only[mM,d1,oN]
theorem W_(a b c d:b7):bc "road "++S a++bc " "++S b++bc " "++S c++bc " "++S d=S (d1 [32] [zM,a,b,c,d]):=by
 have g:bc "road "=S (zM++[32]):=by decide+kernel
 have f:bc " "=S [32]:=by decide+kernel
 rw[g,f];simp only[mM,d1,oN]
theorem aeL(a b c:b7):bc "road "++S a++bc " "++S b++bc " "++S c++bc " 1"=S (d1 [32] [zM,a,b,c,df 1]):=by
 have e:bc " 1"=bc " "++S (df 1):=by decide+kernel
 rw[<-W_,e];exact(Str.append_assoc _ _ _).symm
theorem amD{k:Nat}(a:1<=k)(d:k<=8):m7 (m5 k 113):=#[by rw[NJ];exact a,by rw[NJ];exact d,λc b=>by rw[List.eq_of_mem_replicate b];decide]
section
variable{P:cx}{w:bf}{K:aN}{mg:cb}{base:Heap}
noncomputable abbrev Je:Stmt:=top 132
noncomputable abbrev Jf:List Str:=["_law_desk","_law_names","_law_lines","_law_n"]
theorem OH:cI ["_law_desk","_law_names","_law_lines","_law_n","_law_name","_law_row"] Jf (b5 Je):={}
inductive ZO(aL aw aq:Addr)(vs:aO)(H:af)(Q:a4)(E:bY):Prop where
 |mk(x an bl:Addr)(A:fU)(s:h0)(ls:bL)(n:Int)(_:vs=[.ref x,.ref an,.ref bl,.int n])(_:ij aL aw aq H x an bl A s ls)(_:s.hs.length<10)
   (cZ:∀H' c0 s' BP,vT (i4 x an bl A) (i4 x an bl c0) (lL x an bl A) (lL x an bl c0) H H'->ij aL aw aq H' x an bl c0 s' BP->c0.d=A.d->Q (.aV true) H')
theorem akd{f:Addr}{R:jU}{pH:pF}(F:cj K "_law_more" "_law_more" Je f fd)(B:ft mg)(SC:qz K R cO cR eb pH)(adb:m2 K g6 cs eS 0)(kO:cu K mg "_law_said" zd qH f1 c2)(ra:aD P w K mg base a3 10 f1 c2 qH (D4 K aL g6 cs (spS K ay C aL aw aq eS c1 fh dW g5 R cO cR eb pH))):
  aD P w K mg base a3 11 f fd Jf (ZO aL aw aq):=by
 refine F.ok OH (λcdv i9 outer s0 H vs Q E L h=>?_);show#[_,(a6 (dO 4 OH.aI (bO acI cn (bO jj aZ (bO h_ (ae 3) aZ))))
  (a6 (d8 (eN UQ (ae 4) (ae 1) (by rfl)) (a7 (cd (o3 (Nc L.units) (d9 ra kO L.mono b0 (ak (ae 0) (ak (bO fX cn (ae 4)) aA))) (g7 (ak cn aA)) (ek _)))) ed)
  (a6 (hj (oz t_ xO xP uR (ae 1) (ak (ae 4) aA)))
  (a6 (hj (oz t_ xO xP uR (ae 2) (ak (rE (ak (b8 eO (ae 1) aZ) (ak (ae 4) (ak (bO jj aZ (bO h_ (bO kS (ae 3) aZ) aZ)) (ak aZ aA))))) aA)))
  (a6 (d8 (eN (CI L.units) (d9 ra kO L.mono b0 (ak (ae 0) (ak (bO fX cn (ae 4)) aA))) (g7 (ak iK (ak cn aA))) (ek _)) (a7 (cd iK)) ed)
  (a6 (dO 5 OH.aI (bO fX (bO fX (bO fX (bO fX (bO fX (bO fX cn (b8 eO (ae 1) aZ)) cn) (ae 4)) cn) (hC kM B.str j1 (ak (bO jj aZ (bO h_ (bO kS (ae 3) aZ) aZ)) aA))) cn))
  (a7 (cd (o3 (Nc L.units) (d9 ra kO L.mono b0 (ak (ae 0) (ak (ae 5) aA))) (g7 (ak iK (ak (hC kM B.str j1 (ak (bO Hj (eD kN B.len jI (ak (ae 2) aA)) aZ) aA)) aA))) (ek _)))))))))),?_]
 try dsimp only[cT,cS]
 obtain⟨x,c,p,A,s,y,n,rfl,O,rk,q⟩:=h;refine cut λN D=>?_;obtain⟨k,e6,Y,yN⟩:∃k:Nat,(1+n%8)=(k:Int)/\1<=k/\k<=8:=#[(1+n%8).toNat,by omega,by omega,by omega]
 have nm:=amD Y yN;show#[_,rfl,_,_,rfl,rfl,(by show(0:Int)<8;decide),_,_,rfl,rfl,113,k,fa V.str (by decide+kernel),fa V.int e6,Y,dX yN (by decide),?_];obtain⟨m,em⟩:∃m,m=m5 k 113:=#[_,rfl]
 rw[<-em]at nm⊢;clear em;refine f3 N D λN D=>?_;have RR:=nm.2.1;have BO:(bc "house ").length+(S m).length<=sizeLine:=ix 6 8 (by decide+kernel) (by rw[d6];exact RR) (by decide);by_cases J:m∈s.hs
 .show#[_,rfl,_,rfl,c,_,rfl,.inl (aQ.of O.nm),rfl,W' _,_,rfl,eQ (Yk.mpr J) #[_,rfl,_,rfl,_,_,rfl,rfl,BO,?_]];rw[U8];show#[x,A.ag,A.n,A.l,A.y,A.d,_,rfl,O.dS.ins,λsl kC ef fH=>?_];exact ahh SC nm O.dS O.ok J λM s1=>fH eS 0 _ none M adb rfl λl T I s2 ax=>#[(by show 1<=sizeLine;decide),λX cA=>Np (.one (by decide+kernel)) (bF cA _ _ ax) aK (q _ A s y (vT.refl (s1.trans (s2.trans (bF cA)))) (O.same (s1.trans (s2.trans (bF cA)))) rfl)]
 show#[_,rfl,_,rfl,c,_,rfl,.inl (aQ.of O.nm),rfl,W' _,_,rfl,dA (r4.mpr λz=>J (Yk.mp z)) ?_];show N _ _ H;refine f3 N D λN D=>?_;have aH:cN s.hs++[.str (S m)]=cN (s.hs++[m]):=by unfold cN;rw[eK];rfl
 show#[_,rfl,.inl #[rfl,_,aQ.of O.nm],_,rfl,c,_,_,rfl,rfl,O.nm,e' (by rw[o6];omega),?_];rw[aH];refine f3 N D λN D=>?_;have ET:upd H c (.lst (cN (s.hs++[m]))) c=some (.lst (cN (s.hs++[m]))):=aK;have Y:∀b o,b≠c->H b=some o->upd H c (.lst (cN (s.hs++[m]))) b=some o:=λb o u e=>by rw[aJ u];exact e
 show gN _ _ _ _ (upd H c (.lst (cN (s.hs++[m]))));have R7:∀b,upd H c (.lst (cN (s.hs++[m]))) b=none->H b=none:=λb z=>by
  by_cases e:b=c
  .rw[e,aK]at z;cases z
  rw[aJ e]at z;exact z
 generalize upd H c (.lst (cN (s.hs++[m])))=M at ET Y R7⊢;have j3:=Y _ _ O.ne.symm O.ln;have aj:=O.aj;obtain⟨i,r0,rb⟩:∃i r0,s.hs=i::r0:=by
  cases e:s.hs with
  |nil=>rw[e]at aj;exact bG aj (by decide)
  |cons g r=>show#[g,r,rfl]
 have hM:m7 i:=O.ok.g.nm i (by rw[rb];exact .head _);have kf:ao.gT (cN (s.hs++[m])) 0=some (.str (S i)):=iH (j:=0) (by rw[rb];rfl);obtain⟨t,mE,t1,GG⟩:∃t:Nat,(1+n/8%9)=(t:Int)/\1<=t/\t<=9:=#[(1+n/8%9).toNat,by omega,by omega,by omega]
 have Fm:=O.a_.len;have Ga:=O.q8;show#[_,rfl,.inl #[rfl,_,aQ.of j3],_,rfl,c,_,_,_,rfl,rfl,aQ.of ET,kf,_,rfl,_,rfl,_,_,rfl,rfl,#[by decide,by decide],_,_,rfl,rfl,(by show(0:Int)<9;decide),_,_,rfl,rfl,(by show 4<=sizeLine;decide),λa Z=>#[p,_,_,rfl,rfl,bF Z _ _ j3,e' (by rw[fo];omega),?_]];rw[mE];have cF:([V.str (S i),V.str (S m),V.int (t:Int),V.int 1]:aO)=gY (s.hs++[m]) #[0,s.hs.length,t,1]:=by unfold gY;rw[ea,ea,Dz (cB _),Yr,rb];rfl
 have aF:aS y++[.ref a]=aS (y++[a]):=by unfold aS;rw[eK];rfl
 rw[cF,aF];have FD:a≠c:=(b1 ET Z).symm;have ť:a≠p:=(b1 j3 Z).symm;have nA:upd (upd M a (.tup (gY (s.hs++[m]) #[0,s.hs.length,t,1]))) p (.lst (aS (y++[a]))) c=some (.lst (cN (s.hs++[m]))):=by rw[aJ O.ne];exact bF Z _ _ ET
 have j4:upd (upd M a (.tup (gY (s.hs++[m]) #[0,s.hs.length,t,1]))) p (.lst (aS (y++[a]))) p=some (.lst (aS (y++[a]))):=aK;have om:upd (upd M a (.tup (gY (s.hs++[m]) #[0,s.hs.length,t,1]))) p (.lst (aS (y++[a]))) a=some (.tup (gY (s.hs++[m]) #[0,s.hs.length,t,1])):=by rw[aJ ť,aK]
 have k2:∀b o,b≠c->b≠p->H b=some o->upd (upd M a (.tup (gY (s.hs++[m]) #[0,s.hs.length,t,1]))) p (.lst (aS (y++[a]))) b=some o:=λb o cz cA e=>by rw[aJ cA];exact bF Z _ _ (Y b o cz e)
 have R8:∀b,upd (upd M a (.tup (gY (s.hs++[m]) #[0,s.hs.length,t,1]))) p (.lst (aS (y++[a]))) b=none->H b=none:=λb z=>by
  by_cases e:b=p
  .rw[e,aK]at z;cases z
  rw[aJ e]at z;exact R7 b (eU (bF Z) z)
 refine f3 N D λN D=>?_;show gN _ _ _ _ (upd (upd M a (.tup (gY (s.hs++[m]) #[0,s.hs.length,t,1]))) p (.lst (aS (y++[a]))));generalize upd (upd M a (.tup (gY (s.hs++[m]) #[0,s.hs.length,t,1]))) p (.lst (aS (y++[a])))=T at nA j4 om k2 R8⊢;clear ET Y R7 j3 FD ť cF aF aH Z;clear M;obtain⟨eV,aM⟩:=O.dS.d3.el.ins;obtain⟨bh,b6⟩:=O.dS.d3.ins;have I:∀{b:Addr}{o:gQ},H b=some o->(∀l,o≠.lst l)->b≠c/\b≠p:=λe h=>#[ao.eg e O.nm (h _),ao.eg e O.ln (h _)]
 have Ĺ:∀b∈[x,A.n,A.y,A.t,A.a',A.b',A.l],b≠c/\b≠p:=λb aa=>by
  simp only[dr,e3,or_false]at aa;rcases aa with rfl|rfl|rfl|rfl|rfl|rfl|rfl
  .exact I O.dS.ins (λ_=>nofun)
  .exact I aM (λ_=>nofun)
  .exact I b6 (λ_=>nofun)
  .exact I O.dS.d3.told (λ_=>nofun)
  .exact O.gy
  .exact O.en
  exact O.k7
 have ac7:Kept [x,A.n,A.y,A.t,A.a',A.b',A.l] H T:=λb o z e=>by
  rcases z with z|⟨v,rfl⟩
  .exact k2 b o (Ĺ b z).1 (Ĺ b z).2 e
  exact k2 b _ (I e (λ_=>nofun)).1 (I e (λ_=>nofun)).2 e
 have f_:=O.dS.kept O.qe ac7 λ_ h=>h;show#[_,rfl,_,rfl,_,_,rfl,rfl,BO,?_];rw[U8];show#[x,A.ag,A.n,A.l,A.y,A.d,_,rfl,f_.ins,λsl kC ef fH=>?_];refine Wm SC nm f_ O.ok J (by omega) λbz CZ y1 Ļ hx=>ef _ bz λl da KU cc l5=>#[(by show 2<=sizeLine;decide),λX pa=>CN Nq (bF pa _ _ l5) aK #[_,rfl,dA rfl ?_]]
 have c4:=cc.trans (bF (o:=.lst [.aV true,.str (bc "ok")]) pa);show N _ _ (upd da X (.lst [.aV true,.str (bc "ok")]));generalize upd da X (.lst [.aV true,.str (bc "ok")])=bK at c4⊢;clear l5 KU cc pa ef fH;clear da;have HM:=hx.same c4;have Fg:xA x T bK:=λb o u e=>c4 _ _ (Ļ b o u e);clear Ļ hx;have di:∀{b:Addr}{l:aO},T b=some (.lst l)->b≠x:=λe=>ao.eg e f_.ins (by intro z;cases z);have FE:∀{b:Addr}{l:aO},T b=some (.tup l)->b≠x:=λe=>ao.eg e f_.ins (by intro z;cases z);have apv:=Fg _ _ (di nA) nA;have Ğ:=Fg _ _ (di j4) j4;have Rh:=Fg _ _ (FE om) om;have aqy:∀b,bK b=none->T b=none:=λb z=>by
  by_cases e:b=x
  .rw[e,HM.ins]at z;cases z
  cases dE:T b with
  |none=>rfl
  |some o=>rw[Fg b o e dE]at z;cases z
 have DQ:oM #[s.hs++[m],s.ds,s.bB,lI s.bj]:=#[aa9 O.ok.g nm J (by omega),O.ok.c3,qy.perm #[O.ok.bj.aI,O.ok.bj.c3,λr L=>(O.ok.bj.ok r L).yp O.a_.ok [m]] (BJ s.bj)]
 refine f3 N D λN D=>?_;have dZ:(bc "road "++S i).length<=13:=k4 (k:=5) (m:=8) (by decide+kernel) (by rw[d6];exact hM.2.1) rfl;have X:(bc "road "++S i++bc " ").length<=14:=k4 (k:=13) (m:=1) dZ (by decide+kernel) rfl;have i1:(bc "road "++S i++bc " "++S m).length<=22:=k4 (k:=14) (m:=8) X (by rw[d6];exact RR) rfl;have jN:(bc "road "++S i++bc " "++S m++bc " ").length<=23:=k4 (k:=22) (m:=1) i1 (by decide+kernel) rfl;have Bz:(bc "road "++S i++bc " "++S m++bc " "++S (df t)).length<=33:=k4 (k:=23) (m:=10) jN (by rw[d6];exact lF (by omega)) rfl;show#[_,rfl,c,_,_,_,rfl,rfl,aQ.of apv,kf,_,_,rfl,rfl,ix 5 8 (by decide+kernel) (by rw[d6];exact hM.2.1) (by decide),_,_,rfl,rfl,ix 13 1 dZ (by decide+kernel) (by decide),_,rfl,_,_,rfl,rfl,ix 14 8 X (by rw[d6];exact RR) (by decide),_,_,rfl,rfl,ix 22 1 i1 (by decide+kernel) (by decide),_,rfl,_,_,rfl,rfl,#[by decide,by decide],_,_,rfl,rfl,(by show(0:Int)<9;decide),_,_,rfl,rfl,_,rfl,?_,_,_,rfl,rfl,?_,_,_,rfl,rfl,?_,?_]
 .rw[mE];exact qb (by omega)
 .rw[mE,kn];exact ix 23 10 jN (by rw[d6];exact lF (by omega)) (by decide)
 .rw[mE,kn];exact ix 33 2 Bz (by decide+kernel) (by decide)
 rw[mE,kn,aeL];subst D;have p2:cw.fD.Ok #[0,s.hs.length,t,1] (s.hs++[m]).length:=by rw[eM];show#[by show 0<s.hs.length+1;omega,by show s.hs.length<s.hs.length+1;omega,by show 0≠s.hs.length;omega,#[by show(1:Int)<=(t:Int);omega,by show(t:Int)<=9;omega],#[vy 1,show(1:Int)<=1000000000 by decide]]
 have ly:pC (S i) (S m) t 1=gY (s.hs++[m]) #[0,s.hs.length,t,1]:=by unfold gY;rw[ea,ea,Dz (cB _),Yr,rb];rfl
 show#[_,rfl,_,rfl,x,CZ.ag,CZ.n,CZ.l,CZ.y,CZ.d,_,rfl,HM.ins,λsl kC ef fH=>?_];refine W7 (d:=#[0,s.hs.length,t,1]) SC hM nm HM DQ p2 (by show s.ds.length<40;omega) ly (by omega) (by decide) λg0 abe y2 ļ abI=>ef _ g0 λl jv axV jo apn=>?_;have ark:∀{b:Addr}{l:aO},bK b=some (.lst l)->b≠x:=λe=>ao.eg e HM.ins (by intro z;cases z);have Q0:=jo _ _ (ļ _ _ (ark Ğ) Ğ);have gV:((aS (y++[a])).length:Int)-1=((s.ds.length:Nat):Int):=by rw[fo,eM];show((y.length+1:Nat):Int)-1=_;omega
 show#[_,rfl,p,_,rfl,.inl (aQ.of Q0),_,_,rfl,rfl,_,rfl,?_,(by show 2<=sizeLine;decide),λX pa=>?_]
 .rw[gV];exact qb (by omega)
 rw[gV,kn];refine Np (.two (OG s.ds.length)) (bF pa _ _ apn) aK ?_;have ic:=jo.trans (bF (o:=.lst [.aV true,.str (S (df s.ds.length))]) pa);have Wt:=abI.same ic;generalize upd jv X (.lst [.aV true,.str (S (df s.ds.length))])=hH at ic Wt⊢;have Fh:∀b o,b≠x->T b=some o->hH b=some o:=λb o u e=>ic _ _ (ļ b o u (Fg b o u e));have ch:∀{G gD U:Addr},(G=gD\/bK G=none)->(gD=U\/T gD=none)->G=U\/H G=none:=λ{G gD U}h7 bZ=>by
  rcases h7 with rfl|h7
  .exact bZ.imp id λz=>R8 _ z
  exact .inr (R8 _ (aqy _ h7))
 have pp:∀{G U:Addr},(G=U\/H G=none)->U≠c/\U≠p->G≠c/\G≠p:=λ{G U}h n=>by
  rcases h with rfl|h
  .exact n
  show#[(b1 O.nm h).symm,(b1 O.ln h).symm]
 have anD:=ch y2.n y1.n;have anG:=ch y2.y y1.y;have fv:=ch y2.t y1.t;have ca:=ch y2.a y1.a;have Ë:=ch y2.b y1.b;have cl:=ch y2.l y1.l;have bC:(s.hs++[m]).take 2=s.hs.take 2:=List.take_append_of_le_length aj;refine q hH abe #[s.hs++[m],s.ds++[#[0,s.hs.length,t,1]],s.bB,lI (lI s.bj)] (y++[a]) #[λb o u e=>?_,ZA (.inl (.head _)) ?_ ?_ ?_ ?_ ?_ ?_ (.inl ?_) (.inl ?_),H0 (.inl (.head _)) ?_ (.inl ?_) (.inl ?_)] #[Wt,?_,λr L=>?_,Fh _ _ (di nA) nA,Fh _ _ (di j4) j4,?_,?_,?_,?_,O.qe,O.ne,pp ca O.gy,pp Ë O.en,pp cl O.k7] (y2.d.trans y1.d)
 .unfold lL at u;simp only[dr,e3,or_false,not_or]at u;exact Fh b o u.1 (k2 b o u.2.2.1 u.2.2.2 e)
 .exact anD.imp (λe=>by rw[e];unfold i4;simp) id
 .exact anG.imp (λe=>by rw[e];unfold i4;simp) id
 .exact fv.imp (λe=>by rw[e];unfold i4;simp) id
 .exact ca.imp (λe=>by rw[e];unfold i4;simp) id
 .exact Ë.imp (λe=>by rw[e];unfold i4;simp) id
 .exact cl.imp (λe=>by rw[e];unfold i4;simp) id
 .unfold i4;simp
 .unfold i4;simp
 .exact fv.imp (λe=>by rw[e];unfold lL;simp) id
 .unfold lL;simp
 .unfold lL;simp
 .show#[DQ.g,by rw[eM];show s.ds.length+1<=40;omega,qy.perm #[DQ.bj.aI,DQ.bj.c3,λr L=>(DQ.bj.ok r L).ø [#[0,s.hs.length,t,1]]] (BJ _)]
 .show r.2.1∈((s.hs++[m]).take 2).map S;rw[bC];exact O.ez r ((BJ _).mem_iff.mp ((BJ _).mem_iff.mp L))
 .show#[?_,λe he=>?_]
  .rw[eK];have g:eE hH y (s.ds.map (gY (s.hs++[m]))):=b2.fT (O.a_.yp [m]).gz λb v e=>Fh _ _ (FE (k2 b _ (I e (λ_=>nofun)).1 (I e (λ_=>nofun)).2 e)) (k2 b _ (I e (λ_=>nofun)).1 (I e (λ_=>nofun)).2 e);exact g.snoc (Fh _ _ (FE om) om)
  rcases hy.mp he with h|h
  .exact(O.a_.yp [m]).ok e h
  rw[gp.mp h];exact p2
 .rw[eM];exact dX aj (NQ ..)
 .rw[eM];exact rk
 rw[eM,eM];show s.ds.length+1<=s.hs.length+1+6;omega
theorem yQ{a b:Str}(d:lr a=true)(c:lr b=true):lr (a++b)=true:=by have e:(a++b).cps=a.cps++b.cps:=rfl;unfold lr at d c⊢;rw[e,Array.all_append,d,c];rfl
theorem Ho{i:Int}(h:0<=i):lr (bc (toString i))=true:=by obtain⟨m,rfl⟩:=xr h;show lr (bc (toString ((m:Nat):Int)))=true;rw[kn];exact OG m
theorem ZB{y:b7}{a:bt}(f:∀c∈y,c<256)(h:∀p∈a,∀c∈p,c<256):∀c∈d1 y a,c<256:=λc d=>(Ni d).elim (f c) λ⟨p,b,z⟩=>h p b c z
theorem OI{m:Nat}:∀c∈df m,c<256:=λc a=>by have:=CS a;omega
theorem M3(f:List r3):lr (S (zZ f))=true:=by
 refine M1 (ZB (by decide) λp a=>?_);obtain⟨b,_,rfl⟩:=cm.mp a;intro c d;unfold rY at d;simp only[hy]at d;rcases d with(((h|h)|h)|h)|h
 .exact OI c h
 .exact(by decide:∀c∈[32],c<256) c h
 .exact OI c h
 .exact(by decide:∀c∈[58,32],c<256) c h
 refine ZB (by decide) (λp a=>?_) c h;obtain⟨n,_,rfl⟩:=cm.mp a;exact OI
theorem aio(G:Good hs){a:List Step}(h:∀s∈a,An hs s){t:Int}:lr (ID (spotOf a y t))=true:=by
 unfold spotOf;cases e:(a.filter λs=>decide (s.left<=t)).getLast? with
 |none=>exact(by decide+kernel:lr Fl=true)
 |some s=>
  have k:=h s (g4.mp (adA e)).1;have f:=k.l;have g:=k.d;show lr (ID (zL s y t))=true;unfold zL;split
  .cases i:s.AP with
   |none=>exact(by decide+kernel:lr Fl=true)
   |some r=>exact yQ (yQ (yQ (by decide+kernel) (Ho (k.r r i).1)) (by decide+kernel)) (Ho (by omega))
  split
  .exact yQ (by decide+kernel) (Ho (by omega))
  refine yQ (yQ (yQ (by decide+kernel) ?_) (by decide+kernel)) (Ho (by omega));obtain⟨z,b,e⟩:=cm.mp k.h;rw[<-e];exact M1 λc d=>by have:=(G.nm z b).2.2 c d;omega
theorem iA.br{s b:c8}{n k:Nat}{d:ei}{a:aO}(r:iA hs ds s h g n d a b)(D:ir hs ds k s):xb a:=by
 cases r with
 |Cc=>exact .two (OG _)
 |FW=>exact .one (by decide+kernel)
 |pass=>exact .two (M3 _)
 |turn=>exact .two (Ho D.p.1)
 |GC z=>exact .two (aio D.g (D.st _ (fC (y_ (d:=[]) (by rw[D.o.len];exact z)))))
 |GB=>exact .one (by decide+kernel)
 |Cp=>exact .two (by decide+kernel)
 |Gz=>exact .one (by decide+kernel)
 |Cf=>exact .two (by decide+kernel)
 |Gj=>exact .one (by decide+kernel)
 |log=>exact .two (M3 _)
theorem OJ:kK (m5 9 122):=#[by decide,by decide,by decide,by decide]
theorem ahk{a:bt}(G:Good a){j:Int}(c:0<=j)(d:j<a.length+1):∃h,kK h/\ao.gT (cN a++[.str (bc "zzzzzzzzz")]) j=some (.str (S h)):=by
 obtain⟨m,rfl⟩:=xr c;by_cases b:m<a.length
 .show#[a[m],mP (G.nm _ (m3 _)),iH ?_];rw[Iu (by rw[o6];exact b)];unfold cN;rw[dV,dw b];rfl
 show#[_,OJ,iH ?_];rw[Dz (by rw[o6];omega),o6,show m-a.length=0 by omega];show some (V.str (bc "zzzzzzzzz"))=some (V.str (S (m5 9 122)));exact fa (λz=>some (V.str z)) (by decide+kernel)
set_option maxHeartbeats 8000000
noncomputable abbrev Am:Stmt:=top 134
noncomputable abbrev ake:List Str:=["_law_script","_law_desk","_law_names","_law_cells","_law_lines","_law_first","_law_name","_law_line","_law_words","_law_what","_law_day","_law_cell","_law_n","_law_house","_law_number","_law_goal","_law_due_here"]
theorem kY:cI ake ["_law_script"] (b5 Am):={}
structure D6(K:aN)(a0:Addr)(pn:aO)(aL aw aq:Addr)(H:af)(x an bl:Addr)(A:fU)(s:h0)(hs:bt)(ls:bL)(ds:cC):Prop where
 dS:g8 aL aw aq H x A s
 ok:oM s
 nm:H an=some (.lst (cN hs))
 ln:H bl=some (.lst (aS ls))
 a_:gs H hs ls ds
 gy:A.a'≠an/\A.a'≠bl
 en:A.b'≠an/\A.b'≠bl
 k7:A.l≠an/\A.l≠bl
 fp:A.d=.b3
 qr:aQ K H a0 pn
theorem OK{K:aN}{A:fU}{s:h0}(D:g8 j u q H x A s)(k:z6 x A.t H H')(h:aQ K H e i):aQ K H' e i:=by
 rcases h with(h|⟨o,h⟩)|h
 .exact .inl (.inl (k _ _ (ao.eg h D.ins (by intro z;cases z)) (ao.eg h D.d3.told (by intro z;cases z)) h))
 .exact .inl (.inr #[o,k _ _ (ao.eg h D.ins (by intro z;cases z)) (ao.eg h D.d3.told (by intro z;cases z)) h])
 exact .inr h
theorem D6.step{K:aN}{A f:fU}{s s':h0}(a:D6 K i C q B u H x an j A s hs ls ds)(d:vO H A f)(g:xA x H H')(D:g8 q B u H' x f s')(ok:oM s'):D6 K i C q B u H' x an j f s' hs ls ds:=by
 have k:∀{c i:Addr},(c=i\/H c=none)->i≠an/\i≠j->c≠an/\c≠j:=λ{c i}h n=>by
  rcases h with rfl|h
  .exact n
  show#[(b1 a.nm h).symm,(b1 a.ln h).symm]
 have m:∀{b:Addr}{l:aO},H b=some (.lst l)->H' b=some (.lst l):=λe=>g _ _ (ao.eg e a.dS.ins (by intro z;cases z)) e;show#[D,ok,m a.nm,m a.ln,#[b2.fT a.a_.gz λ_ _ e=>g _ _ (ao.eg e a.dS.ins (by intro z;cases z)) e,a.a_.ok],k d.a a.gy,k d.b a.en,k d.l a.k7,d.d.trans a.fp,OK a.dS (λb o p _ e=>g b o p e) a.qr]
theorem V7:lI []=[]:=List.perm_nil.mp (BJ [])
theorem Un(a:bt)(ds:cC):qy a ds []:=#[sd,Nat.zero_lt_succ _,λ_ z=>bG z e3]
theorem V8{a:bt}(G:Good a)(j:Nat):Good (a.take j):=#[λx b=>G.nm x (t5 b),(DD j a).nodup G.aI,by rw[ll];exact dX (DP ..) G.c3]
theorem U9{a:Type}{l:List a}{j:Nat}{x:a}(e:l[j]?=some x):l.take j++[x]=l.take (j+1):=by rw[pO,e];rfl
inductive acL(K:aN)(pn:aO)(aL aw aq:Addr)(a x an fl bl:Addr)(hT:Nat)(hs:bt)(ls:bL)(ds:cC)(j:Nat)(U:ao.St)(H:af):Prop where
 |mk(A:fU)(v6:lY)(_:U=[some (.ref a),some (.ref x),some (.ref an),some (.ref fl),some (.ref bl),some (.int hT),v6,none,none,none,none,none,none,none,none,none,none])(_:D6 K a pn aL aw aq H x an bl A ⟨hs.take j,[],[],[]⟩ hs ls ds)
inductive acM(K:aN)(pn:aO)(aL aw aq:Addr)(a x an fl bl:Addr)(hT:Nat)(hs:bt)(ls:bL)(ds:cC)(j:Nat)(U:ao.St)(H:af):Prop where
 |mk(A:fU)(v6 jQ:lY)(_:U=[some (.ref a),some (.ref x),some (.ref an),some (.ref fl),some (.ref bl),some (.int hT),v6,jQ,none,none,none,none,none,none,none,none,none])(_:D6 K a pn aL aw aq H x an bl A ⟨hs,ds.take j,[],[]⟩ hs ls ds)
noncomputable def anO:List ei:=[.pass,.post,.pass,.post,.jq,.post,.pass,.lR,.lO,.turn,.log,.jq]
noncomputable def oS:List ao.V:=anO.map λk=>.str (S k.w)
theorem XU{j:Nat}(e:oS[j]?=some v):∃k:ei,v=.str (S k.w):=by unfold oS at e;rw[dV]at e;obtain⟨k,_,rfl⟩:=gS.mp e;show#[k,rfl]
inductive acN(a x an fl bl gU:Addr)(hT:Nat)(iC:af)(_:Nat)(U:ao.St)(H:af):Prop where
 |mk(v6 jQ rT:lY)(_:U=[some (.ref a),some (.ref x),some (.ref an),some (.ref fl),some (.ref bl),some (.int hT),v6,jQ,some (.ref gU),rT,none,none,none,none,none,none,none])(_:aB iC H)
theorem akf{j:Int}(b:0<=j)(c:j<12):∃k:ei,ao.gT oS j=some (.str (S k.w)):=by
 obtain⟨m,rfl⟩:=xr b;have a:m<oS.length:=by show m<12;omega
 obtain⟨k,e⟩:=XU (dw a);show#[k,iH (by rw[dw a,e])]
inductive xB(ay C aL aw aq:Addr)(x an bl gU ps:Addr)(cells:aO)(cy:Addr)(k:Nat)(H:af):Prop where
 |mk(A:fU)(s:h0)(ls:bL)(c9:Addr)(ff fx:ct)(hQ ao:bL)(hs:bt)(ds:cC)(eF:c8)(eY:gm)(_:kH ay C aL aw aq H [ps,gU] x an bl A s ls cy c9 ff fx hQ ao hs ds k eF eF eY)(_:H ps=some (.lst cells))(_:H gU=some (.lst oS))
inductive acH(ay C aL aw aq:Addr)(a x an fl bl gU ps:Addr)(hT:Nat)(cells:aO)(j:Nat)(U:ao.St)(H:af):Prop where
 |mk(v6 jQ rT v11 UC UD UE w2 w3:lY)(cy:Addr)(k:Nat)(_:U=[some (.ref a),some (.ref x),some (.ref an),some (.ref fl),some (.ref bl),some (.int hT),v6,jQ,some (.ref gU),rT,some (.ref cy),v11,UC,UD,UE,w2,w3])(_:k<=j)(_:xB ay C aL aw aq x an bl gU ps cells cy k H)
theorem xB.same{k:Nat}(X:xB q C e j i x an u B D cells cy k H)(a:aB H H'):xB q C e j i x an u B D cells cy k H':=by obtain⟨A,s,o,d,h,l,m,ao,n,ds,f,g,L,b,c⟩:=X;show#[A,s,o,d,h,l,m,ao,n,ds,f,g,L.same a,a _ _ b,a _ _ c]
noncomputable abbrev ma(a x b g f k:Addr)(l:Nat)(r m:lY)(o:ei)(d:Addr)(c n:Int)(h:b7)(p:Nat)(t y:lY):ao.St:=[some (.ref a),some (.ref x),some (.ref b),some (.ref g),some (.ref f),some (.int l),r,m,some (.ref k),some (.str (S o.w)),some (.ref d),some (.int c),some (.int n),some (.str (S h)),some (.int (p:Int)),t,y]
seal hg bA h2 h8
theorem akg{f:Addr}{R:jU}{pH:pF}(F:cj K "law" "law" Am f fd)(B:ft mg)(SC:qz K R cO cR eb pH)(Nz:m2 K g6 Jy c1 3)(NA:m2 K g6 Jy dW 2)(ada:m2 K g6 Jy g5 10)(G1:mg "Desk"=some (.ref aL))(kk:dM K aL)(fj:dM K ay)(aip:lq K aL kR)(yJ:jc K aL "Desk.__init__" Lp cG kR ur)(ack:aD P w K mg base a3 7 kR ur cG (ω aL aw aq))(sz:cu K mg "_law_cell_at" Ln z_ jY aoe)(E8:aD P w K mg base a3 1 jY aoe z_ (φ K))(Bl:cu K mg "_law_houses" L0 DH aol aof)(atw:aD P w K mg base a3 1 aol aof DH V')(Bp:cu K mg "_law_road" IS xE gi aog)(acm:aD P w K mg base a3 1 gi aog xE Z4)(oa:cH K aL "say" "Desk.say" Ah qG f1 c2)(Lh:aD P w K mg base (iz P w) 9 f1 c2 qG (spS K ay C aL aw aq eS c1 fh dW g5 R cO cR eb pH))(kO:cu K mg "_law_said" zd qH f2 eW)(ra:aD P w K mg base a3 10 f2 eW qH (D4 K aL g6 Jy (spS K ay C aL aw aq eS c1 fh dW g5 R cO cR eb pH)))(yK:cu K mg "_law_text" Jk Ei cP jZ)(aa0:aD P w K mg base a3 1 cP jZ Ei ZI)(x6:cu K mg "_law_ways_told" I_ Ja f4 yj)(Ŵ:aD P w K mg base a3 11 f4 yj Ja (ZM aL aw aq))(yi:cu K mg "_law_new_day" Jd Ej fz Ez)(aaa:aD P w K mg base a3 11 fz Ez Ej (ZN ay C aL aw aq))(Bq:cu K mg "_law_more" Je Jf Ey EA)(acn:aD P w K mg base a3 11 Ey EA Jf (ZO aL aw aq))(BN:cu K mg "_law_due" Jm tF PN PV)(acJ:aD P w K mg base a3 8 PN PV tF (ZL ay C aw aq))(nk:cH K ay "log" "Day.log" Av cG f8 PW)(F8:aD P w K mg base a3 1 f8 PW cG (Dg ay C aw aq))(mz:cu K mg "show_plan" xv pQ JJ aoc)(wm:aD P w K mg base a3 2 JJ aoc pQ (Dq K)):
  aD P w K mg base a3 12 f fd ["_law_script"] (H_ K):=by
 refine F.ok kY (λcdv i9 outer s0 H vs Q E Y h=>?_);show#[_,(a6 (dO 1 kY.aI (afc aip ack Y.mono (by rfl) G1 yJ.bd .nil b0))
  (a6 (dO 2 kY.aI (d9 atw Bl Y.mono b0 (ak (d9 E8 sz Y.mono b0 (ak (ae 0) (ak aZ aA))) (ak (bO jj aZ (bO h_ (d9 E8 sz Y.mono b0 (ak (ae 0) (ak aZ aA))) aZ)) aA))))
  (a6 (wA (i:=3) kY.aI rfl rfl rfl (N':=["_law_k","_law_script"]) (cs:=[none,some 0]) rfl (FQ rfl B.range (ak (bO jj aZ (bO h_ (bO kS (d9 E8 sz Y.mono b0 (ak (ae 0) (ak aZ aA))) aZ) aZ)) aA)) rfl (by decide+kernel) rfl (by decide+kernel) (lE (eA.mpr #[rfl,(λp aG=>bG aG (e3))])) rfl
   (.own (.p0 rfl (.inl rfl) (.inl rfl) rfl .nil))
   (λC bp bz dc fA=>#[(fG 0 (by show(["_law_k","_law_script"]:cK).Nodup;decide+kernel)),o5,(bO jj (d9 E8 sz Y.mono b0 (ak (ae 1) (ak (bO jj aZ (ae 0)) aA))) (bO wO (bO wO aZ (ae 0)) (ae 0)))]))
  (a6 (wA (i:=4) kY.aI rfl rfl rfl (N':=xE) (cs:=[none,some 2]) rfl (jE (ae 3)) rfl (by decide+kernel) rfl (by decide+kernel) (lE (eA.mpr #[rfl,(λp aG=>bG aG (e3))])) rfl
   (.own (.p0 rfl (.inl rfl) (.inl rfl) rfl .nil))
   (λC bp bz dc fA=>#[(fG 0 (by show(xE:cK).Nodup;decide+kernel)),o5,(d9 acm Bp Y.mono b0 (ak (ae 0) (ak (ae 1) aA)))]))
  (a6 (dO 5 kY.aI (bO h_ (d9 E8 sz Y.mono b0 (ak (ae 0) (ak aZ aA))) (bO jj (bO YD aZ aZ) aZ)))
  (a6 (lD lW rfl (jE (ae 2)) (fG 6 kY.aI)
   (a7 (hj (fy (ae 1) kk oa.dQ Lh Y.mono oa.bd .nil Z1 (ak (bO fX cn (ae 6)) aA)))))
  (a6 (lD lW rfl (jE (ae 4)) (fG 7 kY.aI)
   (a7 (hj (fy (ae 1) kk oa.dQ Lh Y.mono oa.bd .nil Z1 (ak (bO fX (bO fX (bO fX (bO fX (bO fX (bO fX (bO fX cn (b8 eH (ae 7) aZ)) cn) (b8 eH (ae 7) aZ)) cn) (hC kM B.str j1 (ak (b8 eH (ae 7) aZ) aA))) cn) (hC kM B.str j1 (ak (b8 eH (ae 7) aZ) aA))) aA)))))
  (a6 (dO 8 kY.aI (g7 (ak cn (ak cn (ak cn (ak cn (ak cn (ak cn (ak cn (ak cn (ak cn (ak cn (ak cn (ak cn aA))))))))))))))
  (a6 (lD lW rfl (jE (ae 8)) (fG 9 kY.aI)
   (a7 (d8 (eN (CI Y.units) (d9 ra kO Y.mono b0 (ak (ae 1) (ak (d9 aa0 yK Y.mono b0 (ak (ae 9) (ak (b8 eO (ae 2) aZ) (ak (b8 eO (ae 2) aZ) (ak aZ aA))))) aA))) (g7 (ak cn aA)) (ek _)) (a7 (cd iK)) ed)))
  (a6 (d8 (kJ.pt (CG (eN zI (bO h_ (ae 5) aZ) aZ (ek _)) (GN (j0 (kU (d9 Ŵ x6 Y.mono b0 (ak (ae 1) (ak (ae 2) (ak (ae 4) (ak (bO kS (ae 5) aZ) aA)))))))))) (a7 (cd iK)) ed)
  (a6 (dO 10 kY.aI (d9 aaa yi Y.mono b0 (ak (ae 1) (ak (ae 2) (ak (ae 4) (ak (ae 5) aA))))))
  (a6 (lD lW rfl (jE (LU MG (ae 0) (GQ aZ) (GQ aZ))) (fG 11 kY.aI)
   (a6 (dO 12 kY.aI (bO h_ (bO wO (ae 11) aZ) aZ))
  (a6 (dO 9 kY.aI (b8 eO (ae 8) (bO h_ (ae 12) aZ)))
  (a6 (dO 13 kY.aI (b8 eO (bO ul (ae 2) (g7 (ak cn aA))) (bO h_ (bO kS (ae 12) aZ) (bO jj (eD kN B.len jI (ak (ae 2) aA)) aZ))))
  (a6 (dO 14 kY.aI (bO h_ (bO kS (ae 12) aZ) aZ))
  (a6 (d8 (kJ.pt (CG (eN kV (bO h_ (bO kS (ae 12) aZ) aZ) aZ (ek _)) (CG (eN zR (eD kN B.len jI (ak (ae 2) aA)) aZ (ek _)) (GN (j0 (kU (d9 acn Bq Y.mono b0 (ak (ae 1) (ak (ae 2) (ak (ae 4) (ak (bO kS (ae 12) aZ) aA))))))))))) (a7 (cd iK)) ed)
  (a6 (d8 (kJ.pt (CG (eN kV (bO h_ (bO kS (ae 12) aZ) aZ) aZ (ek _)) (GN (j0 (kU (d9 Ŵ x6 Y.mono b0 (ak (ae 1) (ak (ae 2) (ak (ae 4) (ak (bO kS (ae 12) aZ) aA)))))))))) (a7 (cd iK)) ed)
  (a6 (d8 (eN kV (bO h_ (bO kS (ae 12) aZ) aZ) aZ (ek _)) (a7 (dO 10 kY.aI (d9 aaa yi Y.mono b0 (ak (ae 1) (ak (ae 2) (ak (ae 4) (ak (ae 5) aA))))))) ed)
  (a6 (d8 (eN zt (ae 10) kT (ek _)) (a7 (cd iK)) ed)
  (a6 (dO 15 kY.aI (b8 eO (ae 2) (bO h_ (bO kS (ae 12) aZ) aZ)))
  (a6 (dO 16 kY.aI (d9 acJ BN Y.mono b0 (ak (ae 10) (ak (ae 9) (ak (ae 13) (ak (ae 15) (ak (ae 14) aA)))))))
  (a7 (d8 (eN (CI Y.units) (d9 ra kO Y.mono b0 (ak (ae 1) (ak (d9 aa0 yK Y.mono b0 (ak (ae 9) (ak (ae 13) (ak (ae 15) (ak (ae 14) aA))))) aA))) (ae 16) (ek _)) (a7 (cd iK)) ed)))))))))))))
  (a7 (cd (o9 (o3 Mu (ae 10) kT (ek _)) (ta (o3 (Nc Y.units) (d9 ra kO Y.mono b0 (ak (ae 1) (ak cn aA))) (g7 (ak iK (ak (d9 wm mz Y.mono b0 (ak (iG (ae 10) fj nk.dQ F8 Y.mono nk.bd .nil b0) aA)) aA))) (ek _)))))))))))))))))),?_]
 try dsimp only[cT,cS]
 refine cut λdz T=>?_;obtain⟨a,u,rfl,gE,EV,q⟩:=h
 refineλx ag di KQ arl=>#[x,ag,rfl,aK,λiC A anV Es aqI k0 xd=>#[rfl,?_]]
 have s0:aB H iC:=λb o e=>k0 b o (b1 e di) ((gJ di (bF KQ)) _ _ e);have sJ:=s0.seq gE;clear k0 aqI anV gE s0;refine f3 dz T λdz T=>?_;obtain⟨m,hm⟩:∃m:Nat,2+u.getD (1:Int).toNat 0%5=(m:Int):=#[(2+u.getD (1:Int).toNat 0%5).toNat,by omega]
 have axn:2<=m/\m<=6:=by omega
 obtain⟨M,JF⟩:∃M,M=uU (u.getD (0:Int).toNat 0) m:=#[_,rfl]
 have G:Good M:=by rw[JF];exact abz (by omega)
 have ax:M.length=m:=by rw[JF,TK]
 show#[_,rfl,a,u,0,rfl,sJ,by decide,_,rfl,a,u,1,rfl,sJ,by decide,_,_,rfl,rfl,(by show(0:Int)<5;decide),_,_,rfl,rfl,u.getD (0:Int).toNat 0,m,?_,by omega,λI H1 nan s1 ah=>?_]
 .show[V.int _,V.int (2+u.getD (1:Int).toNat 0%5)]=_;rw[hm]
 rw[<-JF]at ah;have uD:=s1.seq sJ;have hv:=xd.same s1;have Fq:iC I=none:=nan;refine f3 dz T λdz T=>?_;obtain⟨qj,apu⟩:∃qj:Nat,1+u.getD (1:Int).toNat 0/5%8=(qj:Int):=#[(1+u.getD (1:Int).toNat 0/5%8).toNat,by omega]
 have axO:qj<=8:=by omega
 obtain⟨cl,Þ⟩:∃cl:Nat->Int,cl=λi:Nat=>u.getD (3+(i:Int)).toNat 0+31*(i:Int)*(i:Int):=#[_,rfl]
 dsimp only[gN,vm,iL];refine MD (J:=vA 0 qj) (H1:=H1) (xs:=(eB qj).map λi:Nat=>V.int (0+(i:Int))) (rest:=[some (.ref a)]) (λR h=>#[_,rfl,a,u,1,rfl,uD,by decide,_,_,rfl,rfl,#[by decide,by decide],_,_,rfl,rfl,(by show(0:Int)<8;decide),_,_,rfl,rfl,_,rfl,?_,?_,?_]) rfl (WA 0 qj) (e' (by simp;omega)) (λi=>.int (cl i)) (λi v ai R ev au k=>?_) (λfl ai aqK Ba gO=>?_)
 .show -2 ^ 62<=1+u.getD (1:Int).toNat 0/5%8;omega
 .show 1+u.getD (1:Int).toNat 0/5%8<2 ^ 62;omega
 .show R (vA 0 (1+u.getD (1:Int).toNat 0/5%8).toNat) H1;rw[apu,mZ];exact h
 .have hi:i<qj/\v=.int (0+(i:Int)):=by rw[dV]at ev;obtain⟨j,gh,rfl⟩:=gS.mp ev;obtain⟨yr,wa⟩:=gn.mp gh;rw[Iv]at wa;subst wa;rw[oO]at yr;show#[yr,rfl]
  obtain⟨hi,rfl⟩:=hi;show#[_,rfl,_,rfl,_,_,rfl,rfl,a,u,3+(0+(i:Int)),rfl,au.seq uD,by omega,_,rfl,_,_,rfl,rfl,.inl #[by decide,by decide],_,rfl,_,_,rfl,rfl,.inr #[by show -(2 ^ 64)<0+(i:Int);omega,by show 0+(i:Int)<2 ^ 64;omega],_,_,rfl,rfl,?_];have:=k ai (aB.refl _);rw[Þ]at this;simp only[pK];exact this
 have rA:((eB qj).map λi:Nat=>V.int (0+(i:Int))).length=qj:=by simp
 rw[rA]at Ba;obtain⟨cs,uo⟩:∃cs:List Int,cs=(eB qj).map cl:=#[_,rfl]
 have Ba:ai fl=some (.lst (cs.map V.int)):=by rw[Ba,uo,hc];rfl
 have lcs:cs.length=qj:=by rw[uo];simp
 obtain⟨ds,kl⟩:∃ds:List cw.fD,ds=cs.map λc=>KC M.length c:=#[_,rfl]
 have aoY:∀d∈ds,d.Ok M.length:=λd hd=>by rw[kl]at hd;obtain⟨c,_,rfl⟩:=cm.mp hd;exact ajv (by omega) c
 have bB:ds.length=qj:=by rw[kl,bP,lcs]
 have oe:=gO _ _ ah;refine f3 dz T λdz T=>?_;dsimp only[gN,vm,iL];refine ahB (J:=n2 K fl) (H1:=ai) (xs:=cs.map V.int) (rest:=[some (.ref I)]) (λR h=>#[_,rfl,fl,rfl,#[_,aQ.of Ba],h]) rfl (s4 (aQ.of Ba)) (e' (by rw[bP];omega)) (λv=>match v with|.int c=>gY M (KC M.length c)|_=>[]) (λi y bz R eI au cQ=>?_) (λbl bz ls SI QC bQ TT=>?_)
 .obtain⟨c,_,rfl⟩:=cm.mp (fC eI);show#[_,rfl,_,rfl,c,I,M,rfl,au _ _ oe,by omega,by omega,λey arf=>cQ ey _ (bF arf) aK]
 have GI:eE bz ls (ds.map (gY M)):=by rw[kl,hc];rw[hc]at bQ;exact bQ
 have dn:gs bz M ls ds:=#[GI,aoY]
 have J1:=TT _ _ oe;have Bc:=TT.seq (gO.seq uD);have hx:=(hv.same gO).same TT;have aqV:I≠bl:=b1 oe SI;have ap:∀{b:Addr}{o:gQ},iC b=some o->b≠I/\b≠bl:=λe=>#[b1 e Fq,b1 (gO _ _ (s1 _ _ e)) SI]
 have ĝ:iC A.l=some (.lst []):=Nn xd.lt;have gy:=ap xd.d3.el.jL;have en:=ap xd.d3.el.ky;have k7:=ap ĝ;clear ap ĝ oe bQ GI Ba aqK SI ah hv xd uD Fq nan sJ Þ uo kl lcs JF;refine f3 dz T λdz T=>?_;show#[_,rfl,a,u,2,rfl,Bc,by decide,_,_,rfl,rfl,#[by decide,by decide,by decide],_,_,rfl,rfl,_,_,rfl,rfl,(by show(0:Int)<10 ^ (9:Int).toNat+1;decide),?_];obtain⟨hT,á,JJ⟩:∃hT:Nat,u.getD (2:Int).toNat 0%(10 ^ (9:Int).toNat+1)=(hT:Int)/\hT<=1000000000:=by
  have f0:0<=u.getD (2:Int).toNat 0%(10 ^ (9:Int).toNat+1):=n0 _ (by decide);have f1:u.getD (2:Int).toNat 0%(10 ^ (9:Int).toNat+1)<10 ^ (9:Int).toNat+1:=pJ _ (by decide);have e:(10:Int) ^ (9:Int).toNat+1=1000000001:=by decide
  rw[e]at f0 f1⊢;show#[_,(xt f0).symm,by omega]
 rw[á];clear á;refine f3 dz T λdz T=>?_;show#[_,rfl,I,rfl,#[_,aQ.of J1],?_];refine qa (K:=K) (a:=I) (xs:=cN M) (acL K (u.map V.int) aL aw aq a x I fl bl hT M ls ds) #[A,none,rfl,#[hx,#[V8 G 0,e4 _,Un _ _],J1,QC,dn,gy,en,k7,Es,Bc]] (λj U dT _⟨_,_,_,N⟩=>aQ.of N.nm) ?_ ?_
 .clear T hx gy en k7 Es J1 QC dn Bc;clear A;rintro j v U dT ev ⟨A,v6,rfl,N⟩;unfold cN at ev;rw[dV]at ev;obtain⟨n,hK,rfl⟩:=gS.mp ev;have nn:=G.nm n (fC hK);have aqY:n∉M.take j:=λz=>by have:=(DD (j+1) M).nodup G.aI;rw[<-U9 hK]at this;exact(vE.mp this).2.2 n z n (.head _) rfl
  have pI:=V8 G (j+1);show#[_,rfl,x,A.ag,_,rfl,N.dS.ins,rfl,_,rfl,_,_,rfl,rfl,ix 6 8 (by decide+kernel) (by rw[d6];exact nn.2.1) (by decide),?_];rw[U8];refine Wm SC nn N.dS N.ok aqY (by rw[ll];omega) λH' c0 jn gX cg=>#[c0,_,rfl,N.step jn gX (s':=#[M.take (j+1),[],[],[]]) ?_ #[pI,e4 _,Un _ _]]
  rw[<-U9 hK];rw[V7]at cg;exact cg
 rintro U dT ⟨A,v6,rfl,N⟩;clear hx gy en k7 Es J1 QC dn Bc;rw[o6,n4]at N;refine f3 dz T λdz T=>?_;show#[_,rfl,bl,rfl,#[_,aQ.of N.ln],?_];refine qa (K:=K) (a:=bl) (xs:=aS ls) (acM K (u.map V.int) aL aw aq a x I fl bl hT M ls ds) #[A,v6,none,rfl,N] (λj U dT _⟨_,_,_,_,N⟩=>aQ.of N.ln) ?_ ?_
 .clear T N v6;rintro j v U dT ev ⟨A,v6,jQ,rfl,N⟩;unfold aS at ev;rw[dV]at ev;obtain⟨i7,A1,rfl⟩:=gS.mp ev;obtain⟨d,cF,p2,yB⟩:=N.a_.get A1;have am:M.getD d.a []∈M:=by rw[ea,dw p2.a];exact m3 _
  have bm:M.getD d.b []∈M:=by rw[ea,dw p2.b];exact m3 _
  have na:=G.nm _ am;have nb:=G.nm _ bm;obtain⟨t,mE⟩:=xr (show 0<=d.t by have:=p2.t;omega);obtain⟨r,gW⟩:=xr (show 0<=d.m by have:=p2.m;omega);have GG:t<10 ^ 10:=by have:=p2.t;omega
  have TF:r<10 ^ 10:=by have:=p2.m;omega
  have ly:pC (S (M.getD d.a [])) (S (M.getD d.b [])) t r=gY M d:=by unfold gY;rw[mE,gW];rfl
  obtain⟨p,ep⟩:∃p,p=M.getD d.a []:=#[_,rfl]
  obtain⟨g,rb⟩:∃g,g=M.getD d.b []:=#[_,rfl]
  rw[<-ep,<-rb]at ly;rw[<-ep]at na;rw[<-rb]at nb;rw[<-ly]at yB;have iJ:=cV.of (K:=K) yB;have dZ:(bc "road "++S p).length<=13:=k4 (k:=5) (m:=8) (by decide+kernel) (by rw[d6];exact na.2.1) rfl;have dG:(bc "road "++S p++bc " ").length<=14:=k4 (k:=13) (m:=1) dZ (by decide+kernel) rfl;have i1:(bc "road "++S p++bc " "++S g).length<=22:=k4 (k:=14) (m:=8) dG (by rw[d6];exact nb.2.1) rfl;have jN:(bc "road "++S p++bc " "++S g++bc " ").length<=23:=k4 (k:=22) (m:=1) i1 (by decide+kernel) rfl;have Bz:(bc "road "++S p++bc " "++S g++bc " "++S (df t)).length<=33:=k4 (k:=23) (m:=10) jN (by rw[d6];exact lF GG) rfl;have ku:(bc "road "++S p++bc " "++S g++bc " "++S (df t)++bc " ").length<=34:=k4 (k:=33) (m:=1) Bz (by decide+kernel) rfl;show#[_,rfl,x,A.ag,_,rfl,N.dS.ins,rfl,_,rfl,i7,_,_,_,rfl,rfl,iJ,rfl,_,_,rfl,rfl,ix 5 8 (by decide+kernel) (by rw[d6];exact na.2.1) (by decide),_,_,rfl,rfl,ix 13 1 dZ (by decide+kernel) (by decide),_,rfl,i7,_,_,_,rfl,rfl,iJ,rfl,_,_,rfl,rfl,ix 14 8 dG (by rw[d6];exact nb.2.1) (by decide),_,_,rfl,rfl,ix 22 1 i1 (by decide+kernel) (by decide),_,rfl,i7,_,_,_,rfl,rfl,iJ,rfl,(t:Int),rfl,qb GG,?_];rw[kn];show#[_,_,rfl,rfl,ix 23 10 jN (by rw[d6];exact lF GG) (by decide),_,_,rfl,rfl,ix 33 1 Bz (by decide+kernel) (by decide),_,rfl,i7,_,_,_,rfl,rfl,iJ,rfl,(r:Int),rfl,qb TF,?_];rw[kn];show#[_,_,rfl,rfl,ix 34 10 ku (by rw[d6];exact lF TF) (by decide),?_];rw[W_];have ui:(ds.take j).length<8:=by have:=(gn.mp cF).1;rw[ll];omega
  refine W7 (d:=d) SC na nb N.dS N.ok p2 (by show(ds.take j).length<40;omega) ly GG TF λH' c0 jn gX cg=>#[c0,_,_,rfl,N.step jn gX (s':=#[M,ds.take (j+1),[],[]]) ?_ #[G,by rw[ll];omega,Un _ _]]
  rw[<-U9 cF];rw[V7]at cg;exact cg
 rintro U dT ⟨A,v6,jQ,rfl,N⟩;rw[fo,N.a_.len,n4]at N;refine f3 dz T λdz T=>?_;show#[(by show 12<=sizeLine;decide),λgU B3=>?_];have ly:([V.str (bc "pass"),V.str (bc "post"),V.str (bc "pass"),V.str (bc "post"),V.str (bc "spot"),V.str (bc "post"),V.str (bc "pass"),V.str (bc "shut"),V.str (bc "reopen"),V.str (bc "turn"),V.str (bc "log"),V.str (bc "spot")]:aO)=oS:=by decide+kernel
 rw[ly];clear ly;have sw:aB dT (upd dT gU (.lst oS)):=bF B3;have kp:upd dT gU (.lst oS) gU=some (.lst oS):=aK;have ŕ:∀b∈lL x I bl A,b≠gU:=H0 (p:=λb=>b≠gU) (b1 N.dS.ins B3) (b1 N.dS.d3.told B3) (b1 N.nm B3) (b1 N.ln B3);refine f3 dz T λdz T=>?_;show gN _ _ _ _ (upd dT gU (.lst oS));generalize upd dT gU (.lst oS)=lU at sw kp⊢;have O:ij aL aw aq lU x I bl A #[M,ds,[],[]] ls:=#[N.dS.same sw,N.ok,(λ_ z=>nomatch z),sw _ _ N.nm,sw _ _ N.ln,N.a_.same sw,by show 2<=M.length;omega,by show M.length<=10;omega,by show ds.length<=M.length+6;omega,rfl,aqV,N.gy,N.en,N.k7]
 have ă:=sw.seq N.qr;have Es:=N.fp;clear N sw B3;obtain⟨jk,Ė,kf⟩:=LP (j:=0) O.aj (by decide) (by decide);obtain⟨g1,ė,À⟩:=LP (j:=1) O.aj (by decide) (by decide);have vd:=mP (G.nm jk (t5 Ė));have hr:=mP (G.nm g1 (t5 ė));show#[_,rfl,gU,rfl,#[_,aQ.of kp],?_];refine qa (K:=K) (a:=gU) (xs:=oS) (acN a x I fl bl gU hT lU) #[v6,jQ,none,rfl,aB.refl _] (λj U dT _⟨_,_,_,_,s⟩=>aQ.of (s _ _ kp)) ?_ ?_
 .clear T v6 jQ;rintro j v U dT ev ⟨v6,jQ,rT,rfl,fB⟩;obtain⟨k,rfl⟩:=XU ev;have jT:=O.same fB;have aM:=aQ.of (K:=K) jT.nm;show#[_,rfl,_,rfl,_,rfl,I,_,_,_,rfl,rfl,aM,kf,_,rfl,I,_,_,_,rfl,rfl,aM,À,k,jk,g1,0,rfl,vd.c,hr.c,by decide,λH1 s1=>#[x,A.ag,A.n,A.l,A.y,A.d,_,rfl,s1 _ _ jT.dS.ins,λsl kC ef fH=>?_]];exact ahi SC k vd hr (by decide) (jT.dS.same s1) Es λai s2=>fH g5 10 _ none ai ada rfl λl bz nl bp ax=>#[(by show 1<=sizeLine;decide),λdG cA=>CN (.one (by decide+kernel)) (bF cA _ _ ax) aK #[_,rfl,dA rfl #[_,_,_,rfl,fB.trans (s1.trans (s2.trans (bp.trans (bF cA))))]]]
 rintro U dT ⟨v6,jQ,rT,rfl,fB⟩;have Qw:=fB.seq ă;have jT:=O.same fB;have kp:=fB _ _ kp;clear O ă Ė kf ė À vd hr;clear fB;refine f3 dz T λdz T=>?_;refine GV (t:=xn _ _ _) (λD=>∀H' bj,ij aL aw aq H' x I bl A #[M,ds,[],bj] ls->aQ K H' a (u.map V.int)->H' gU=some (.lst oS)->D.di [some (.ref a),some (.ref x),some (.ref I),some (.ref fl),some (.ref bl),some (.int hT),v6,jQ,some (.ref gU),rT,none,none,none,none,none,none,none] H') (λH' bj O Bb kp=>?_) λML p8=>?_
 .clear jT Qw;show dz _ _ H';refine f3 dz T λdz T=>?_;show#[_,rfl,_,rfl,_,rfl,_,rfl,[gU],x,I,bl,A,_,ls,hT,rfl,O,JJ,λb aa z=>?_,λb aa z=>ŕ b aa (gp.mp z),λH1 cy c9 ff fx sg sh k1 k2 gX L=>?_]
  .rw[gp.mp aa,kp]at z;cases z
  have uD:=OK O.dS (λb o cz _ e=>gX b o cz e) Bb;have kp:=gX _ _ (ao.eg kp O.dS.ins (by intro z;cases z)) kp;clear O Bb gX ŕ;refine f3 dz T λdz T=>?_;show#[_,rfl,3,rfl,43,rfl,a,_,rfl,uD,λps FA=>#[ps,rfl,#[_,aQ.of aK],?_]];have IB:=L.put (o:=.lst (lN (u.map V.int) (some 3) (some 43))) FA;have EX:upd H1 ps (.lst (lN (u.map V.int) (some 3) (some 43))) ps=some (.lst (lN (u.map V.int) (some 3) (some 43))):=aK;have kp:=bF (o:=.lst (lN (u.map V.int) (some 3) (some 43))) FA _ _ kp;generalize upd H1 ps (.lst (lN (u.map V.int) (some 3) (some 43)))=ai at IB EX kp⊢;have Kp:∀v∈lN (u.map V.int) (some 3) (some 43),∃c:Int,v=.int c:=λv bb=>by unfold lN at bb;obtain⟨c,_,e⟩:=cm.mp (adB (t5 bb));show#[c,e.symm]
  have jO:(lN (u.map V.int) (some 3) (some 43)).length<=40:=by unfold lN;rw[ll];have g1:gc.hq (u.map V.int).length 0 (some ((3:Nat):Int))=min 3 (u.map V.int).length:=gc.Lu _ _ 3;have g2:gc.hq (u.map V.int).length (u.map V.int).length (some ((43:Nat):Int))=min 43 (u.map V.int).length:=gc.Lu _ _ 43;rw[show(some (3:Int))=some ((3:Nat):Int)from rfl,show(some (43:Int))=some ((43:Nat):Int)from rfl,g1,g2];omega
  generalize lN (u.map V.int) (some 3) (some 43)=cells at EX Kp jO⊢;clear L uD FA;refine qa (K:=K) (a:=ps) (xs:=cells) (acH ay C aL aw aq a x I fl bl gU ps hT cells) #[v6,jQ,rT,none,none,none,none,none,none,cy,0,rfl,e4 _,_,_,_,_,_,_,_,_,_,_,_,_,IB,EX,kp] (λj U dT _⟨_,_,_,_,_,_,_,_,_,_,_,_,_,Z⟩=>(by obtain⟨_,_,_,_,_,_,_,_,_,_,_,_,_,h,_⟩:=Z;exact aQ.of h)) ?_ ?_
  .clear T IB EX kp v6 jQ rT;rintro j v U dT ev ⟨v6,jQ,rT,v11,UC,UD,UE,w2,w3,cy,k,rfl,RP,X⟩;have axA:j<40:=jx (gn.mp ev).1 jO;obtain⟨c,rfl⟩:=Kp v (fC ev);clear ev Kp jO;refine cut λgd jG=>?_;show#[_,rfl,_,_,rfl,rfl,.inr #[by decide,by decide],_,_,rfl,rfl,(by show(0:Int)<10000000000037;decide),?_];obtain⟨n,hK,Fq⟩:∃n:Int,c*1099087573%10000000000037=n/\0<=n:=#[_,rfl,n0 _ (by decide)]
   rw[hK];clear hK;refine f3 gd jG λgd jG=>?_;obtain⟨cQ,Ã⟩:=akf (j:=n%12) (n0 _ (by decide)) (pJ _ (by decide));show#[_,rfl,_,rfl,_,_,rfl,rfl,(by show(0:Int)<12;decide),gU,_,_,_,rfl,rfl,(by obtain⟨_,_,_,_,_,_,_,_,_,_,_,_,_,_,h⟩:=X;exact aQ.of h),Ã,?_];refine f3 gd jG λgd jG=>?_;have ait:=X;obtain⟨jS,s1,qf,c9,ff,fx,sg,sh,mI,q9,eF,eY,L,_,_⟩:=ait;have RW:=o6 s1.hs;have rk:=L.dj.rk;obtain⟨h,kc,Á⟩:=ahk (j:=n/144%(((cN s1.hs).length:Int)+1)) L.dj.ok.g (n0 _ (by omega)) (by rw[RW];exact pJ _ (by omega));show#[_,rfl,(by show 1<=sizeLine;decide),λp np=>#[I,p,_,_,rfl,rfl,bF np _ _ L.dj.nm,aK,e' (by rw[RW];omega),λen B8=>#[_,rfl,_,_,rfl,rfl,#[by decide,by decide],_,rfl,I,_,rfl,.inl (aQ.of (bF B8 _ _ (bF np _ _ L.dj.nm))),_,_,rfl,rfl,_,_,rfl,rfl,(by show(0:Int)<((cN s1.hs).length:Int)+1;omega),en,_,_,_,rfl,rfl,aQ.of aK,Á,?_]]];have X:=X.same ((bF (o:=.lst [.str (bc "zzzzzzzzz")]) np).trans (bF (o:=.lst (cN s1.hs++[.str (bc "zzzzzzzzz")])) B8));refine f3 gd jG λgd jG=>?_;show gN _ _ _ _ (upd (upd dT p (.lst [.str (bc "zzzzzzzzz")])) en (.lst (cN s1.hs++[.str (bc "zzzzzzzzz")])));generalize upd (upd dT p (.lst [.str (bc "zzzzzzzzz")])) en (.lst (cN s1.hs++[.str (bc "zzzzzzzzz")]))=acd at X⊢;clear B8 np L RW rk Á Ã;clear jS s1 qf c9 ff fx sg sh mI q9 eF eY;show#[_,rfl,_,_,rfl,rfl,#[by decide,by decide],_,_,rfl,rfl,(by show(0:Int)<10;decide),?_];obtain⟨s9,å,ax0⟩:∃s9:Nat,n/1728%10=(s9:Int)/\s9<10:=#[(n/1728%10).toNat,by omega,by omega]
   rw[å];clear å;refine f3 gd jG λgd jG=>?_;refine GV (t:=xn _ _ _) (λD=>∀H',xB ay C aL aw aq x I bl gU ps cells cy k H'->D.di (ma a x I fl bl gU hT v6 jQ cQ cy c n h s9 w2 w3) H') (λH' X=>?_) λML p8=>?_
   rotate_left
   .clear jG;by_cases h4:n/12%12=0
    .show#[_,rfl,_,_,rfl,rfl,#[by decide,by decide],_,_,rfl,rfl,(by show(0:Int)<12;decide),rfl,_,rfl,eQ (cE (fa V.int h4)) ?_];obtain⟨jS,s1,qf,c9,ff,fx,sg,sh,mI,q9,eF,eY,L,aG,az⟩:=X;by_cases ik:s1.hs.length<10
     .show#[_,rfl,I,_,rfl,.inl (aQ.of L.dj.nm),_,_,rfl,rfl,_,rfl,eQ (cE (by rw[o6];omega)) #[_,rfl,_,rfl,_,rfl,_,rfl,_,_,rfl,rfl,#[by decide,by decide],x,I,bl,jS,s1,qf,_,rfl,L.dj,ik,λH1 c0 s' BP st t9 cF=>#[_,rfl,fR ?_]]];obtain⟨tY,lG⟩:=L.vY st t9 cF;exact p8 _ #[c0,s',BP,c9,ff,fx,sg,sh,mI,q9,eF,eY,tY,lG _ _ (.inl (.head _)) aG,lG _ _ (.inl (.tail _ (.head _))) az]
     show#[_,rfl,I,_,rfl,.inl (aQ.of L.dj.nm),_,_,rfl,rfl,_,rfl,dA (dt (by rw[o6];omega)) (fR (p8 _ #[jS,s1,qf,c9,ff,fx,sg,sh,mI,q9,eF,eY,L,aG,az]))]
    show#[_,rfl,_,_,rfl,rfl,#[by decide,by decide],_,_,rfl,rfl,(by show(0:Int)<12;decide),rfl,_,rfl,dA (dt λz=>h4 (V.int.inj z)) (fR (p8 _ X))]
   show gd _ _ H';refine f3 gd jG λgd jG=>?_;refine GV (t:=xn _ _ _) (λD=>∀H',xB ay C aL aw aq x I bl gU ps cells cy k H'->D.di (ma a x I fl bl gU hT v6 jQ cQ cy c n h s9 w2 w3) H') (λH' X=>?_) λML p8=>?_
   rotate_left
   .clear jG;by_cases h4:n/12%12=5
    .obtain⟨jS,s1,qf,c9,ff,fx,sg,sh,mI,q9,eF,eY,L,aG,az⟩:=X;show#[_,rfl,_,_,rfl,rfl,#[by decide,by decide],_,_,rfl,rfl,(by show(0:Int)<12;decide),rfl,_,rfl,eQ (cE (fa V.int h4)) #[_,rfl,_,rfl,_,rfl,_,rfl,_,_,rfl,rfl,#[by decide,by decide],x,I,bl,jS,s1,qf,_,rfl,L.dj,λH1 bj eJ t9=>#[_,rfl,fR ?_]]];obtain⟨tY,lG⟩:=L.vY #[λb o nb e=>eJ b o (λz=>nb (by rw[z];exact .head _)) (λz=>nb (by rw[z];exact .tail _ (.head _))) e,λ_ h=>.inl h,λ_ h=>.inl h] t9 rfl;exact p8 _ #[jS,_,qf,c9,ff,fx,sg,sh,mI,q9,eF,eY,tY,lG _ _ (.inl (.head _)) aG,lG _ _ (.inl (.tail _ (.head _))) az]
    show#[_,rfl,_,_,rfl,rfl,#[by decide,by decide],_,_,rfl,rfl,(by show(0:Int)<12;decide),rfl,_,rfl,dA (dt λz=>h4 (V.int.inj z)) (fR (p8 _ X))]
   show gd _ _ H';refine f3 gd jG λgd jG=>?_;refine GV (t:=xn _ _ _) (λD=>∀H' cy k,k<=j->xB ay C aL aw aq x I bl gU ps cells cy k H'->D.di (ma a x I fl bl gU hT v6 jQ cQ cy c n h s9 w2 w3) H') (λH' cy k RP X=>?_) λML p8=>?_
   rotate_left
   .clear jG;by_cases h4:n/12%36=1
    .obtain⟨jS,s1,qf,c9,ff,fx,sg,sh,mI,q9,eF,eY,L,aG,az⟩:=X;show#[_,rfl,_,_,rfl,rfl,#[by decide,by decide],_,_,rfl,rfl,(by show(0:Int)<36;decide),rfl,_,rfl,eQ (cE (fa V.int h4)) #[_,rfl,_,rfl,_,rfl,_,rfl,[ps,gU],x,I,bl,jS,s1,qf,hT,rfl,L.dj,JJ,L.mc,L.x0.a,λH1 aH aF abu abv aeg aeh k1 k2 gX tY=>?_]];exact p8 _ aH 0 (e4 _) #[_,s1,qf,aF,abu,abv,aeg,aeh,_,_,_,k2,tY,gX _ _ (ao.eg aG L.dj.dS.ins (by intro z;cases z)) aG,gX _ _ (ao.eg az L.dj.dS.ins (by intro z;cases z)) az]
    show#[_,rfl,_,_,rfl,rfl,#[by decide,by decide],_,_,rfl,rfl,(by show(0:Int)<36;decide),rfl,_,rfl,dA (dt λz=>h4 (V.int.inj z)) (p8 _ cy k RP X)]
   show gd _ _ H';refine f3 gd jG λgd jG=>?_;show#[_,rfl,rfl,_,rfl,dA (dt (by intro z;cases z)) ?_];show gd _ _ H';refine f3 gd jG λgd jG=>?_;obtain⟨jS,s1,qf,c9,ff,fx,sg,sh,mI,q9,eF,eY,L,aG,az⟩:=X;obtain⟨g,bJ,Jt⟩:=LP (j:=n/17280%2) L.dj.aj (n0 _ (by decide)) (pJ _ (by decide));have hY:=mP (L.dj.ok.g.nm g (t5 bJ));show#[_,rfl,_,rfl,_,_,rfl,rfl,#[by decide,by decide],_,_,rfl,rfl,(by show(0:Int)<2;decide),I,_,_,_,rfl,rfl,aQ.of L.dj.nm,Jt,?_];clear Jt bJ;refine f3 gd jG λgd jG=>?_;have hF:=L.hF;obtain⟨bD,hv,hn,ia⟩:=hF;have Kq:k<=60:=by omega
   show#[_,rfl,_,rfl,_,rfl,_,rfl,_,rfl,bD,cy,ff,mI,q9,eF,k,cQ,h,g,s9,rfl,hv,L.pr,Kq,kc,hY,λbr jV nU H1 l ai r f5 Wr nl s2 ax=>?_];obtain⟨qE,RM⟩:=L.anL f5 #[bD,Wr,hn,ia] (r.pre L.pr (by omega)) r.kvs;have aqZ:=qE.new nl;have qE:=qE.same s2;have aG:=s2 _ _ (RM _ _ (.inl (.head _)) aG);have az:=s2 _ _ (RM _ _ (.inl (.tail _ (.head _))) az);have Ô:=r.br L.pr;have nN:=r.alike L.lk;have bC:=L.bC;have pr:=L.pr;clear hv Wr hn ia f5 nl s2 RM;clear L;subst jG;show#[_,rfl,_,rfl,_,rfl,_,rfl,_,rfl,cQ,h,g,s9,rfl,kc.c,hY.c,by omega,λbz bp=>#[x,jS.ag,jS.n,jS.l,jS.y,jS.d,_,rfl,bp _ _ qE.dj.dS.ins,λsl kC ef fH=>?_]];have qE:=qE.same bp;have js:=qE.js;obtain⟨M',f_,hn,ia⟩:=js;refine W8 SC nN kc hY (by omega) qE.dj.dS qE.cF f_ (pr.mU bC) Kq (λy abi da e KG El=>ef y da λjN bK KU c4 l5=>?_) (λy Pw Ks o da e anW Lk au=>?_)
   .rw[<-e]at l5;show#[_,rfl,CN Ô l5 (c4 _ _ (KG.keep _ _ aqZ (bp _ _ ax))) #[_,rfl,dA rfl ?_]];obtain⟨tY,lG⟩:=qE.Ó KG #[M',El,hn,ia];show#[_,_,_,_,_,_,_,_,_,cy,k+1,rfl,by omega,_,_,_,_,_,_,_,_,_,_,_,_,tY.same c4,c4 _ _ (lG _ _ (.inl (.head _)) (bp _ _ aG)),c4 _ _ (lG _ _ (.inl (.tail _ (.head _))) (bp _ _ az))]
   have m1:m2 K g6 Jy Pw Ks/\qo[Ks]?=some y:=by
    cases Lk with
    |l=>show#[Nz,rfl]
    |r=>show#[NA,rfl]
   refine fH Pw Ks y o da m1.1 m1.2 λjN bK KU c4 l5=>?_;rw[<-e]at l5;show#[_,rfl,CN Ô l5 (c4 _ _ (au _ _ (bp _ _ ax))) #[_,rfl,dA rfl ?_]];have El:=f_.same au;rw[<-anW]at El;obtain⟨tY,lG⟩:=qE.Ó (gH.refl au) #[M',El,hn,ia];show#[_,_,_,_,_,_,_,_,_,cy,k+1,rfl,by omega,_,_,_,_,_,_,_,_,_,_,_,_,tY.same c4,c4 _ _ (au _ _ (bp _ _ aG)),c4 _ _ (au _ _ (bp _ _ az))]
  clear IB EX kp v6 jQ rT Kp;rintro U dT ⟨v6,jQ,rT,v11,UC,UD,UE,w2,w3,cy,k,rfl,RP,X⟩;subst T;obtain⟨jS,s1,qf,c9,ff,fx,sg,sh,mI,q9,eF,eY,L,aG,az⟩:=X;have Kq:k<=60:=by omega
  have js:=L.js;obtain⟨M',f_,hn,ia⟩:=js;have gW:bc "log"=S (d1 [32] (ei.log.row (m5 9 122) (m5 9 122) 0)):=by decide+kernel
  show#[_,rfl,rfl,true,rfl,eQ rfl #[_,rfl,?_]];rw[gW];show#[x,jS.ag,jS.n,jS.l,jS.y,jS.d,_,rfl,L.dj.dS.ins,λsl kC ef fH=>?_];refine W8 SC (.log (n:=0)) OJ OJ (by decide) L.dj.dS L.cF f_ (L.pr.mU L.bC) Kq (λy abi da e KG El=>ef y da λjN bK KU c4 l5=>?_) (λy Pw Ks o da e=>nomatch e);rw[<-e]at l5;have hF:=(L.hF.kept (L.gD.symm.kept KG.pk L.js.lJ)).kept λb o _ z=>c4 _ _ z;obtain⟨bD,hv,_,_⟩:=hF;show#[_,rfl,cy,_,_,rfl,hv.ins,rfl,bD,cy,ff,mI,q9,eF,rfl,hv,λku KV=>#[ku,ff.jW,eF.mT.map qU,rfl,aQ.of aK,b2.fT (FF hv.sp L.pr.hh) λ_ _ e=>e.same (bF KV),λb aa=>?_,?_,λg0 hN=>#[(by show 2<=sizeLine;decide),λaxJ rD=>Np (.two (M3 _)) (bF rD _ _ (hN _ _ (bF KV _ _ l5))) aK (q _)]]]
  .obtain⟨b',d7,rfl⟩:=cm.mp aa;exact(L.pr.hh b' d7).ok
  rw[bP];have:=L.pr.sn;omega
 have f0:(0:Int)<=hT:=by omega
 by_cases cP:(0:Int)<(hT:Int)%3
 .show#[_,rfl,_,_,rfl,rfl,(by show(0:Int)<3;decide),_,_,rfl,rfl,_,rfl,eQ (cE cP) #[_,rfl,_,rfl,_,rfl,_,rfl,_,_,rfl,rfl,#[by decide,by decide],x,I,bl,A,_,ls,_,rfl,jT,λH' bj k t9=>#[_,rfl,fR (p8 H' bj t9 (OK jT.dS k Qw) (k _ _ (ao.eg kp jT.dS.ins (by intro z;cases z)) (ao.eg kp jT.dS.d3.told (by intro z;cases z)) kp))]]]
 show#[_,rfl,_,_,rfl,rfl,(by show(0:Int)<3;decide),_,_,rfl,rfl,_,rfl,dA (dt cP) (fR (p8 dT [] jT Qw kp))]
unseal hg bA h2 h8
theorem amE:cI ["text"] ["text"] (b5 IQ):={}
theorem alu{f:Addr}(F:cj K "is_written_number" "is_written_number" IQ f fd)(B:ft mg):aD P w K mg base a3 1 f fd ["text"] Z2:=by
 refine F.ok amE (λM A d s H vs Q E Z h=>?_);obtain⟨m,rfl,T,q⟩:=h;show#[_,(a6 (d8 (kJ.pt (zO (j0 (Gd rK rK aZ (eD Tw B.len jI (ak (ae 0) aA)) aZ)) (CF (kJ.pt (CG (eN kV (b8 Y1 (ae 0) aZ) cn (ek _)) (GN (eN zQ (ae 0) cn (ek _)))))))) (a7 (cd iK)) ed)
  (a7 (cd (eD (LV rfl) B.Jr HG (ak (tl (N':=["sign"]) (cs:=[none]) rfl (Y9 (ae 0)) rfl (by decide+kernel) rfl (by decide+kernel) (lE (λp y=>bG y (e3))) rfl
   (.own .nil)
   (λC bp bz dc fA=>#[(fG 0 (by show(["sign"]:cK).Nodup;decide+kernel)),o5,(VA LA LA cn (ae 0) cn)])) aA))))),?_]
 try dsimp only[cT,cS]
 have dZ:=lF T;have qe:1<=(df m).length:=by have:=Iw.mpr (Ig m);omega
 have g:(S (df m)).length<=sizeLine:=mi (e' (by rw[d6];omega));have l:(1:Int)<=((S (df m)).length:Int):=by rw[d6];omega
 have b:((S (df m)).length:Int)<=10:=by rw[d6];omega
 have Y:bc "0"=S [48]:=by decide+kernel
 have X:bc "9"=S [57]:=by decide+kernel
 rw[Y,X];obtain⟨fp,r0,cF⟩:∃fp r0,df m=fp::r0:=by
  cases h:df m with
  |nil=>exact bG h (Ig m)
  |cons a r=>show#[a,r,rfl]
 show#[_,rfl,_,rfl,g,_,_,rfl,rfl,_,rfl,eQ (cE l) #[_,_,rfl,rfl,_,rfl,C' b ?_]];have U:ao.gT (S (df m)).cps.toList 0=some fp:=by show ao.gT (df m) 0=some fp;rw[cF];exact iH (j:=0) rfl
 have c:fp=48->df m=[48]:=λe=>by subst e;rw[ahW m r0 cF,ahX]
 have G:(signs (S (df m))).length<1000:=by rw[Xk,bP];omega
 show#[_,rfl,_,_,_,rfl,rfl,g,U,rfl,_,rfl,?_];by_cases e:fp=48
 case' pos=>refine eQ (by rw[e];exact cE rfl) #[_,rfl,rfl,_,rfl,dA (by rw[c e];simp) ?_]
 case' neg=>refine dA (dt λz=>e (by have:=V.str.inj z;have:=fa (λx:Str=>x.cps.toList) this;simpa using this)) (fR ?_)
 all_goals
  dsimp only[zG,xm,w1,pb];refine Cw (J:=Dv (S (df m))) (H1:=H) (xs:=signs (S (df m))) (rest:=[]) (λR h=>#[_,rfl,_,rfl,h]) rfl (Y8 _) (e' (by omega)) (λ_=>.aV true) (λi x u R n au O=>?_) (λD H' l b I=>?_)
  .rw[Xk]at n;obtain⟨k,N,rfl⟩:=cm.mp (fC n);have o:=CS N;have L:(!decide ((S [k]).cps.toList<(S [48]).cps.toList))=true:=(HF k 48).trans (cE o.1);have t:(!decide ((S [57]).cps.toList<(S [k]).cps.toList))=true:=(HF 57 k).trans (cE o.2);show#[_,rfl,_,_,rfl,rfl,_,rfl,eQ L #[_,_,rfl,rfl,ZZ t (O u (aB.refl _))]]
  show#[D,m5 (signs (S (df m))).length true,rfl,aQ.of (by rw[b,agc]),ZZ (agd _) (q H' I)]
theorem acK(G:Good hs):wq (.list (bI hs))=true:=by show(decide ((bI hs).length<=12)&&(bI hs).all o7&&decide (jJ (bI hs)).Nodup)=true;have b:(hs.map S).Nodup:=DB.mpr (G.aI.imp λh e=>h (zU e));rw[Vu,cE (by rw[ai6];exact G.c3),cE b,qB,Bool.and_true,r_];intro d l;obtain⟨z,a,rfl⟩:=cm.mp l;obtain⟨n,f,rfl⟩:=cm.mp a;have k:=G.nm n f;show(decide (1<=(S n).length)&&decide ((S n).length<=8)&&(S n).cps.toList.all xq)=true;rw[d6,cE k.1,cE k.2.1,qB,qB,r_];intro c g;have:=k.2.2 c (by simpa[S]using g);show(decide (97<=c)&&decide (c<=122))=true;rw[cE this.1,cE this.2];rfl
theorem aeM{a:bt}{ds:cC}(G:Good a)(ok:∀d∈ds,d.Ok a.length)(l:ds.length<=40):LY (bI a) (.list (ds.map (tc a)))=true:=by
 show(decide ((ds.map (tc a)).length<=40)&&(ds.map (tc a)).all (rr (bI a)))=true;rw[cE (by rw[bP];exact l),qB,r_];intro x c;obtain⟨d,f,rfl⟩:=cm.mp c;have k:=ok d f;have b:∀{j:Nat},j<a.length->a.getD j []∈a:=λh=>by rw[ea,dw h];exact m3 _
 have g:a.getD d.a []≠a.getD d.b []:=λe=>by rw[ea,ea,dw k.a,dw k.b]at e;exact k.ne ((DA G.aI).mp e)
 show(iI (bI a) (.str (S (a.getD d.a []))) (.str (S (a.getD d.b [])))&&(decide (1<=d.t)&&decide (d.t<=9))&&(decide (1<=d.m)&&decide (d.m<=1000000000)))=true;rw[y' (cm.mpr #[_,b k.a,rfl]) (cm.mpr #[_,b k.b,rfl]) λe=>g (zU e),cE k.t.1,cE k.t.2,cE k.m.1,cE k.m.2];rfl
theorem ag8{f:Addr}(F:cj K "__init__" "Net.__init__" w5 f fd)(B:ft mg)(t:tU K C)(uq:cu K mg "are_houses" C9 vK U Y)(Tx:aD P w K mg base a3 2 U Y vK ME)(uy:cu K mg "are_roads" Dk vH X T)(Z:aD P w K mg base a3 4 X T vH MT):
  aD P w K mg base a3 5 f fd oP (Hd K C):=by
 refine F.ok Zk (λ_ A _ s H vs Q E M h=>?_);obtain⟨x,N,a,b,l,rs,ds,rfl,u,G,m,n,r,c3,q⟩:=h;show#[_,(a6 (d8 (j0 (kU (d9 Tx uq M.mono b0 (ak (ae 1) aA)))) (a7 uO) ed)
  (a6 (d8 (j0 (kU (d9 Z uy M.mono b0 (ak (ae 1) (ak (ae 2) aA))))) (a7 uO) ed)
  (a6 (h5 (ae 0) (hC Br B.list wL (ak (ae 1) aA)) rfl)
  (a7 (h5 (ae 0) (hC Br B.list wL (ak (ae 2) aA)) rfl))))),?_]
 try dsimp only[cT,cS]
 show#[_,rfl,.ref a,.list (bI l),rfl,C8 m G,λH1 z=>#[_,rfl,?_]];rw[acK m];refine fR ?_;show#[_,rfl,_,rfl,a,bI l,.ref b,.list (ds.map (tc l)),rfl,C8 m (z _ _ G),.lst (z _ _ n) (by rw[fo];omega) (HK m (r.gz.same z) r.ok),dX (V2 _ _) (by decide),λV s2=>#[_,rfl,?_]];rw[aeM m r.ok (by rw[<-r.len];exact c3)];refine fR ?_;have k:=z.trans s2;show#[_,rfl,a,_,rfl,.inl (aQ.of (k _ _ G)),λg J=>?_];have bp:aB V (upd V g (.lst (cN l))):=bF J;have y:=k.trans bp;have I:x≠g:=b1 (k _ _ u) J;show#[_,rfl,x,C,N,_,rfl,y _ _ u,t.cl,t.s8,(by decide),?_];have j:b≠x:=λe=>by rw[e,u]at n;cases n
 have i:upd (upd V g (.lst (cN l))) x (.ins C N (k' "kept_houses" (.ref g) [])) b=some (.lst (aS rs)):=by rw[aJ j];exact y _ _ n
 show#[_,rfl,b,_,rfl,.inl (aQ.of i),λp d=>?_];have L:p≠x:=λe=>by rw[e,aK]at d;cases d
 have R:p≠g:=λe=>by rw[e,aJ I.symm,aK]at d;cases d
 show#[_,rfl,x,C,N,_,rfl,(by rw[aJ L.symm,aK]),t.cl,t.iP,(by show 1<1000;decide),?_];refine q _ g p (λc o D O=>?_) (by rw[aK];rfl) ?_ ?_ ?_ ?_
 .rw[aJ D];have:c≠p:=λe=>by rw[<-e,aJ D,y _ _ O]at d;cases d
  rw[aJ this,aJ D];exact y _ _ O
 .rw[aJ I.symm,aJ R.symm,aJ I.symm,aK]
 .rw[aJ L,aK]
 .exact k.free J
 rw[aJ L,aJ R]at d;exact k.free d
end
section
variable{w:bf}{K:aN}
noncomputable def zV(C:Addr)(b:z2)(a:bL)(k:Nat):Bool:=!b.mro.isEmpty&&(eB a.length).all λj=>match a[j]? with
 |some R=>if j=k then cX C==cX R else !(cX C==cX R)&&!(b.mro.contains (.ref R))
 |none=>true
theorem H2{k:Nat}{y:Option Addr}{h:z2}{r:mr}{f:bL}(N:K.lookup C=some #[.type "type",y,.cls h,r])(A:px K C)(sub:qh K C i=true)(re:ml K (.ref C) (.ref i)=some true)(o:ml K (.ref C) (.type "ValueError")=some true)(L:k<11)(d:∀R∈f,∃g l m,K.lookup R=some #[.type "type",g,.cls l,m])(n:zV C h f k=true):m2 K i f C k:=by
 show#[A,sub,re,o,L,λj R e=>?_];unfold zV at n;obtain⟨t,p⟩:=(i' _ _).mp n;have c:=(r_.mp p) j (lp.mpr (gn.mp e).1);rw[e]at c;dsimp only at c;by_cases z:j=k
 .rw[bS z]at c;unfold ml;rw[bS c,cE z]
 rw[bx z]at c;obtain⟨a,b⟩:=(i' _ _).mp c;obtain⟨g,l,m,lo⟩:=d R (fC e);rw[dt z];exact acq N lo (by simpa using t) (by simpa using a) (by simpa using b)
theorem asE{b:Array r9}{n:Nat}(d:K.lookup a=some #[.type "dict",none,.dict b n,#[]])(c:aft w.params b.toList)(f:(a==lh)=false):TopD w K a:=#[b,n,d,c,f]
theorem aop{c:bL}{b:Option Addr}{n:Nat}{a:mr}(f:e5 K e kw=some (some (.ref bC)))(d:K.lookup bC=some #[.type "tuple",b,.seq (c.map cX).toArray n,a]):h6 K e kw c:=#[bC,b,n,a,f,d]
theorem H3{K:aN}(a:YQ T=true)(c:oR K (.ref C) (.type T)=some b):ml K (.ref C) (.type T)=some b:=by unfold ml;rw[bx (by intro z;cases z)];unfold YP;show(if YQ T=true then _ else _)=_;rw[bS a,c]
structure Pc(K:aN)(cO cR eb:Addr)(R:jU)(D:pF):Prop where
 f0:h6 K cO "house" [R.t]
 f1:h6 K cO "road" [R.t,R.t,R.n,R.n]
 f2:h6 K cO "way" [R.t,R.t,R.r]
 cP:h6 K cO "day" [R.p6]
 Fq:e5 K cR "house"=some (some (.ref D.aX))
 cz:e5 K cR "road"=some (some (.ref D.u1))
 cA:e5 K cR "way"=some (some (.ref D.ve))
 iu:e5 K cR "day"=some (some (.ref D.bh))
 fp:h6 K cO "post" [R.t,R.t]
 cy:h6 K cO "pass" []
 c9:h6 K cO "turn" []
 sy:h6 K cO "spot" [R.n]
 Er:h6 K cO "shut" [R.n]
 anH:h6 K cO "reopen" [R.n]
 anI:h6 K cO "log" []
 o0:e5 K cR "post"=some none
 i3:e5 K cR "pass"=some none
 l9:e5 K cR "turn"=some none
 Tf:e5 K cR "spot"=some none
 Tg:e5 K cR "shut"=some none
 arp:e5 K cR "reopen"=some none
 arq:e5 K cR "log"=some none
 Vn:e5 K eb "post"=some (some (.ref D.po))
 hF:e5 K eb "pass"=some (some (.ref D.hp))
 js:e5 K eb "turn"=some (some (.ref D.tp))
 Mo:e5 K eb "spot"=some (some (.ref D.sp))
 Hc:e5 K eb "shut"=some (some (.ref D.cp))
 vh:e5 K eb "reopen"=some (some (.ref D.re))
 vi:e5 K eb "log"=some (some (.ref D.lo))
theorem Pc.say{R:jU}{D:pF}(F:Pc K e i j R D):qz K R e i j D:=by
 have o:("house":Str)=S wY:=by decide+kernel
 have m:("road":Str)=S zM:=by decide+kernel
 have l:("way":Str)=S Ak:=by decide+kernel
 have n:("day":Str)=S Al:=by decide+kernel
 have g:("post":Str)=S ei.post.w:=by decide+kernel
 have b:("pass":Str)=S ei.pass.w:=by decide+kernel
 have c:("turn":Str)=S ei.turn.w:=by decide+kernel
 have d:("spot":Str)=S ei.jq.w:=by decide+kernel
 have h:("shut":Str)=S ei.lR.w:=by decide+kernel
 have f:("reopen":Str)=S ei.lO.w:=by decide+kernel
 have a:("log":Str)=S ei.log.w:=by decide+kernel
 show#[#[o▸F.f0,o▸F.Fq],#[m▸F.f1,m▸F.cz],#[l▸F.f2,l▸F.cA],#[n▸F.cP,n▸F.iu],λk=>match k with
  |.post=>#[g▸F.fp,g▸F.o0,g▸F.Vn]
  |.pass=>#[b▸F.cy,b▸F.i3,b▸F.hF]
  |.turn=>#[c▸F.c9,c▸F.l9,c▸F.js]
  |.jq=>#[d▸F.sy,d▸F.Tf,d▸F.Mo]
  |.lR=>#[h▸F.Er,h▸F.Tg,h▸F.Hc]
  |.lO=>#[f▸F.anH,f▸F.arp,f▸F.vh]
  |.log=>#[a▸F.anI,a▸F.arq,a▸F.vi]]
end
structure Mt(P:cx)(w:bf)(K:aN)(mg:cb)(base:Heap):Prop where
 one:True
theorem Mt.fn{w:bf}{K:aN}{b:cb}{a:Heap}{k:Nat}{f:Addr}(Z:Mt P w K b a)(h:aD P w K b a e k f fd i sp):aD P w K b a e k f fd i sp:=h
section
variable{K:aN}{h:Heap}{mg:cb}{x qual:Str}{st:Stmt}{C f:Addr}{ps:cK}{k6:Value}{dj an:Option Addr}{mQ:mr}{dq doc pm cdv fv:Value}
theorem aqG(a:cD K (.ref C) x=some (some (.ref f)))(i:ua K (.ref f)=true)(l:K.lookup f=some #[k6,dj,.func (m9 x qual (oo st) (l3 st) (b5 st) .none dq doc pm an cdv fv),mQ])(c:DX K cdv qual=true)(k:mj K (.ref f)=true)(u:∀(dq doc pm:Value)(an:Option Addr)(cdv fv:Value)(b:dx),b.length=ps.length->Jw (m9 x qual (oo st) (l3 st) (b5 st) .none dq doc pm an cdv fv) #[b,[]]=pure (ps.zip b)):
  cH K C x qual st ps f (m9 x qual (oo st) (l3 st) (b5 st) .none dq doc pm an cdv fv):=
 #[yl l c k,#[a,i,k],(yl l c k).binds u]
theorem aqc(m:DY K C=true)(n:mj K (.ref C)=true)(a:cD K (.ref C) "__init__"=some (some (.ref f)))(i:ua K (.ref f)=true)(l:K.lookup f=some #[k6,dj,.func (m9 "__init__" qual (oo st) (l3 st) (b5 st) .none dq doc pm an cdv fv),mQ])(c:DX K cdv qual=true)(k:mj K (.ref f)=true)(u:∀(dq doc pm:Value)(an:Option Addr)(cdv fv:Value)(b:dx),b.length=ps.length->Jw (m9 "__init__" qual (oo st) (l3 st) (b5 st) .none dq doc pm an cdv fv) #[b,[]]=pure (ps.zip b)):
  jc K C qual st ps f (m9 "__init__" qual (oo st) (l3 st) (b5 st) .none dq doc pm an cdv fv):=
 #[yl l c k,#[m,a,i,n],(yl l c k).binds u]
theorem anQ(X:K.In h)(G:h.Ns rB mg)(a:e5 K rB x=some (some (.ref f)))(l:K.lookup f=some #[k6,dj,.func (m9 x x (oo st) (l3 st) (b5 st) .none dq doc pm an cdv fv),mQ])(c:DX K cdv x=true)(k:mj K (.ref f)=true)(u:∀(dq doc pm:Value)(an:Option Addr)(cdv fv:Value)(b:dx),b.length=ps.length->Jw (m9 x x (oo st) (l3 st) (b5 st) .none dq doc pm an cdv fv) #[b,[]]=pure (ps.zip b)):
  cu K mg x st ps f (m9 x x (oo st) (l3 st) (b5 st) .none dq doc pm an cdv fv):=
 #[yl l c k,afG X G a,(yl l c k).binds u]
end
theorem RX{c:dx}(h:c.length=1):∃a,c=[a]:=by rcases c with _|⟨a,_|⟨b,r⟩⟩<;>first|exact⟨a,rfl⟩|simp at h
theorem Ky{d:dx}(h:d.length=2):∃a c,d=[a,c]:=by rcases d with _|⟨a,_|⟨c,_|⟨b,r⟩⟩⟩<;>first|exact⟨a,c,rfl⟩|simp at h
theorem RY{f:dx}(h:f.length=3):∃a c d,f=[a,c,d]:=by rcases f with _|⟨a,_|⟨c,_|⟨d,_|⟨b,r⟩⟩⟩⟩<;>first|exact⟨a,c,d,rfl⟩|simp at h
theorem RZ{g:dx}(h:g.length=4):∃a c d f,g=[a,c,d,f]:=by rcases g with _|⟨a,_|⟨c,_|⟨d,_|⟨f,_|⟨b,r⟩⟩⟩⟩⟩<;>first|exact⟨a,c,d,f,rfl⟩|simp at h
theorem R0{k:dx}(h:k.length=5):∃a c d f g,k=[a,c,d,f,g]:=by rcases k with _|⟨a,_|⟨c,_|⟨d,_|⟨f,_|⟨g,_|⟨b,r⟩⟩⟩⟩⟩⟩<;>first|exact⟨a,c,d,f,g,rfl⟩|simp at h
theorem all_mk{l:YJ}{w:bf}{K:aN}{a:cb}(ao3:a "law"=some (.ref jY))(F5:a "NotYet"=some (.ref P))(FP:a "AtHouse"=some (.ref O))(F6:a "OnRoad"=some (.ref Q))(F7:a "AtHome"=some (.ref X))(ot:a "Net"=some (.ref u))(rp:a "Ways"=some (.ref x))(GY:a "Walk"=some (.ref q))(wX:a "Day"=some (.ref i))(G1:a "Desk"=some (.ref M))(nj:a "RoadError"=some (.ref F))(Cd:a "NoNet"=some (.ref E))(BK:a "NoHouse"=some (.ref J))(B0:a "NoRoad"=some (.ref C))(p1:a "NoLetter"=some (.ref j))(F0:a "BadBag"=some (.ref Y))(Gn:a "NoWay"=some (.ref tR))(E7:a "ManyGoals"=some (.ref tO))(F1:a "CutOff"=some (.ref tM))(F2:a "NoText"=some (.ref tQ))(Go:a "NoRow"=some (.ref tP))(Ce:a "NoDay"=some (.ref G))(wt:dM K P)(Sg:DY K P=true)(RH:mj K (.ref P)=true)(q2:cH K P "line" "NotYet.line" Gs cG awt auN)(sG:dM K O)(KJ:cD K (.ref O) "at"=some none)(KL:cD K (.ref O) "since"=some none)(yg:jc K O "AtHouse.__init__" Lr Aa av9 aur)(q1:cH K O "line" "AtHouse.line" Gr cG awa aus)(sS:dM K Q)(KN:cD K (.ref Q) "by"=some none)(KO:cD K (.ref Q) "due"=some none)(ym:jc K Q "OnRoad.__init__" Ls Ab awu auO)(q3:cH K Q "line" "OnRoad.line" Gu cG awv auP)(sT:dM K X)(KI:cD K (.ref X) "since"=some none)(yn:jc K X "AtHome.__init__" Lq Ad av7 aup)(qX:cH K X "line" "AtHome.line" Gq cG av8 auq)(d:dM K u)(Sy:cD K (.ref u) "kept_houses"=some none)(Sz:cD K (.ref u) "kept_roads"=some none)(f:jc K u "Net.__init__" w5 oP awo auH)(z:cH K u "houses" "Net.houses" wB cG awn auG)(ng:cH K u "roads" "Net.roads" Cy cG aws auL)(mB:cH K u "road" "Net.road" zu d4 awr auK)(q':cH K u "out_of" "Net.out_of" D3 n5 awq auJ)(x8:cH K u "need_house" "Net.need_house" Ij n5 awp auI)(kQ:dM K x)(SG:cD K (.ref x) "net"=some none)(SH:cD K (.ref x) "told"=some none)(r:jc K x "Ways.__init__" Ck lV awF auZ)(nd:cH K x "set_way" "Ways.set_way" Cj se awI au2)(A_:cH K x "drop_way" "Ways.drop_way" Ž iU awE auY)(yF:cH K x "way" "Ways.way" Lz iU awJ au3)(yE:cH K x "pairs" "Ways.pairs" Lv cG awH au1)(qR:cH K x "need_pair" "Ways.need_pair" Gv iU awG au0)(jF:dM K q)(SE:cD K (.ref q) "net"=some none)(SD:cD K (.ref q) "goals"=some none)(SF:cD K (.ref q) "steps"=some none)(yH:jc K q "Walk.__init__" IW DI awy auS)(q0:cH K q "take_in" "Walk.take_in" Dm vJ awD auX)(yI:cH K q "send" "Walk.send" Io DM awB auV)(yG:cH K q "goal" "Walk.goal" Ip d4 aww auQ)(qQ:cH K q "last_house" "Walk.last_house" Hq d4 awz auT)(qO:cH K q "last_turn" "Walk.last_turn" Hr d4 awA auU)(x9:cH K q "home_turn" "Walk.home_turn" HN d4 awx auR)(yh:cH K q "spot_at" "Walk.spot_at" IC DJ awC auW)(c:dM K i)(Sl:cD K (.ref i) "net"=some none)(Sn:cD K (.ref i) "present"=some none)(Sm:cD K (.ref i) "posted"=some none)(Sr:cD K (.ref i) "ways"=some none)(Sp:cD K (.ref i) "shut_roads"=some none)(Sq:cD K (.ref i) "walk"=some none)(So:cD K (.ref i) "sent"=some none)(rh:jc K i "Day.__init__" Ed vG awb aut)(rj:cH K i "now" "Day.now" Ec cG awe auw)(rg:cH K i "post" "Day.post" Di iU awg auz)(rf:cH K i "shut" "Day.shut" Df mh awi auB)(q7:cH K i "reopen" "Day.reopen" Ea mh awh auA)(qZ:cH K i "pass_turn" "Day.pass_turn" Dj cG awf auy)(nk:cH K i "log" "Day.log" Av cG awc auu)(jf:cH K i "spot" "Day.spot" D_ d4 awj auC)(qY:cH K i "need_road" "Day.need_road" Gw d4 awd auv)(p:dM K M)(Sv:cD K (.ref M) "net"=some none)(Su:cD K (.ref M) "kept_letters"=some none)(Sw:cD K (.ref M) "ways"=some none)(Ss:cD K (.ref M) "day"=some none)(yJ:jc K M "Desk.__init__" Lp cG awl auE)(oa:cH K M "say" "Desk.say" Ah qG awm auF)(qP:cH K M "change_net" "Desk.change_net" Gm lV awk auD)(BH:cu K a "is_whole" HC n6 aw5 avN)(sx:cu K a "is_whole_within" GW vF aw6 avO)(uj:cu K a "is_tuple_of" Hf vI aw4 avM)(pY:cu K a "are_unlike_houses" Cx sf awX avh)(BW:cu K a "is_name" Ih n6 aw1 avJ)(uq:cu K a "are_houses" C9 vK awV avf)(BX:cu K a "is_road" Ii pP aw2 avK)(uy:cu K a "are_roads" Dk vH awW avg)(Bn:cu K a "is_letter" I8 pP aw0 avI)(Bk:cu K a "turns_apart" HT ["letters"] axf av3)(Bu:cu K a "letters_of" IZ DL aw9 avT)(AX:cu K a "is_written_number" IQ ["text"] aw7 avP)(A':cu K a "is_shorter_by" HQ Ac aw3 avL)(AY:cu K a "least_turns_from" HR DK aw8 avR)(AZ:cu K a "begins_shortest" I6 DG awZ avn)(BL:cu K a "shortest" Ly ["net"] axc avW)(Bo:cu K a "queues_at" Lw DF axb avV)(B1:cu K a "bags_at" Lo DE awY avm)(BM:cu K a "show_bag" Jj ["bag"] axd avX)(mz:cu K a "show_plan" xv pQ axe avY)(F9:cu K a "as_text" TY kI T avl)(q_:cu K a "as_number" Gl kI v7 avj)(E4:cu K a "as_first_turn" TX kI JK avi)(EC:cu K a "as_road_or_none" OR kI JL avk)(uN:cu K a "words_of" Gx ["row"] axh av5)(uB:cu K a "values_of" D1 ["words"] axg av4)(E':cu K a "take_house" O4 m6 JW av0)(Fp:cu K a "take_road" O5 m6 JX av1)(FG:cu K a "take_way" O6 m6 JY av2)(FH:cu K a "take_day" Pp m6 JV avZ)(FI:cu K a "day_post" Pl h1 JO avC)(FJ:cu K a "day_pass" Pn h1 JN avB)(FK:cu K a "day_turn" Ph h1 JS avG)(FL:cu K a "day_spot" Po h1 JR avF)(FN:cu K a "day_shut" Pj h1 JQ avE)(E_:cu K a "day_reopen" Pk h1 JP avD)(F':cu K a "day_log" Pm h1 JM avA)(sz:cu K a "_law_cell_at" Ln z_ awK au4)(Bl:cu K a "_law_houses" L0 DH awN au7)(Bp:cu K a "_law_road" IS xE awR avb)(uC:cu K a "_law_kind" Gp xF awO au8)(V:cu K a "_law_said" zd qH awS avc)(wo:cu K a "_law_deed" Jl ["_law_day","_law_what","_law_house","_law_goal","_law_number"] awL au5)(BN:cu K a "_law_due" Jm ["_law_day","_law_what","_law_house","_law_goal","_law_number"] awM au6)(yK:cu K a "_law_text" Jk ["_law_what","_law_house","_law_goal","_law_number"] awT avd)(yi:cu K a "_law_new_day" Jd ["_law_desk","_law_names","_law_lines","_law_first"] awQ ava)(Bq:cu K a "_law_more" Je ["_law_desk","_law_names","_law_lines","_law_n"] awP au9)(x6:cu K a "_law_ways_told" I_ ["_law_desk","_law_names","_law_lines","_law_n"] awU ave)(Pr:a "law"=some (.ref aoo))(H5:cj K "law" "law" Am aoo avQ)(Kv:K.lookup F=some #[.type "type",avz,.cls Ï,ar9])(L:K.lookup E=some #[.type "type",avu,.cls Í,ar7])(BD:K.lookup J=some #[.type "type",avs,.cls aul,ax9])(N:K.lookup C=some #[.type "type",avv,.cls Î,ar8])(t:K.lookup j=some #[.type "type",avt,.cls Jx,aac])(BA:K.lookup Y=some #[.type "type",avo,.cls aui,ax6])(BG:K.lookup tR=some #[.type "type",avy,.cls auo,ayc])(BC:K.lookup tO=some #[.type "type",avq,.cls auk,ax8])(BB:K.lookup tM=some #[.type "type",avp,.cls auj,ax7])(BF:K.lookup tQ=some #[.type "type",avx,.cls aun,ayb])(BE:K.lookup tP=some #[.type "type",avw,.cls aum,aya])(A:K.lookup G=some #[.type "type",avr,.cls Ì,ar6])(Jq:cD K (.ref j) "__init__"=some (some (.ref ç)))(Km:ua K (.ref ç)=true)(H4:cj K "__init__" "NoLetter.__init__" T3 ç auM)(Vl:xQ K F [.type "ValueError",.type "Exception",.type "BaseException",.type "object"] "ValueError.__new__"=true)(Vj:xQ K E [.type "ValueError",.type "Exception",.type "BaseException",.type "object"] "ValueError.__new__"=true)(Vi:xQ K J [.type "ValueError",.type "Exception",.type "BaseException",.type "object"] "ValueError.__new__"=true)(Vk:xQ K C [.type "ValueError",.type "Exception",.type "BaseException",.type "object"] "ValueError.__new__"=true)(Vh:xQ K G [.type "ValueError",.type "Exception",.type "BaseException",.type "object"] "ValueError.__new__"=true)(CW:CR Ï ar9 F F=true)(Ha:CR Í ar7 E F=true)(Hb:CR Î ar8 C F=true)(G_:CR Jx aac j F=true)(G':CR Ì ar6 G F=true)(UI:a "MOST_HOUSES"=some (.int 12 aye))(UK:a "MOST_ROADS"=some (.int 40 ayg))(UM:a "MOST_SIGNS"=some (.int 8 ayi))(UO:a "MOST_TURNS"=some (.int 9 ayk))(UL:a "MOST_ROOM"=some (.int 1000000000 ayh))(UJ:a "MOST_LETTERS"=some (.int 40 ayf))(UN:a "MOST_TURN"=some (.int 1000000000 ayj))(UH:a "MOST_APART"=some (.int 30 ayd))(B:ft a)(Vm:HL Jx Ï aac j "ValueError.__new__"=true)(Vg:Jx.hasDict=true)(Uk:cD K (.ref j) "__setattr__"=some (some (.builtin "object.__setattr__")))(Ti:oR K (.ref j) (.type "object")=some true)(Rv:IK K j=true)(Ku:mj K (.ref j)=true)(J0:cD K (.ref j) "__getattribute__"=some (some (.builtin "BaseException.__getattribute__")))(KY:cD K (.ref j) "__getattr__"=some none)(J7:cD K (.ref j) "__class__"=some (some (.builtin "object.__class__")))(Kd:uc K (.builtin "object.__class__") "__get__"=some (some (.builtin "getset_descriptor.__get__")))(Ki:Ay K (.builtin "object.__class__")=some true)(Kc:n8 K j (.type "object")=some true)(J9:n8 K j (.type "BaseException")=some true)(TM:YW K F (.type "type")=true)(PU:YM K (.ref F) (.type "type") "__init__"=some (.val (.builtin "ValueError.__init__")))(T6:uc K (.ref F) "__getattribute__"=some (some (.builtin "type.__getattribute__")))(Q9:cD K (.ref j) "number"=some none)(Ry:cD K (.ref P) "__init__"=some (some (.builtin "object.__init__")))(Qg:cD K (.ref E) "__getattribute__"=some (some (.builtin "BaseException.__getattribute__")))(SU:cD K (.ref E) "__getattr__"=some none)(Qz:cD K (.ref E) "__class__"=some (some (.builtin "object.__class__")))(Q6:uc K (.builtin "object.__class__") "__get__"=some (some (.builtin "getset_descriptor.__get__")))(Rj:Ay K (.builtin "object.__class__")=some true)(Q3:n8 K E (.type "object")=some true)(QF:n8 K E (.type "BaseException")=some true)(Qh:cD K (.ref C) "__getattribute__"=some (some (.builtin "BaseException.__getattribute__")))(SV:cD K (.ref C) "__getattr__"=some none)(QA:cD K (.ref C) "__class__"=some (some (.builtin "object.__class__")))(Q7:uc K (.builtin "object.__class__") "__get__"=some (some (.builtin "getset_descriptor.__get__")))(Rk:Ay K (.builtin "object.__class__")=some true)(Q4:n8 K C (.type "object")=some true)(QG:n8 K C (.type "BaseException")=some true)(Qf:cD K (.ref G) "__getattribute__"=some (some (.builtin "BaseException.__getattribute__")))(SS:cD K (.ref G) "__getattr__"=some none)(Qy:cD K (.ref G) "__class__"=some (some (.builtin "object.__class__")))(Q5:uc K (.builtin "object.__class__") "__get__"=some (some (.builtin "getset_descriptor.__get__")))(Ri:Ay K (.builtin "object.__class__")=some true)(Q2:n8 K G (.type "object")=some true)(QE:n8 K G (.type "BaseException")=some true)(Bm:afA K F=true)(CD:Az K (.ref F)=some (.type "type"))(Ug:oR K (.ref E) (.type "ValueError")=some true)(Ue:oR K (.ref E) (.ref F)=some true)(RK:zV E Í [E,J,C,j,Y,tR,tO,tM,tQ,tP,G] 0=true)(Ui:oR K (.ref C) (.type "ValueError")=some true)(Uh:oR K (.ref C) (.ref F)=some true)(RL:zV C Î [E,J,C,j,Y,tR,tO,tM,tQ,tP,G] 2=true)(Ud:oR K (.ref j) (.type "ValueError")=some true)(Uc:oR K (.ref j) (.ref F)=some true)(RJ:zV j Jx [E,J,C,j,Y,tR,tO,tM,tQ,tP,G] 3=true)(Ub:oR K (.ref G) (.type "ValueError")=some true)(Ua:oR K (.ref G) (.ref F)=some true)(RI:zV G Ì [E,J,C,j,Y,tR,tO,tM,tQ,tP,G] 10=true)(Cb:a "FORMS"=some (.ref H))(su:a "DESK_ANSWERS"=some (.ref I))(v3:a "DAY_ANSWERS"=some (.ref U))(AE:TopD w K H)(TD:TopD w K I)(Ee:TopD w K U)(P4:h6 K H "house" [T])(P9:h6 K H "road" [T,T,v7,v7])(Qb:h6 K H "way" [T,T,JL])(P2:h6 K H "day" [JK])(P7:h6 K H "post" [T,T])(P6:h6 K H "pass" [])(Qa:h6 K H "turn" [])(P_:h6 K H "spot" [v7])(P':h6 K H "shut" [v7])(P8:h6 K H "reopen" [v7])(P5:h6 K H "log" [])(S5:e5 K I "house"=some (some (.ref JW)))(S6:e5 K I "road"=some (some (.ref JX)))(S7:e5 K I "way"=some (some (.ref JY)))(S4:e5 K I "day"=some (some (.ref JV)))(G0:e5 K I "post"=some none)(Ta:e5 K U "post"=some (some (.ref JO)))(SY:e5 K I "pass"=some none)(S':e5 K U "pass"=some (some (.ref JN)))(S2:e5 K I "turn"=some none)(Te:e5 K U "turn"=some (some (.ref JS)))(S1:e5 K I "spot"=some none)(Td:e5 K U "spot"=some (some (.ref JR)))(S0:e5 K I "shut"=some none)(Tc:e5 K U "shut"=some (some (.ref JQ)))(SZ:e5 K I "reopen"=some none)(Tb:e5 K U "reopen"=some (some (.ref JP)))(SX:e5 K I "log"=some none)(S9:e5 K U "log"=some (some (.ref JM))):
  ∃fd:nY,(∀(s:aW)(v:Value),C3 s fd #[[v],[]] [("_law_script",v)])/\∀b:Heap,K.In b->b.Ns rB a->aD l.prog w K a b a3 12 jY fd ["_law_script"] (H_ K):=by
 have e:=ao3.symm.trans Pr;cases e;have Ä:=H4.binds (ps:=d4) λ_ _ _ _ _ _ us ax=>by(obtain⟨_,_,rfl⟩:=Ky ax);rfl
 have abQ:Exc K a "RoadError" F _ _:=#[nj,Vl]
 have L1:Exc K a "NoNet" E _ _:=#[Cd,Vj]
 have BI:Exc K a "NoHouse" J _ _:=#[BK,Vi]
 have BY:Exc K a "NoRoad" C _ _:=#[B0,Vk]
 have VJ:Exc K a "NoDay" G _ _:=#[Ce,Vh]
 have CW:=FT Kv CW;have Ha:=FT L Ha;have Hb:=FT N Hb;have G_:=FT t G_;have G':=FT A G';have oK:D2 a:=#[#[_,UI],#[_,UK],#[_,UM],#[_,UO],#[_,UL]]
 have r6:I7 a:=#[#[_,UJ],#[_,UN],#[_,UH]]
 obtain⟨_,_,dq,anK,pm,an,eP,fv,_,rfl,_,_⟩:=id H5.ex;show#[m9 "law" "law" (oo Am) (l3 Am) (b5 Am) .none dq anK pm an eP fv,λs v=>.of_eq rfl,λb _ _=>?_];have Z:Mt l.prog w K a b:=⟨trivial⟩
 have ab4:=Z.fn (aeD BH.fn B);have WR:=Z.fn (aco sx.fn BH ab4);have Gt:=Z.fn (aeE uj.fn B);have M8:=Z.fn (acR pY.fn);have v_:qN K a "RoadError" j F:=#[abQ,#[_,_,_,_,_,_,t,Kv,Vm,Vg],Uk,Ti,TM,PU,T6,#[J0,KY,J7,Kd,Ki,Kc,J9],Rv]
 have n:tU K u:=#[d,Sy,Sz]
 have y:w' K x:=#[kQ,SG,SH]
 have m:tu K q:=#[jF,SE,SD,SF]
 have k:tE K i:=#[c,Sl,Sn,Sm,Sr,Sp,Sq,So]
 have o:va K M:=#[p,Sv,Su,Sw,Ss]
 have ac9:m2 K F [E,J,C,j,Y,tR,tO,tM,tQ,tP,G] E 0:=H2 L #[Qg,SU,Qz,Q6,Rj,Q3,QF] Ha (Mj Bm CD Ue (λ_=>rfl)) (H3 (by decide+kernel) Ug) (by decide) (eA.mpr #[#[_,_,_,L],(eA.mpr #[#[_,_,_,BD],(eA.mpr #[#[_,_,_,N],(eA.mpr #[#[_,_,_,t],(eA.mpr #[#[_,_,_,BA],(eA.mpr #[#[_,_,_,BG],(eA.mpr #[#[_,_,_,BC],(eA.mpr #[#[_,_,_,BB],(eA.mpr #[#[_,_,_,BF],(eA.mpr #[#[_,_,_,BE],(eA.mpr #[#[_,_,_,A],(λ_ h=>bG h e3)])])])])])])])])])])]) RK;have XB:m2 K F [E,J,C,j,Y,tR,tO,tM,tQ,tP,G] C 2:=H2 N #[Qh,SV,QA,Q7,Rk,Q4,QG] Hb (Mj Bm CD Uh (λ_=>rfl)) (H3 (by decide+kernel) Ui) (by decide) (eA.mpr #[#[_,_,_,L],(eA.mpr #[#[_,_,_,BD],(eA.mpr #[#[_,_,_,N],(eA.mpr #[#[_,_,_,t],(eA.mpr #[#[_,_,_,BA],(eA.mpr #[#[_,_,_,BG],(eA.mpr #[#[_,_,_,BC],(eA.mpr #[#[_,_,_,BB],(eA.mpr #[#[_,_,_,BF],(eA.mpr #[#[_,_,_,BE],(eA.mpr #[#[_,_,_,A],(λ_ h=>bG h e3)])])])])])])])])])])]) RL;have XA:m2 K F [E,J,C,j,Y,tR,tO,tM,tQ,tP,G] j 3:=H2 t #[J0,KY,J7,Kd,Ki,Kc,J9] G_ (Mj Bm CD Uc (λ_=>rfl)) (H3 (by decide+kernel) Ud) (by decide) (eA.mpr #[#[_,_,_,L],(eA.mpr #[#[_,_,_,BD],(eA.mpr #[#[_,_,_,N],(eA.mpr #[#[_,_,_,t],(eA.mpr #[#[_,_,_,BA],(eA.mpr #[#[_,_,_,BG],(eA.mpr #[#[_,_,_,BC],(eA.mpr #[#[_,_,_,BB],(eA.mpr #[#[_,_,_,BF],(eA.mpr #[#[_,_,_,BE],(eA.mpr #[#[_,_,_,A],(λ_ h=>bG h e3)])])])])])])])])])])]) RJ;have ac8:m2 K F [E,J,C,j,Y,tR,tO,tM,tQ,tP,G] G 10:=H2 A #[Qf,SS,Qy,Q5,Ri,Q2,QE] G' (Mj Bm CD Ua (λ_=>rfl)) (H3 (by decide+kernel) Ub) (by decide) (eA.mpr #[#[_,_,_,L],(eA.mpr #[#[_,_,_,BD],(eA.mpr #[#[_,_,_,N],(eA.mpr #[#[_,_,_,t],(eA.mpr #[#[_,_,_,BA],(eA.mpr #[#[_,_,_,BG],(eA.mpr #[#[_,_,_,BC],(eA.mpr #[#[_,_,_,BB],(eA.mpr #[#[_,_,_,BF],(eA.mpr #[#[_,_,_,BE],(eA.mpr #[#[_,_,_,A],(λ_ h=>bG h e3)])])])])])])])])])])]) RI;have SC:=Pc.say (R:=#[T,v7,JL,JK]) (D:=#[JW,JX,JY,JV,JO,JN,JS,JR,JQ,JP,JM]) #[P4,P9,Qb,P2,S5,S6,S7,S4,P7,P6,Qa,P_,P',P8,P5,G0,SY,S2,S1,S0,SZ,SX,Ta,S',Te,Td,Tc,Tb,S9];have yb:=Z.fn (akS H4 v_ nj Q9);have amF:=Z.fn (agu BW.fn B oK);have Β:=Z.fn (agv uq.fn B oK BW amF);have amG:=Z.fn (agw BX.fn oK uj Gt pY M8 sx WR);have ZP:=Z.fn (agx uy.fn B oK BX amG);have rd:=Z.fn (ag8 f.fn B n uq Β uy ZP);have amH:=Z.fn (agy f.fn B n xN L1 uq Β uy ZP);have Γ:=Z.fn (ak7 rd amH (by decide));have mw:=Z.fn (acC z.fn B n);have uz:=Z.fn (aeC ng.fn B n);have Ul:=Z.fn (aj2 Bn.fn r6 uj Gt pY M8 sx WR);have Tq:=Z.fn (agB Bk.fn B);have alv:=Z.fn (aj3 Bu.fn B r6 d z mw Bn Ul Bk Tq v_ p1 Ku Jq Km yb Ä);have RS:=Z.fn (ahr x8.fn n xN BI);have Δ:=Z.fn (agV mB.fn B n);have amI:=Z.fn (agj mB.fn B n xN BY);have Bt:=Z.fn (ajR q'.fn B n x8 RS);have R_:=Z.fn (ago A'.fn);have RC:=Z.fn (agf AY.fn A' R_);have uA:=Z.fn (akH r.fn y);have A5:=Z.fn (akI qR.fn y d xN BI z mw pY M8);have uk:=Z.fn (akJ nd.fn y d xN BY q' Bt qR A5);have Uy:=Z.fn (akM yF.fn y qR A5);have amJ:=Z.fn (akR yE.fn B y);have alw:=Z.fn (ajZ AZ.fn);have amK:=Z.fn (akP BL.fn B y d rp z mw ng uz q' Bt AY RC AZ alw r.made r uA nd uk);have Ε:=Z.fn (ah1 q0.fn m);have amL:=Z.fn (ajD yH.fn m q0 Ε);have amM:=Z.fn (ah3 yG.fn m);have Ζ:=Z.fn (agS qQ.fn m);have I9:=Z.fn (agT qO.fn m);have amN:=Z.fn (agU x9.fn m qQ Ζ qO I9);have amO:=Z.fn (ah2 yI.fn m d mB Δ);have amP:=Z.fn (aly Bo.fn m y qO I9 qQ Ζ yG amM yF Uy);have amQ:=Z.fn (ajH B1.fn B d Bo amP mB Δ);have amR:=Z.fn (alB yg.fn sG KJ KL);have amS:=Z.fn (alC ym.fn sS KN KO);have anb:=Z.fn (alD yn.fn sT KI);have anc:=Z.fn (aiD (S:=#[P,O,Q,X]) yh.fn m F5 FP F6 F7 #[Sg,Ry,RH] yg.made yg amR ym.made ym amS yn.made yn anb);have Λ:=Z.fn (alb q2.fn);have Μ:=Z.fn (alc q1.fn B sG KJ KL);have Ν:=Z.fn (ald q3.fn B sS KN KO);have Ξ:=Z.fn (ale qX.fn B sT KI);have Ο:=Z.fn (sp:=(IA i q x u)) (ajK rh.fn k GY BL amK yH.made yH amL);have Ρ:=Z.fn (sp:=(Iz i q x u)) (ajJ rj.fn k);have Τ:=Z.fn (sp:=(HW i q x u j)) (aiy rg.fn B k jF Bu alv q0 Ε);have Υ:=Z.fn (sp:=(HX K i q x u)) (aiB qZ.fn B k jF x9 amN B1 amQ yI amO);have Φ:=Z.fn (sp:=(Jh i q x u C)) (alF qY.fn k d mB amI);have ZQ:=Z.fn (sp:=(xa i q x u C w_)) (aiE rf.fn k qY Φ);have ZR:=Z.fn (sp:=(xa i q x u C s6)) (aj8 q7.fn k qY Φ);have Pd:=Z.fn (sp:=(Dg i q x u)) (aj9 nk.fn B k);have ZS:=Z.fn (sp:=(zY i q x u j #[P,O,Q,X])) (aj6 (Sp_:=#[P,O,Q,X]) jf.fn B k jF yh anc v_ p1 Ku Jq Km yb Ä);have alI:=Z.fn (akn BM.fn B);have Il:=Z.fn (ako mz.fn BM alI);have ane:=Z.fn (alu AX.fn B);have anf:=Z.fn (aiR F9.fn);have Pe:=Z.fn (aiS q_.fn B AX ane);have ang:=Z.fn (aiT EC.fn q_ Pe);have anh:=Z.fn (akp E4.fn r6 q_ Pe);have Bi:∀g sp,AB #[T,v7,JL,JK] g sp->Ai l.prog w K a b a3 3 g sp:=by intro g sp h;cases h;show#[_,_,anf.mono (by decide),F9.bd,F9.fn.eJ];show#[_,_,Pe.mono (by decide),q_.bd,q_.fn.eJ];show#[_,_,ang,EC.bd,EC.fn.eJ];show#[_,_,anh,E4.bd,E4.fn.eJ]
 have Χ:=Z.fn (ak4 uN.fn B);have ZT:=Z.fn (ajr uB.fn B Cb AE Bi);have Ψ:=Z.fn (ak6 qP.fn o kQ rp r.made r uA yE amJ nd uk);have al6:=Z.fn (ajx E'.fn o p d ot f.made f Γ z mw ng uz qP Ψ);have al7:=Z.fn (ajy Fp.fn B o p d ot f.made f Γ z mw ng uz qP Ψ);have al8:=Z.fn (ajz FG.fn o kQ A_ nd uk);have al9:=Z.fn (sp:=(OE i q M x u)) (akx FH.fn o p wX rh.made rh Ο);have ama:=Z.fn (sp:=(OA i q x u j)) (akt FI.fn B c rg Τ);have amb:=Z.fn (sp:=(OC i q x u)) (akv FJ.fn c qZ Υ mz Il);have amc:=Z.fn (sp:=(Oz i q x u)) (akq FK.fn B c rj Ρ);have amd:=Z.fn (sp:=(OD i q x u j)) (akw (S_:=#[P,O,Q,X]) FL.fn c jf ZS wt sG sS sT q2 Λ q1 Μ q3 Ν qX Ξ);have ame:=Z.fn (sp:=(z0 i q x u C w_)) (akr FN.fn c rf ZQ);have amf:=Z.fn (sp:=(z0 i q x u C s6)) (aks E_.fn c q7 ZR);have amg:=Z.fn (sp:=(OB i q x u)) (aku F'.fn c nk Pd mz Il);have aoW:∀g sp,nW i q M x u E j J C #[JW,JX,JY,JV,JO,JN,JS,JR,JQ,JP,JM] g sp->Ai l.prog w K a b (iz l.prog w) 8 g sp:=by intro g sp h;cases h;show#[_,_,aD.wide al6 (λ_ _ _ _ _ _ h=>zD h) (by decide),E'.bd,E'.fn.eJ];show#[_,_,aD.wide al7 (λ_ _ _ _ _ _ h=>zD h) (by decide),Fp.bd,Fp.fn.eJ];show#[_,_,aD.wide al8 (λ_ _ _ _ _ _ h=>h.elim) (by decide),FG.bd,FG.fn.eJ];show#[_,_,aD.wide al9 (λ_ _ _ _ _ _ h=>h.elim) (by decide),FH.bd,FH.fn.eJ];show#[_,_,aD.wide ama (λ_ _ _ _ _ _ h=>h) (by decide),FI.bd,FI.fn.eJ];show#[_,_,aD.wide amb (λ_ _ _ _ _ _ h=>h.elim) (by decide),FJ.bd,FJ.fn.eJ];show#[_,_,aD.wide amc (λ_ _ _ _ _ _ h=>h.elim) (by decide),FK.bd,FK.fn.eJ];show#[_,_,aD.wide amd (λ_ _ _ _ _ _ h=>h) (by decide),FL.bd,FL.fn.eJ];show#[_,_,aD.wide ame (λ_ _ _ _ _ _ h=>zD h) (by decide),FN.bd,FN.fn.eJ];show#[_,_,aD.wide amf (λ_ _ _ _ _ _ h=>zD h) (by decide),E_.bd,E_.fn.eJ];show#[_,_,aD.wide amg (λ_ _ _ _ _ _ h=>h.elim) (by decide),F'.bd,F'.fn.eJ]
 have ZU:=Z.fn (sp:=(spS K i q M x u E j J C G #[T,v7,JL,JK] H I U #[JW,JX,JY,JV,JO,JN,JS,JR,JQ,JP,JM])) (ajA (ah6 oa.fn o su v3 TD Ee uN Χ uB ZT aoW) (ah5 oa.fn o su v3 TD xN VJ uN Χ uB ZT));have ani:=Z.fn (ala yJ.fn o p ot rp f.made f rd r.made r uA);have Ω:=Z.fn (adc uC.fn B nj Cd BK B0 p1 F0 Gn E7 F1 F2 Go Ce);have I':=Z.fn (alx V.fn B p nj CW oa (aD.B6 ZU) uC Ω);have anj:=Z.fn (akF sz.fn B.len);have ank:=Z.fn (acB Bl.fn B);have anl:=Z.fn (ajw Bp.fn B);have anm:=Z.fn (akz (S_:=#[P,O,Q,X]) wo.fn B c rg Τ qZ Υ rj Ρ jf ZS nk Pd rf (aD.wide ZQ (λ_ _ _ _ _ _ h=>zD h) (by decide)) q7 (aD.wide ZR (λ_ _ _ _ _ _ h=>zD h) (by decide)) mz Il wt sG sS sT q2 Λ q1 Μ q3 Ν qX Ξ);have ano:=Z.fn (akA BN.fn B nj CW XA XB wo (aD.B6 anm) uC Ω);have anp:=Z.fn (aky yK.fn B);have I9:=Z.fn (aka x6.fn B SC V I');have anq:=Z.fn (akc yi.fn B SC wX ot V I' rh.made rh Ο f.made f rd);have anr:=Z.fn (akd Bq.fn B SC ac9 V I');exact akg H5 B SC XA XB ac8 G1 p c yJ.made yJ ani sz anj Bl ank Bp anl oa ZU V I' yK anp x6 I9 yi anq Bq anr BN ano nk Pd mz Il
theorem walk{l:YJ}{p:cb->Heap->Prop}{o:bf->Heap->Prop}{d:DefRec}{K:Params->aN}(y:l.most=some 63)(r:d.params.defaults=[])(t:∀(w:bf)(h:Heap),o w h->(K w.params).In h)(F:∀(w:bf)(c:cb)(m:Addr)(h:Heap),(K w.params).In h->h.Ns rB c->c d.name=some (.ref m)->
   ∃g:nY,(∀(s:aW)(u:Value),C3 s g #[[u],[]] [("_law_script",u)])/\∀b:Heap,(K w.params).In b->b.Ns rB c->aD l.prog w (K w.params) c b a3 12 m g ["_law_script"] (H_ (K w.params))):
  afu q loose p o l.row.toRowW d [] (λf vs=>YZ f vs):=
 ao.asT (n:=63) (k:=12) (x:="_law_script") (CX:=λ_=>a3) (sp:=λw=>H_ (K w.params)) y (by decide) r #[rfl,by decide,by decide] t F (λ_ _ a N A _ L=>#[a,N,rfl,L,A,λ_=>rfl]) λ_ _ _ _ _ z=>z
end dR
structure PySem.W.Fast:Prop where(tw626362099954501260 tw15859927301982603706 tw2267778762364887853 tw494984535440096187 tw16881078104554644084 tw12360994194345530590 tw2675643196686101084 tw7743473145350613993 tw647681657658771121 tw1863222028974395907 tw17565917296343516493 tw12623136589338409273 tw13144859014209655476 tw417974449687922221 tw17345983127428258959 tw7965243732085600158 tw3167593084222423969 tw16951520234526579767 tw4602212263772781561 tw11595807080147499862 tw1833988528314126440 tw16380314112143952263 tw17204853231749498938 tw583679759178912200 tw15643831595911081921 tw9338600118777103073 tw11471769348086995606 tw15647589906336445243 tw13974037106707014760 tw2558901280263947227 tw16836884150490226455 tw10830289031326570861 tw5370427500137155772 tw7097722192802180053 tw8182603828467898549 tw14854745135844555085 tw2951296915827521201 tw14750161658248183397 tw9500129689880525830 tw2756481510865922996 tw5982809636126602423 tw11416361347099598124 tw13745790137120813593 tw4869799504472019100 tw2950007309458455110 tw10750416579307618573 tw6651985209866477743 tw8767375952275711097 tw12068600661836277428 tw11910544109616447720 tw1321409238046595999 tw57859486445166321 tw17432227196622879574 tw8593138254504156785 tw11202177175469452605 tw9132095439796582562 tw1065179828802999910 tw13184837972585579097 tw9182026648103080508 tw13451268805372039125 tw6256698042981223166 tw2442024947482364451 tw6436319572346599003 tw15702884841908607966 tw14165674006136962184 tw14154947231316162230 tw15367191614330570181 tw656248574833939554 tw8569767681376023935 tw10388797351035864197 tw11699467227542933451 tw9179281001620737268 tw10466993954929090931 tw7020428758370200947 tw14775034554905924711 tw15120446759009180110 tw8786829096790156376 tw12272759623750286522 tw7763498798117695483 tw13370443925674284595 tw14052118683111833246 tw8185037052091973902 tw4759307932855652246 tw13999523660868038740 tw7533506640766503877 tw17898962779521623773 tw197248886736269377 tw8453588368965818216 tw8269521304957960064 tw1583805157624308624 tw10498509933113142585 tw14243793031813631311 tw18082345908380940137 tw14119336774176775012 tw18443132934956975222 tw3787519929486558494 tw1553797773984576891 tw8690744428349697131 tw5355326566649410594 tw18260472265796410761 tw4640512720464213329 tw3649376645866284670 tw9937771485742271482 tw7162987088949552126 tw6597152588318106006 tw11620034997241280288 tw2816994341954803544 tw1991470650038683337 tw11400998124075931735 tw1165785753062887955 tw10158459392608463900 tw1570719308055930557 tw18145991055175426781 tw15535796680679509978 tw2607970989623241053 tw4168382143885102534 tw12125841638459573526 tw4453532655687668311 tw17039700061879361891 tw17439382005073288522 tw10180878387357686523 tw596689799237651553 tw16784675383253771674 tw10238054170132870040 tw14064570773577049023 tw17878325472545798214 tw4585461214839235878 tw16828344119694941560 tw16095914809354266776 tw13708922715746932314 tw13715333220128552686 tw6836268318661227421 tw10794227632994503313 tw10028698377879469826 tw1342271705924771547 tw13371411224104570342 tw11461916791480662954 tw12148979728941628060 tw16400611293578228295 tw9424461425058899272 tw17480719510543947333 tw11565541983904740578 tw6805537302660436807 tw9336345041683893147 tw5728800349520559011 tw16232716785560394107 tw6589291437688223590 tw333780695782111353 tw7785198336301680516 tw14478155518399199492 tw721306852350935086 tw488046844116276752 tw8339254159773413474 tw2867352490740765565 tw2634169036313774591 tw6827952114035804211 tw5272519887499584771 tw14210853014727189230 tw2430590153682654158 tw13193389512327319559 tw287697727797423568 tw12070941364050027662 tw7965701190027456131 tw9061872294157781925 tw4993433222888583433 tw2710902083492664917 tw892315503787487062 tw2851115367907997791 tw4520373384364616455 tw3450560500807216788 tw2554116636488387376 tw4555934664578914038 tw283976256788455751 tw18273744798422353320 tw10493248844880910441 tw1963926815177445647 tw6855106642612226103 tw3477517004576377549 tw14076852231641838396 tw7930819827604627678 tw16788717596972344043 tw2291212906203396622 tw717362432848197038 tw6124001061230504232 tw5073698144668484307 tw8201237351599516262 tw1555687666780681528 tw3958790299172529989 tw12714753402659530163 tw7888820953720911570 tw5562156131526339998 tw1913013584658135069 tw11416427886992062907 tw11366816364356413887 tw274225158160921588 tw15633007531683860330 tw11446181163665321405 tw5839085847574872145 tw12143090383220678044 tw13824326329329194523 tw14967042733723337315 tw4392713740882659432 tw13124764017648249009 tw13973884750706717066 tw15580650592728177085 tw14885829697620928344 tw7812847441146716603 tw10298906344174816143 tw1779622574778206471 tw2218374415073021040 tw3125947384033874975 tw4322108037618868042 tw5605638833525478689 tw11335847990279991555 tw8920185522383699873 tw14371357724921809324 tw10840747583976737721 tw1432459100013350461 tw11987811751006773769 tw3554771271224971473 tw11338404361610651695 tw6445342157642550213 tw9663084067067558472 tw3960254770086046633 tw16790287626090566652 tw11995252718396598316 tw4795119091173313909 tw5623147073843007842 tw443184650654196377 tw11963579557960703681 tw6909607331239235684 tw17219092504325880155 tw16382168642802401083 tw15081774011064666264 tw2041348275191480823 tw9163265588390253506 tw6772307361590338876 tw10969045208997815065 tw1055306700581886180 tw2992672384252684732 tw10592019919086616037 tw12801933458915926475 tw7903590909762098003 tw9110243366976629539 tw16954494486002934950 tw15371821877551844509 tw4447594274733380337 tw16397999772719178485 tw11125404559106535406 tw5098749250327499137 tw10928780276928854920 tw13959557222666738161 tw303054334766347363 tw13632088929638236850 tw16828193789137666850 tw16360110703671183873 tw6114578902317352111 tw11879540124476525561 tw13981154829874688574 tw7087564177300749157 tw7836368417685063890 tw12364580268686334450 tw300660631351492269 tw1901760488809652696 tw16161727605749158523 tw3268508938260966618 tw8364500073235253459 tw10449704863707430139 tw366987421714405995 tw17966749780594457324 tw5671820330814541577 tw3600113056809246108 tw5820340473171157633 tw18368016148949869761 tw9494606035582496747 tw14339033221921196783 tw13063266929616116859 tw3464810433919680527 tw15879206089953426007 tw4536855149711810806 tw8372443905905037160 tw16491565984033421315 tw548521420045622204 tw9169230385506499684 tw2270229164279297963 tw6210755524108181272 tw16273781098074138717 tw61420185331901598 tw17947604079508355295 tw10520166304547685006 tw9539499193774676288 tw15233408291992112526 tw12358566826855711450 tw3497365992073402865 tw10415434591959690255 tw3400932243898739891 tw11734012299814444496 tw387360819407217310 tw1151794391558506009 tw8486692923604550 tw160115002169230955 tw16657080377384899073 tw14636561087971342156 tw13459850093080285287 tw16907955472076367838 tw5911183642627926760 tw14011986801674922296 tw12761734376003838678 tw1305353411384897304 tw10317731805045181320 tw17452572894510260597 tw15359985922547232836 tw13777172720795704913 tw4354575013473008278 tw8660515671845612207 tw6897365255424024855 tw2601429887326296890 tw11711392894442910204 tw14748510770737671261 tw16617480991086911043 tw11837166115025847884 tw88299511811976288 tw13718051845167697629 tw5999969292074176702 tw13999050520609845835 tw12516805828479848620 tw16490068354705992904 tw13780080804965891672 tw1410240968298248885 tw7397552418952317669 tw10578101621828040936 tw3441877134066182098 tw17075901853584679460 tw6868644979338147644 tw14287064913274965455 tw4748022479818322885 tw15086447704864667216 tw13014131210291231607 tw13553783428469089520 tw500351205614682714 tw4354384754861414644 tw6719154141432573525 tw3686934119054455008 tw13417306482069507607 tw12070264540364754321 tw16274638556577222286 tw15353743168143678108 tw13590403173306684523 tw7862661387507682552 tw12188475804445047196 tw513153360842714124 tw17249351616096343789 tw13735987438576641103 tw9161429575100006279 tw5720177785210227702 tw464495559917520061 tw3822075195547376463 tw13471253612942609698 tw8746922479693943965 tw16288235745730719396 tw14503232392268340366 tw14132035711387776598 tw13476136518491558211 tw6061082544898944496 tw13840435244380916780 tw6803579398717209194 tw5291364959698231825 tw5884023297561582000 tw3010233362784574110 tw5762569203922057178 tw3013432169094419825 tw2231236648865494204 tw12628753866397132540 tw14700145023442464562 tw13295800984102776077 tw3775276492131136208 tw13185049670241039764 tw4079248182255652364 tw18305088745338390544 tw7218811354907153839 tw3378845442974808202 tw12419118965639636593 tw7053272808700412208 tw15652169164925004485 tw4104538886161044681 tw4518040440598968504 tw7076594574442738498 tw18071077849172027921 tw17914482155281628171 tw3930867688898816138 tw10804855816378200156 tw17287516964485612773 tw3397912276751421844 tw4724225265828298331 tw15797462682317279446 tw16672977293227194853 tw2551205219793524791 tw6823513933052273607 tw6409308009356822631 tw17306726122497467161 tw10736037527327417242 tw9959843217808253968 tw8212908181446876327 tw5568309159209299832 tw13708240388133033589 tw11516367808575143701 tw16784186399077695650 tw4598819513515408623 tw11661750547287936784 tw10483370083216593405 tw7063078628503677721 tw14026515564150900079 tw267831546063956926 tw16796935528268128209 tw11239333553780328413 tw5312960774430147933 tw17095305327264225846 tw13372551015067319966 tw2614311634361411192 tw6426808492156315245 tw5336757910843116544 tw17072900826147138572 tw15213080573811369256 tw10792560446032558397 tw8050036500515652656 tw1597699966984830297 tw15666183238778647494 tw12625742464337462221 tw8173291472291898891 tw4251748513780073125 tw11421732089211954100 tw1051199775156669265 tw3538738284477759518 tw829232227828495865 tw5783717440134153205 tw5481494898469401378 tw3863916805695736402 tw1688124488704365434 tw1474588707910344401 tw13045857780807100936 tw4759179425481232666 tw10811302830402979092 tw15803745630095351 tw2206211424092199328 tw13248754438405039759 tw13733681105237753153 tw5852676226325564455 tw2425424223674810499 tw4795292617432808622 tw5988255726001168365 tw4380619125106284588 tw13752564957496672573 tw9861906729920233688 tw17099518708560607177 tw16799804016525365224 tw15711407040552342545 tw1474467233209538127 tw3095790893322846403 tw17876336789858456397 tw6566395781709939624 tw15246082135336151836 tw9357269586126210183 tw3636808086406474983 tw16981974364606137314 tw1283052976325829359 tw11068223463927649073 tw7469468758286235760 tw13086437771677452594 tw15351659449261933238 tw1502803971430222457 tw586769242948275334 tw14175084328804775636 tw16914331124054991566 tw6747531488015452015 tw5562701651500858536 tw12360177168838374639 tw4862811093647324905 tw17781922970461158772 tw9669978622382425373 tw7984484796330802611 tw17407448861319812120 tw16212741896954408159 tw11395056342706952405 tw489875648287685415 tw838559391346909072 tw5137302372864837329 tw3384337167011897127 tw11669915108375991217 tw9383971343256831903 tw3854142294969938988 tw6944216982180126348 tw6128340651267809631 tw17272047611210025970 tw16198482994036905305 tw7690038025376960694 tw14780102980614500125 tw9183443567108704957 tw16073460696968405026 tw3960110415698540731 tw10348614066326943956 tw9540058727665158941 tw906155020189109749 tw9050345374478276437 tw6527493868705351599 tw3642865834513135603 tw8931978438953418393 tw215476723300122585 tw6926612945363037044 tw8521773045689749019 tw3126534380306020586 tw4864754178621425751 tw4367956418020955319 tw4223502981285608689 tw5116991850764801330 tw16694968358585952982 tw421624834224966599 tw12044983903526633692 tw9835169753090041763 tw12255472117525004419 tw9326280924011706721 tw3034133148389604685 tw15695424938610715866 tw10943322596833796853 tw14484949361181032872 tw9147689770489508453 tw11589167830458466222 tw14458792024522072188 tw17613194664795875004 tw13055608841734729031 tw10701551961274656985 tw6635045235579443859 tw4885148763445610533 tw13077246390239298855 tw7947205377867283700 tw8818374078758985488 tw552916890720241628 tw3125864886709398033 tw17545329705920297051 tw16644559137560926172 tw13779253812721199296 tw1088793312033927216 tw3410002760583114643 tw10381704302257213413 tw13677608206829424821 tw13494903995041036228 tw497159078911585221 tw16714438522777704412 tw1503126403530594382 tw12342589435679643254 tw9155374798580098146 tw5906242637902285617 tw176152375636221719 tw17334286056417351980 tw13809393467440226082 tw17896684351869263272 tw1378633358819541039 tw12472673679277098850 tw4367461244498180293 tw3356485986772866462 tw17246897173933578884 tw12588488242962939778 tw1245188957611460901 tw10711098280902710769 tw5721830342180563488 tw5171276189495338023 tw4900056939926497090 tw5093795483406307051 tw5047033795618423517 tw18040908433185045047 tw15277155518814051325 tw11571653245211017009 tw9561171823124120153 tw16733050131811812347 tw11300798024633786982 tw8921245808668594337:True)
end
theorem K1.glueM {A B C : Type} {f : A → C} {g : B → C} {l : List A} {r : List B} (n : Nat) (h1 : (l.take n).map f = (r.take n).map g) (h2 : (l.drop n).map f = (r.drop n).map g) : l.map f = r.map g := by
  have e1 : l.map f = (l.take n ++ l.drop n).map f := by rw [List.take_append_drop]
  have e2 : r.map g = (r.take n ++ r.drop n).map g := by rw [List.take_append_drop]
  rw [e1, e2, List.map_append, List.map_append, h1, h2]
local macro_rules | `($f:ident ($_:ident $k:term $a:term $e:term)) => if f.getId.eraseMacroScopes == `Hook.obs then `(fun s : PySem.Shared => (List.map s.heap.get? (List.take 160 $a), List.map s.heap.get? (List.take 160 (List.drop 160 $a)), List.map s.heap.get? (List.take 160 (List.drop 160 (List.drop 160 $a))), List.map s.heap.get? (List.take 160 (List.drop 160 (List.drop 160 (List.drop 160 $a)))), List.map s.heap.get? (List.take 160 (List.drop 160 (List.drop 160 (List.drop 160 (List.drop 160 $a))))), List.map s.heap.get? (List.take 160 (List.drop 160 (List.drop 160 (List.drop 160 (List.drop 160 (List.drop 160 $a)))))), List.map s.heap.get? (List.take 160 (List.drop 160 (List.drop 160 (List.drop 160 (List.drop 160 (List.drop 160 (List.drop 160 $a))))))), List.map s.heap.get? (List.drop 160 (List.drop 160 (List.drop 160 (List.drop 160 (List.drop 160 (List.drop 160 (List.drop 160 $a))))))))) else if f.getId.eraseMacroScopes == `Hook.val then `(fun w : PySem.World => (List.map (fun p : PySem.Addr × PySem.Obj => some p.2) (List.take 160 ($k w.params)), List.map (fun p : PySem.Addr × PySem.Obj => some p.2) (List.take 160 (List.drop 160 ($k w.params))), List.map (fun p : PySem.Addr × PySem.Obj => some p.2) (List.take 160 (List.drop 160 (List.drop 160 ($k w.params)))), List.map (fun p : PySem.Addr × PySem.Obj => some p.2) (List.take 160 (List.drop 160 (List.drop 160 (List.drop 160 ($k w.params))))), List.map (fun p : PySem.Addr × PySem.Obj => some p.2) (List.take 160 (List.drop 160 (List.drop 160 (List.drop 160 (List.drop 160 ($k w.params)))))), List.map (fun p : PySem.Addr × PySem.Obj => some p.2) (List.take 160 (List.drop 160 (List.drop 160 (List.drop 160 (List.drop 160 (List.drop 160 ($k w.params))))))), List.map (fun p : PySem.Addr × PySem.Obj => some p.2) (List.take 160 (List.drop 160 (List.drop 160 (List.drop 160 (List.drop 160 (List.drop 160 (List.drop 160 ($k w.params)))))))), List.map (fun p : PySem.Addr × PySem.Obj => some p.2) (List.drop 160 (List.drop 160 (List.drop 160 (List.drop 160 (List.drop 160 (List.drop 160 (List.drop 160 ($k w.params)))))))))) else if f.getId.eraseMacroScopes == `Hook.of then `(fun w s h => PySem.W.InK.of $e w s (K1.glueM 160 (congrArg (fun x => x.1) h) (K1.glueM 160 (congrArg (fun x => x.2.1) h) (K1.glueM 160 (congrArg (fun x => x.2.2.1) h) (K1.glueM 160 (congrArg (fun x => x.2.2.2.1) h) (K1.glueM 160 (congrArg (fun x => x.2.2.2.2.1) h) (K1.glueM 160 (congrArg (fun x => x.2.2.2.2.2.1) h) (K1.glueM 160 (congrArg (fun x => x.2.2.2.2.2.2.1) h) (congrArg (fun x => x.2.2.2.2.2.2.2) h))))))))) else Lean.Macro.throwUnsupported
open PySem PySem.W PyProof.Rows
set_option maxRecDepth 100000 in
set_option maxHeartbeats 0 in
theorem PySem.Challenge.cw_postroad_k86_the_desks_day_holds : PySem.Challenge.rw_postroad_k86_the_desks_day.Holds := by
 w_on;o_law;k_head;(case hw=>w_witness2)
 k_fill
 refine dR.walk (l:=atY) rfl rfl (λw h Y=>PySem.W.kIn_of Y) ?F
 case F=>
  intro w mg jY h pL G ES
  refine' dR.all_mk ES ?F5 ?FP ?F6 ?F7 ?ot ?rp ?GY ?wX ?G1 ?nj ?Cd ?BK ?B0 ?p1 ?F0 ?Gn ?E7 ?F1 ?F2 ?Go ?Ce ?wt ?Sg ?RH ?q2 ?sG ?KJ ?KL ?yg ?q1 ?sS ?KN ?KO ?ym ?q3 ?sT ?KI ?yn ?qX ?gu ?Sy ?Sz ?kg ?iE ?ng ?mB ?q' ?x8 ?kQ ?SG ?SH ?nh ?nd ?A_ ?yF ?yE ?qR ?jF ?SE ?SD ?SF ?yH ?q0 ?yI ?yG ?qQ ?qO ?x9 ?yh ?fj ?Sl ?Sn ?Sm ?Sr ?Sp ?Sq ?So ?rh ?rj ?rg ?rf ?q7 ?qZ ?nk ?jf ?qY ?kk ?Sv ?Su ?Sw ?Ss ?yJ ?oa ?qP ?BH ?sx ?uj ?pY ?BW ?uq ?BX ?uy ?Bn ?Bk ?Bu ?AX ?A' ?AY ?AZ ?BL ?Bo ?B1 ?BM ?mz ?F9 ?q_ ?E4 ?EC ?uN ?uB ?E' ?Fp ?FG ?FH ?FI ?FJ ?FK ?FL ?FN ?E_ ?F' ?sz ?Bl ?Bp ?uC ?kO ?wo ?BN ?yK ?yi ?Bq ?x6 ?Pr ?H5 ?Kv ?wy ?BD ?wz ?uT ?BA ?BG ?BC ?BB ?BF ?BE ?wx ?Jq ?Km ?H4 ?Vl ?Vj ?Vi ?Vk ?Vh ?CW ?Ha ?Hb ?G_ ?G' ?UI ?UK ?UM ?UO ?UL ?UJ ?UN ?UH ?B ?Vm ?Vg ?Uk ?Ti ?Rv ?Ku ?J0 ?KY ?J7 ?Kd ?Ki ?Kc ?J9 ?TM ?PU ?T6 ?Q9 ?Ry ?Qg ?SU ?Qz ?Q6 ?Rj ?Q3 ?QF ?Qh ?SV ?QA ?Q7 ?Rk ?Q4 ?QG ?Qf ?SS ?Qy ?Q5 ?Ri ?Q2 ?QE ?Bm ?CD ?Ug ?Ue ?RK ?Ui ?Uh ?RL ?Ud ?Uc ?RJ ?Ub ?Ua ?RI ?Cb ?su ?v3 ?AE ?TD ?Ee ?P4 ?P9 ?Qb ?P2 ?P7 ?P6 ?Qa ?P_ ?P' ?P8 ?P5 ?S5 ?S6 ?S7 ?S4 ?G0 ?Ta ?SY ?S' ?S2 ?Te ?S1 ?Td ?S0 ?Tc ?SZ ?Tb ?SX ?S9
  (case F5|FP|F6|F7|ot|rp|GY|wX|G1|nj|Cd|BK|B0|p1|F0|Gn|E7|F1|F2|Go|Ce|Pr|UI|UK|UM|UO|UL|UJ|UN|UH|Cb|su|v3=>refine' afG pL G ?z;(case z=>k_is))
  (case wt|sG|sS|sT|gu|kQ|jF|fj|kk=>constructor<;>k_is)
  (case Sg|RH|KJ|KL|KN|KO|KI|Sy|Sz|SG|SH|SE|SD|SF|Sl|Sn|Sm|Sr|Sp|Sq|So|Sv|Su|Sw|Ss|Kv|wy|BD|wz|uT|BA|BG|BC|BB|BF|BE|wx|Jq|Km|Uk|Ti|Rv|Ku|J0|KY|J7|Kd|Ki|Kc|J9|TM|PU|T6|Q9|Ry|Qg|SU|Qz|Q6|Rj|Q3|QF|Qh|SV|QA|Q7|Rk|Q4|QG|Qf|SS|Qy|Q5|Ri|Q2|QE|Bm|CD|Ug|Ue|Ui|Uh|Ud|Uc|Ub|Ua=>k_is)
  (case yg|ym|yn|kg|nh|yH|rh|yJ=>refine' dR.aqc ?a ?b ?c ?d ?z ?y ?x ?u;(case a|b|c|d|z|y|x=>k_is);(case u=>intro _ _ _ _ _ _ us ax;first|(obtain⟨_,rfl⟩:=dR.RX ax;rfl)|(obtain⟨_,_,rfl⟩:=dR.Ky ax;rfl)|(obtain⟨_,_,_,rfl⟩:=dR.RY ax;rfl)|(obtain⟨_,_,_,_,rfl⟩:=dR.RZ ax;rfl)|(obtain⟨_,_,_,_,_,rfl⟩:=dR.R0 ax;rfl)))
  (case q2|q1|q3|qX|iE|ng|mB|q'|x8|nd|A_|yF|yE|qR|q0|yI|yG|qQ|qO|x9|yh|rj|rg|rf|q7|qZ|nk|jf|qY|oa|qP=>refine' dR.aqG ?a ?b ?z ?y ?x ?u;(case a|b|z|y|x=>k_is);(case u=>intro _ _ _ _ _ _ us ax;first|(obtain⟨_,rfl⟩:=dR.RX ax;rfl)|(obtain⟨_,_,rfl⟩:=dR.Ky ax;rfl)|(obtain⟨_,_,_,rfl⟩:=dR.RY ax;rfl)|(obtain⟨_,_,_,_,rfl⟩:=dR.RZ ax;rfl)|(obtain⟨_,_,_,_,_,rfl⟩:=dR.R0 ax;rfl)))
  (case BH|sx|uj|pY|BW|uq|BX|uy|Bn|Bk|Bu|AX|A'|AY|AZ|BL|Bo|B1|BM|mz|F9|q_|E4|EC|uN|uB|E'|Fp|FG|FH|FI|FJ|FK|FL|FN|E_|F'|sz|Bl|Bp|uC|kO|wo|BN|yK|yi|Bq|x6=>refine' dR.anQ pL G ?a ?z ?y ?x ?u;(case a|z|y|x=>k_is);(case u=>intro _ _ _ _ _ _ us ax;first|(obtain⟨_,rfl⟩:=dR.RX ax;rfl)|(obtain⟨_,_,rfl⟩:=dR.Ky ax;rfl)|(obtain⟨_,_,_,rfl⟩:=dR.RY ax;rfl)|(obtain⟨_,_,_,_,rfl⟩:=dR.RZ ax;rfl)|(obtain⟨_,_,_,_,_,rfl⟩:=dR.R0 ax;rfl)))
  (case H5|H4=>refine' ao.yl ?z ?y ?x;(case z|y|x=>k_is))
  (case Vl|Vj|Vi|Vk|Vh=>k_exc)
  (case CW|Ha|Hb|G_|G'|Vm|Vg|RK|RL|RJ|RI=>decide+kernel)
  (case B=>constructor<;>(refine PySem.W.mg_none_of pL G ?_;k_is))
  (case AE|TD|Ee=>refine' dR.asE ?l ?k ?s;(case l=>k_is);(case k=>repeat (first|exact mn|refine And.intro ⟨_,_,rfl,rfl⟩ ?_));(case s=>decide+kernel))
  (case P4|P9|Qb|P2|P7|P6|Qa|P_|P'|P8|P5=>refine' dR.aop ?y ?z;(case y|z=>k_is))
  (case S5|S6|S7|S4|G0|Ta|SY|S'|S2|Te|S1|Td|S0|Tc|SZ|Tb|SX|S9=>k_is)
