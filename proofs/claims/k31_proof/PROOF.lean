import PyProof.Rows.All
import Wide.All
import OpenK.AllK
import Wide.FinOn
import Lean
import PyProof.EqAt
import PyProof.EqKinds
import PyProof.TupleCall
import PySem.Challenge.RW_postroad_k31_each_goes_its_route
set_option Elab.async false
set_option linter.all false
set_option maxRecDepth 100000
abbrev aJ:=@if_neg
abbrev aO:=@if_pos
abbrev bE:=@absurd
abbrev dU:=@decide_eq_true
abbrev eM:=@decide_eq_false
abbrev e9:=@congrArg
abbrev kJ:=@of_decide_eq_true
abbrev nJ:=@decide_eq_true_iff
abbrev oK:=@beq_iff_eq
abbrev w6:=@beq_eq_false_iff_ne
open Array renaming length_toList->kQ,getD->lR,getElem?_eq_getElem->qY,getElem?_toList->qZ,getElem?_eq_none->tU,toList_push->za,toList_inj->DY,Perm.refl->R_,toList_setIfInBounds->Sa,append_assoc->ý,perm_iff_toList_perm->þ,toList->ÿ,toList_map->Ā,toList_modify->ā,toList_zip->Ă
open Bool renaming false_ne_true->fz,and_eq_true->kR,false_eq_true->tW,eq_iff_iff->DZ,eq_false_iff->Ir,not_eq_true'->Su,not_true->Sv,not_false->ĉ,or_false->Ċ,or_true->ċ
open Classical renaming choose_spec->IE,byContradiction->Ğ,choose->ğ
open False renaming elim->h7
open ForInStep renaming yield->I7
open Int renaming emod_nonneg->ky,emod_lt_of_pos->kU,toNat_natCast->lX,zero_add->t_,le_refl->zO,toNat->Ei,toNat_of_nonneg->Ej,emod_eq_of_lt->Jf,ofNat_lt->TJ,le_of_lt->aac,le_trans->aad,lt_trans->aae,natCast_nonneg->aaf,ne_of_lt->aag,sub_emod_right->aah
open List renaming length_map->bh,mem_map->cf,getElem?_eq_getElem->ct,getElem?_map->cM,range->da,getD->dr,size_toArray->ek,mem_of_getElem?->eQ,getElem_mem->eY,not_mem_nil->eZ,length_append->e8,map_append->fo,mem_cons->fp,mem_singleton->fD,map_map->fS,mem_append->fY,length_take->f_,getElem?_eq_some_iff->gj,map_cons->gk,mem_filter->gx,getElem_of_mem->hq,length_cons->hH,append_assoc->iV,append_nil->iW,nodup_cons->jf,mem_range->jH,length_range->j8,pairwise_append->kz,forall_mem_cons->kV,take_length->lY,toArray->lZ,take_add_one->mw,mem_cons_of_mem->oz,pairwise_map->oA,sum_cons->oB,any_eq_true->pN,filter_append->pO,length_drop->pP,nodup_nil->pQ,take_sublist->pR,getElem?_of_mem->q1,getElem_take->q2,map_congr_left->q3,mem_append_right->q4,getElem?_eq_none->sg,getElem_map->sh,length_filter_le->si,length_nil->sj,lookup->sk,pairwise_iff_getElem->sm,take_append_drop->so,drop_zero->ud,getElem_drop->ue,length->uf,length_pos_iff->ug,mem_cons_self->uh,nodup_append->ui,take_zero->uj,drop_sublist->wJ,filter_cons->wK,getElem_inj->wL,map_take->wM,replicate->wN,Perm.refl->zW,Perm.trans->zX,drop_eq_getElem_cons->zY,ext_getElem->zZ,filter_map->z0,find?_cons->z1,pairwise_lt_range->z2,range_succ->z3,Perm.append_left->En,all_eq_true->Eo,any_cons->Ep,drop_eq_nil_of_le->Er,exists_mem_of_ne_nil->Es,ext_getElem?->Et,filterMap_cons->Eu,getElem?_range->Ew,mem_of_mem_take->Ex,Pairwise.nil->Jq,getElem?_append_right->Jr,getElem_append_left->Js,length_eq_zero_iff->Jt,map->Ju,map_id'->Jv,map_nil->Jw,mem_filterMap->Jx,mem_flatMap->Jy,nil_append->Jz,pairwise_cons->JA,reverse_append->JB,Pairwise->T_,cons.inj->Ua,cons.injEq->Ub,drop_drop->Uc,drop_take->Ud,filter_eq_self->Ue,find?_some->Ug,getElem?_append_left->Uh,getElem?_cons_zero->Ui,getElem?_set_self->Uj,getElem_append_right->Uk,getElem_range->Ul,length_tail->Um,mem_iff_getElem->Un,mem_of_find?_eq_some->Uo,nodup_range->Up,of_mem_zip->Uq,perm_append_comm->Ur,reverse_reverse->Us,take_of_length_le->Ut,Pairwise.imp_of_mem->abt,Perm.append_right->abu,Perm.cons_inv->abv,all_cons->abw,contains_cons->abx,countP_cons->aby,countP_le_length->abz,countP_pos_iff->abA,filterMap_cons_none->abB,filterMap_cons_some->abC,filter_nil->abD,getElem?_eq_none_iff->abE,getElem?_set_ne->abF,getElem?_toArray->abG,getLastD_eq_getLast?->abH,length_eraseIdx_of_lt->abI,length_flatMap->abJ,length_set->abK,map_const'->abL,map_drop->abM,map_id->abN,map_reverse->abO,map_snd_zip->abP,mem_append_left->abQ,ne_nil_of_mem->abR,not_lt->abS,perm_append_comm_assoc->abT,range'->abU,range'_succ->abV,range_eq_range'->abW,range_succ_eq_map->abX,reverse_cons->abY,zipIdx_map_snd->abZ
open Nat renaming le_refl->b1,zero_le->dM,ne_of_lt->dP,le_trans->hc,lt_of_lt_of_le->iz,lt_of_le_of_lt->mx,le_of_lt->pT,lt_irrefl->q5,lt_succ_self->sq,lt_or_ge->um,lt_succ_of_lt->uo,ne_of_gt->uq,zero_add->ur,le_succ->wO,sub_zero->wQ,not_lt_zero->z_,le_of_eq->JI,lt_or_eq_of_le->JJ,lt_of_succ_lt->UQ,lt_trans->UR,min_eq_left->US,min_le_right->UT,sub_self->UU,succ_le_succ->UW,add_assoc->acw,le_zero->acx,mod_lt->acy,mul_le_mul->acz,succ_mul->acA,succ_ne_self->acB
open Ne renaming symm->d8
open Option renaming map_eq_some_iff->ft,some.inj->gZ,isSome_iff_exists->Ag,map_some->JO,some.injEq->U6,getD_none->ac2,isSome_map->ac3,none->ac4
open Or renaming inl->cY,inr->nv
open Prod renaming ext->EG,mk.inj->U'
open PyProof.Rows renaming seqObj->fe,elem'->f7,arrOf->gR,SortKind->ny,SortSt.mk'->nz,bubble->oL,envOfC->qd,AllBare->qW,failedOf->sN,IsTup->ub,keyKind'->Ca,IntsAre->Ek,mirror->GL,oneType'->G1,setArr->HG,Subscript_->J7,args_list_sort->Ln,args_sorted1->Lo,entry_list_sort->LX,entry_sorted->LY,get?_update_seq->Mg,kind_sorted->Oc,listUpdate_at->Ot,pairsOf->Ph,plain_sorted->Pm,seqEpoch_at->P8,slot_list_sort->Qd,subscriptTail->Qi,callWith_type1->Va,pendingOf->ZA,callWith_builtin1->adx,getElem?_mirror_all->ald,list_sort_plain->amZ,subscriptTail_builtinR->aoN,BoolOp_or->aqI,kmk_tree->aqJ,setObjOf_fresh->aqK
open PyProof.Rows.F renaming plain_set_update_loop->Ai,entry_set_update_loop->JT
open PySem renaming wpAny_bind->au,Shared->aF,wpAny->aM,wpAny_pure->a9,model->ba,World->bt,Program->bP,Paired->bX,Around->cU,FuncData->c1,Heap.get?_push_of_some->c6,mainGlobals->dc,Heap.lt_size->dm,Value.ref->dA,Value.none->dY,starEach->eb,wpAny_mono->e6,Heap.get?_push_size->ff,PyData.eqv->g4,backTo->hL,compareOp->hN,rawInt->h3,Paired.length->h8,wpAny_holding->iv,pyNext->iP,argBest->jl,bootBuiltins->jn,Obj.mapSeq->jI,PassesOwn.never->jJ,sysModules->j4,wpAny_loadPart_at->j6,SetTable->j',Str.ofString->j_,Heap.SameBut->kx,wpAny_call_entry->kO,Str.empty->kZ,codeAny->k9,sliceBounds->mm,Heap.get?_update_self->mu,PyData.int->mz,SetTable.below->mC,Value.int->mE,Value.type->mF,wpAny_newObj_type->nh,holding->nV,Heap.get?_update_other->ox,Model->oD,Obj.data_mapFields->oE,codeAny_builtin->oM,sizeLine_eq->pv,wpAny_truthy_bool->pF,PyData.canLayAll0->pW,binaryOp->p6,codeAny_mono->qa,Around.under_plainId->qX,Obj.mapFields->q6,Result->q7,intKind->rv,plainId_quiet->rJ,wpAny_call->rV,wpAny_fieldsOf->rW,wpAny_setField->rX,CmpOp->r9,DictEntry->r_,Heap.FlyingW->sb,PyData.canLay0->sr,atKey->sy,backToKw->sE,keywordEach->tg,setField->tG,standAt->tH,tupleKind->tM,ClassData->tY,Heap.size_push->t6,IsItemIter->ua,NameKind->uk,assignEach->uB,behindInMarks->uD,bindC->uE,bindL->uF,pyIter->vF,ExcBaseFacts->v',OwnTail->wR,Str->wW,Within->wZ,SetTable.grown->w0,assign->w3,callerA->w8,excClassObj->xc,getItem->xq,getMethod->xr,hashInt->xy,relayAll->yE,swapsWith->yS,valueAt->yW,wpAny_attempt->yZ,wpAny_callSpecial?_slot->y0,wpAny_dictEntries->y1,wpAny_of_eq->y2,wpAny_passesOwn->y3,BindsTo->ze,Heap.get?_update_ne->zN,Keyword->zS,Obj.isFreed_of_fields->Af,Value->Ak,mem_of_lookup->Ap,Value.str->Ax,argsOk->Az,attributeBase->AA,callWith->AJ,firstArgMember->Bo,isTrue->BZ,newExc->Cz,pickOrder->CQ,setAttr->C_,wpAny_dictEpoch->DD,wpAny_execs_nil->DE,wpAny_ite_split->DF,wpAny_letGo->DG,wpAny_newList->DH,wpAny_rule->DI,Heap.ExtBut->Ee,codeAny_call_builtin->E7,isInstance->Gk,isSubtype_type->Gl,relabel->Hk,wpAny_Call_Name_kw->H3,wpAny_isInstance->H4,wpAny_pyIter_slot->H5,wpAny_seqItems->H6,wpAny_setField_rec->H7,wpAny_standAt->H8,wpAny_updateSeq->H9,Code.quiet_builtin->IF,Obj.cls_mapFields->JL,Obj.putSet->JM,PyData.depthAll->JS,Fin->JU,Shared.TypeIs->J6,Value.bool->Km,Value.isStrOf->Kn,call_meetsIn->LD,checkCount->LG,codeAny_of_tree->LH,fits_of_scanBound->L',foldedSetIterable->Mb,instanceDict->N0,letOwnedTupleGo->Oq,noteFrame->OZ,raiseErrorWords->PM,raiseNew->PN,refuseLoop->PQ,setFlight->P9,setNext->P',slicePick->Qc,subscripted->Qj,tupleKind_room_in1->Qs,updateSeq->QL,wpAny_field->QX,wpAny_isOneOf_itemiter->QY,wpAny_isSubtype_exc->QZ,wpAny_newTuple->Q0,wpAny_pyIter_list->Q1,wpAny_tryCatch->Q2,wpAny_typeNameOfWhole_itemiter->Q3,wpAny_typeNameOfWhole_keyiter->Q4,wpAny_typeNameOf_itemiter->Q5,wpAny_typeNameOf_keyiter->Q6,Around.under->R',Code.isFrame->SM,Data.cell->SN,Data.fields->SO,Heap.HeldW->TC,Heap.MadeExcOf->TF,Heap.get?_none_of_le->TG,IsItemIterOut->TK,PyData.list->U_,Within.cons->Vo,call->Vp,frameOf->Vq,SetTable.has->VN,Value.float->V0,Walks.list->V_,builtinsNs->Wk,callSpecial?->Wl,cellsFrom->Wn,closureFor->Wo,drawOrder->Wr,entryOfKey->WJ,entryPlaceOf->WK,intKind_is->YJ,isSubtype_stop->YM,raiseStmt->ZQ,refuseLoop_ref->ZR,seqIndex_neg->ZZ,seqIndex_of->Z0,seqItems?->Z1,slot_list_getitem->Z5,wpAny_Name->Ö,wpAny_askSetting->Ø,wpAny_eqBool_int->Ù,wpAny_execs_cons->Ú,wpAny_handled->Û,wpAny_isOneOf_keyiter->Ü,wpAny_load->Ý,wpAny_runValue->Þ,wpAny_setEntries_of->ß,wpAny_throw->à,Around.under_plain->ü,Heap.get?_push_at->š,Heap.get?_some_iff->Ţ,Heap.size_update->ţ,Addr->ady,Within.nil->adW,SetTable.orStandIn->ae6,Value.isInt_shape->agm,behindIsImport->ajr,builtinLookup_eq_fast->ajG,check_set_init_1->ajM,entryFor_alias->akV,noFill_tuple_add->anC,pastItsLine_dict->an3,plainObj_wpAny_Assign_Attribute->an7,typeLookup_type->ao9,weight_type_call_type->apy,wpAny_Call_method->apz,wpAny_Compare1->apA,wpAny_Dict_empty->apB,wpAny_Expr_any->apC,wpAny_assign_Name->apD,wpAny_getItem_list_slice->apE,wpAny_isTrue_Compare1->apF,wpAny_lookBehind->apG,wpAny_mroOf_exc->apH,wpAny_notOrdered_dict->apI,wpAny_pyIter_enum->apJ,wpAny_pyIter_tuple->apK,wpAny_setEpoch_of->apL,wpAny_setState_of->apM,wpAny_specialOf->apN,wpAny_storeSet_of->apO,wpAny_tupleItemsOf->apP
open PySem.Builtin.Builtins renaming bindParams->aqo
open PySem.Builtin.Dict renaming showsAll->It,dictSlotNone->aqp,noArgs->aqq,pendingCount->aqr
open PySem.Builtin.Dict_items renaming ownsTuple->D0,ownedTupleFields->Ď,ownedTupleIsFree->ď,pairFromOwner->Đ,dictOf->aqs,newIterator->aqt
open PySem.Builtin.Frozenset renaming updateFrom->đ,addrOf->aqu,newClass->aqv,sizeOf->aqw,slot0->aqx
open PySem.Builtin.List renaming listExtendWith->Sz,listTooLong->SA,listLengthHint->Ē,listSameRef->ē,listUpdate->Ĕ
open PySem.Builtin.ObjectAttr renaming storeInOwnDict->Iu,storeInDict->ĕ,newKeyGuard->aqy
open PySem.Builtin.Range renaming rangeSize->aqz
open PySem.Calls renaming call_function_entry->D1,callWith_builtin->IA,evalArgs_plain->IB,spliced_cons->IC,spliced_nil->SG,Name_function_global->Ĝ
open PySem.Challenge renaming pw_postroad_k31_each_goes_its_route->aqL,rw_postroad_k31_each_goes_its_route->aqM
open PySem.EntryCells renaming newEntry->aqB
open PySem.EqMixed renaming eq_bool_str->aqN,eq_int_str->aqO,eq_str_bool->aqP,eq_str_int->aqQ,ne_bool_str->aqR,ne_int_str->aqS,ne_str_bool->aqT,ne_str_int->aqU
open PySem.EqNone renaming eq_bool_none->aqV,eq_int_none->aqW,eq_none_bool->aqX,eq_none_int->aqY,eq_none_none->aqZ,eq_none_str->aq0,eq_str_none->aq1,ne_bool_none->aq2,ne_int_none->aq3,ne_none_bool->aq4,ne_none_int->aq5,ne_none_none->aq6,ne_none_str->aq7,ne_str_none->aq8
open PySem.F renaming plainAttrs_list->oF,slot_list_append->oG,type_list_append->oH,called_set->uv,plain_min_loop->wV,excBase_ValueError->Aj,entry_min_loop->Vb,plainAttrs_dict->Vc,slot_dict_get->Vd,args_dict_get_2->adz,args_tuple_add_2->adA,entry_dict_get->adB,entry_tuple_add->adC,plain_extend_loop->adD,plain_list_iadd->adE,plain_set_new->adF,slot_dict_setdefault->adG,slot_set_iter->adH,slot_tuple_add->adI,store_ValueError->adJ
open PySem.Heap renaming SameBut.update->ow,ExtBut.push->zM,SameBut.extBut->Ef,IsSliceOf.new->ş,Ns1.of_empty->Š
open PySem.SeqAt renaming shaped->mB,EqAt->ae3,EqAt.int_str->ae4,EqAt.str_int->ae5
open PySem.SetTable renaming below.go->EX,probe.go->VO
open PySem.W renaming Frag->aY,findIn->dg,nsIn->dF,mg_of->fu,isFn->hu,mg_none_of->jK,kas_rev->o6,keepIn->pX,kia_one->pY,kas_ask->rA,emptyDict->su,hasDictIn->uw,hideAll->ux,instObj->uy,fnOf->wX,plainGet->wY,kas_place->x1,kas_sort->x2,excIn->Al,kitOne->Am,looks_findIn->An,specialIn->Ao,kas_desc->B9,kas_tail3->B',Looks.of_pure->Ez,callWith_K->EH,makesIn->EI,methodCall_KW->EJ,mroIn->EK,plainOver->EL,Looks->JV,lookIn->JW,subIn->JX,kas_bin->N7,kas_count->N8,OpenLaw->Ve,codeIn->Vf,findCls->Vg,hideAll_get->Vh,methodObj->Vi,of_hideAll->Vj,plainGet_of->Vk,readsIn->Vl,takerIn->Vm,takesIn->Vn,kas_descPart->YO,Looks.ld->adK,WalkO->adL,bind_fn->adM,cellsFrom_some->adN,check_slot->adO,funFrames_hide->adP,handedIn->adQ,hideAll_none->adR,kitx_dict->adS,kitx_list->adT,looks_subIn->adU,typeIn->adV
open Sum renaming inr->fw,inl->iX,inr.inj->J8,inl.inj->VQ
open True renaming intro->mD
section
abbrev bD:= List (List Nat)
abbrev cx:= Ak -> PySem.Shared -> Prop
abbrev cG:= List (ady×PySem.Obj)
abbrev cN:= wW -> Option Ak
abbrev bj:= List Nat
abbrev b4:= List ady
abbrev b_:= List Ak
abbrev bR:= List wW
abbrev c':= Array Nat
abbrev hg:= Nat -> Nat -> Bool
abbrev jj:= List (Option Nat)
abbrev ka:= Array (Option Ak)
abbrev l0:= Array (Nat×Nat×Nat)
abbrev l1:= List (wW×Int×wW)
abbrev nA:= wW×Int×wW
abbrev fh:= List Int
abbrev gm:= List PySem.Expr
abbrev iY:= List PySem.PyData
abbrev k4:= wW -> Option Int
abbrev iA:= Array Ak
abbrev Aw:= Option Ak
end
namespace ar
open PySem PySem.Spec PyProof.Rows
noncomputable abbrev br:=Sum Int Str
noncomputable def vO:br->Value->Bool
 |.inl k,v=>Value.isInt k v
 |.inr x,v=>Kn x v
noncomputable def ahN(w:bt):br->Int
 |.inl k=>xy k
 |.inr x=>hashStr w x
theorem p9:∀{k:br}{v:Value},vO k v=true->(∃i t,k=iX i/\v=mE i t)\/(∃x t,k=fw x/\v=Ax x t)
 |.inl i,v,h=>by obtain⟨t,e⟩:=agm (k:=i) (v:=v) h;exact .inl ⟨i,t,rfl,e⟩
 |.inr x,v,h=>by obtain⟨t,e⟩:=Value.isStrOf_shape (x:=x) (v:=v) h;exact .inr ⟨x,t,rfl,e⟩
theorem ũ(i:Int)(t:Tok):vO (.inl i) (.int i t)=true:=by simp[vO,Value.isInt]
theorem Ū(x:Str)(t:Tok):vO (.inr x) (.str x t)=true:=by simp[vO,Kn]
theorem aeE(a b:Int):decide ((iX a:br)=iX b)=(a==b):=by
 by_cases e:a=b
 .subst e;simp
 .have h:¬(iX a:br)=iX b:=λq=>e (VQ q);rw[eM h];exact(w6.mpr e).symm
theorem aeF(a b:Str):decide ((fw a:br)=fw b)=decide (a=b):=by
 by_cases e:a=b
 .subst e;simp
 .have h:¬(fw a:br)=fw b:=λq=>e (J8 q);rw[eM h,eM e]
theorem aeG(a:Int)(b:Str):decide ((iX a:br)=fw b)=false:=eM (λq=>nomatch q)
theorem aeH(a:Str)(b:Int):decide ((fw a:br)=iX b)=false:=eM (λq=>nomatch q)
noncomputable def hx(prog:bP)(w:bt):PySem.KeyKind prog w br where
 is:=vO
 hash:=ahN w
 inj:=λv a b aH U=>by
  rcases p9 aH with⟨i,t,rfl,rfl⟩|⟨x,t,rfl,rfl⟩
  .rcases p9 U with⟨j,u,rfl,e⟩|⟨y,u,rfl,e⟩
   .injection e with ax _;rw[ax]
   .exact nomatch e
  .rcases p9 U with⟨j,u,rfl,e⟩|⟨y,u,rfl,e⟩
   .exact nomatch e
   .injection e with ax _;rw[ax]
 byValue:=λk v h=>by rcases p9 h with⟨i,t,rfl,rfl⟩|⟨x,t,rfl,rfl⟩<;>rfl
 pyHash:=λbI h=>by
  rcases p9 bI with⟨i,t,rfl,rfl⟩|⟨x,t,rfl,rfl⟩
  .exact wpAny_pyHash_int h
  .exact wpAny_pyHash_str h
 eqBool:=λcJ bI h=>by
  rcases p9 cJ with⟨i,t,rfl,rfl⟩|⟨x,t,rfl,rfl⟩
  .rcases p9 bI with⟨j,u,rfl,rfl⟩|⟨y,u,rfl,rfl⟩
   .rw[aeE]at h;exact Ù h
   .rw[aeG]at h;exact ae4 i t y u _ _ _ _ h
  .rcases p9 bI with⟨j,u,rfl,rfl⟩|⟨y,u,rfl,rfl⟩
   .rw[aeH]at h;exact ae5 x t j u _ _ _ _ h
   .rw[aeF]at h;exact wpAny_eqBool_str h
 «strs»:=λk x t v h=>by
  rcases p9 h with⟨i,u,rfl,e⟩|⟨y,u,rfl,e⟩
  .exact nomatch e
  .injection e with ax _;subst ax;cases v<;>rfl
theorem aqb(prog:bP)(w:bt)(i:Int)(t:Tok):(hx prog w).is (.inl i) (.int i t)=true:=ũ i t
theorem aqc(prog:bP)(w:bt)(x:Str)(t:Tok):(hx prog w).is (.inr x) (.str x t)=true:=Ū x t
inductive V where
 |bV|bf (b:Bool)|int (i:Int)|str (x:Str)|l4 (b:Array UInt8)|uT (b:UInt64)|ref (a:Addr)|ty (n:String)
 deriving DecidableEq
abbrev a':= List V
abbrev l2:= Option V
noncomputable def RelV:V->Value->Prop
 |.bV,u=>u=dY
 |.bf b,u=>u=Km b
 |.int i,u=>∃t,u=mE i t
 |.str x,u=>∃t,u=Ax x t
 |.l4 b,u=>∃t,u=Value.bytes b t
 |.uT b,u=>∃t,u=V0 b t
 |.ref a,u=>u=dA a
 |.ty n,u=>u=mF n
noncomputable abbrev cp:List V->List Value->Prop:=bX RelV
theorem cp.length{xs:a'}{us:b_}(r:cp xs us):xs.length=us.length:=h8 r
theorem cp.get:∀{xs:a'}{us:b_}{i:Nat}{x:V},cp xs us->xs[i]?=some x->∃u,us[i]?=some u/\RelV x u
 |_,_,_,_,.nil,e=>by simp at e
 |_,_,0,_,.cons r _,e=>by simp at e;subst e;exact⟨_,rfl,r⟩
 |_,_,i+1,x,.cons _ t,e=>by obtain⟨u,ag,af⟩:=cp.get (i:=i) (x:=x) t (by simpa using e);exact⟨u,by simpa using ag,af⟩
theorem cp.set{x:V}{u:Value}(r:RelV x u):∀{xs:a'}{us:b_}(i:Nat),cp xs us->cp (xs.set i x) (us.set i u)
 |_,_,_,.nil=>.nil
 |_,_,0,.cons _ t=>.cons r t
 |_,_,i+1,.cons q t=>.cons q (cp.set r i t)
theorem cp.append:∀{xs ys:a'}{us ws:b_},cp xs us->cp ys ws->cp (xs++ys) (us++ws)
 |_,_,_,_,.nil,s=>s
 |_,_,_,_,.cons r t,s=>.cons r (cp.append t s)
theorem cp.take:∀{xs:a'}{us:b_}(n:Nat),cp xs us->cp (xs.take n) (us.take n)
 |_,_,0,_=>.nil
 |_,_,_+1,.nil=>.nil
 |_,_,n+1,.cons r t=>.cons r (cp.take n t)
theorem cp.drop:∀{xs:a'}{us:b_}(n:Nat),cp xs us->cp (xs.drop n) (us.drop n)
 |_,_,0,r=>r
 |_,_,_+1,.nil=>.nil
 |_,_,n+1,.cons _ t=>cp.drop n t
theorem cp.none_of:∀{xs:a'}{us:b_}{i:Nat},cp xs us->xs[i]?=none->us[i]?=none:=λ{xs us i}r e=>by have ag:=r.length;have af:xs.length<=i:=abE.mp e;exact abE.mpr (by omega)
noncomputable def i':Option V->Option Value->Prop
 |some v,some u=>RelV v u
 |none,none=>True
 |_,_=>False
noncomputable def gv{κ:Type}:List (κ×V)->List (κ×Value)->Prop:=bX λ(p:κ×V)(q:κ×Value)=>p.1=q.1/\RelV p.2 q.2
noncomputable def di:br->V
 |.inl i=>.int i
 |.inr x=>.str x
inductive d4 where
  |lst (xs:a')
  |tup (xs:a')
  |cD (kvs:List (br×V))|c4 (kvs:List (List br×V))
  |set (S:Int->Bool) (n:Nat)
  |ins (C av:Addr) (fs:List (Str×V))
  |own (x:Addr)
  |Ih (fs:List (Str×V))
  |met (f x:Addr)
  |Hm (lo ai:Int)
  |ee (o:Obj) (u:d4)
  |pz (ps:iA)
  |ext (qU:Heap->Prop)
noncomputable abbrev aa:=Addr->Option d4
noncomputable def upd(H:aa)(a:Addr)(o:d4):aa:=λb=>if b=a then some o else H b
theorem a8{H:aa}{a:Addr}{o:d4}:upd H a o a=some o:=by unfold upd;rw[aO rfl]
theorem aL{H:aa}{a b:Addr}{o:d4}(h:b≠a):upd H a o b=H b:=by unfold upd;rw[aJ h]
theorem SW{H:aa}{a:Addr}{o u:d4}:upd (upd H a o) a u=upd H a u:=by funext b;unfold upd;split<;>rfl
theorem hO{H:aa}{a b:Addr}{o u:d4}(h:H a=some o)(h':H b=some u)(d:o≠u):a≠b:=by intro e;subst e;rw[h]at h';exact d (gZ h')
theorem dn{H:aa}{a b:Addr}{o:d4}(h:H a=some o)(h':H b=none):a≠b:=by intro e;subst e;rw[h]at h';cases h'
section
variable(P:bP)(w:bt)
noncomputable def er(H:aa)(h:Heap)(a:Addr):d4->Prop
 |.lst xs=>xs.length<=sizeLine/\∃(its:b_)(n:Nat),cp xs its/\h.get? a=some {cls:=.type "list",data:=.seq its.toArray n}
 |.tup xs=>xs.length<=sizeLine/\∃its:List Value,cp xs its/\ub h a its.toArray
 |.cD kvs=>kvs.length<=sizeLine/\(a==j4)=false/\∃vs,gv kvs vs/\h.DictOf (hx P w) a vs
 |.c4 kvs=>kvs.length<=sizeLine/\(a==j4)=false/\∃xs:List (List br×Addr×Value),
   bX (λ(p:List br×V)(q:List br×Addr×Value)=>p.1=q.1/\H q.2.1=some (.tup (p.1.map di))/\RelV p.2 q.2.2) kvs xs/\
   ∃o es ep,h.get? a=some o/\o.ExactDict/\o.data=.dict es ep/\es.toList=xs.map (WJ (tM (hx P w)))/\(xs.map (·.1)).Nodup
 |.set S n=>h.SetOf (rv P w) a S n
 |.ins C av fs=>H av=some (.own a)/\fs.length<=1000/\av≠a/\h.get? a=some (uy C av)/\
   ∃mA,h.Ns1 av mA/\(∀f,i' (fs.lookup f) (mA f))/\wZ mA (fs.map (·.1))
 |.own _=>∃o,h.get? a=some o
 |.Ih fs=>∃mA,h.Ns1 a mA/\∀f,i' (fs.lookup f) (mA f)
 |.Hm lo ai=>∃t u v,h.get? a=some {cls:=.type "range",data:=.fields #[.int lo t,.int ai u,.int 1 v]}
 |.ee o u=>h.get? a=some o/\er H h a u
 |.pz ps=>h.get? a=some {cls:=.none,data:=.fields ps}
 |.met f x=>h.get? a=some (Vi (.ref f) (.ref x))
 |.ext qU=>qU h/\(∃o,h.get? a=some o)/\∀ag af:Heap,qU ag->(∀o,ag.get? a=some o->af.get? a=some o)->qU af
noncomputable def fC(H:aa)(h:Heap):Prop:=∀a o,H a=some o->er P w H h a o
end
section
variable{P:bP}{w:bt}{H H':aa}{h h':Heap}{a:Addr}{o:d4}
theorem er.lt(x:er P w H h a o):a<h.objs.size:=by
 cases o with
 |lst xs=>obtain⟨_,_,_,_,e⟩:=x;exact dm e
 |tup xs=>obtain⟨_,_,_,p⟩:=x;exact p.lt
 |cD kvs=>obtain⟨_,_,_,_,o,_,_,e,_⟩:=x;exact dm e
 |c4 kvs=>obtain⟨_,_,_,_,o,_,_,e,_⟩:=x;exact dm e
 |set S n=>obtain⟨o,_,_,_,e,_⟩:=x;exact dm e
 |ins C av fs=>obtain⟨_,_,_,e,_⟩:=x;exact dm e
 |own y=>obtain⟨_,e⟩:=x;exact dm e
 |Ih fs=>obtain⟨_,⟨_,_,_,e,_⟩,_⟩:=x;exact dm e
 |Hm lo ai=>obtain⟨_,_,_,e⟩:=x;exact dm e
 |ee ob u=>obtain⟨e,_⟩:=x;exact dm e
 |pz ps=>exact dm (show h.get? a=some _ from x)
 |met f y=>exact dm (show h.get? a=some _ from x)
 |ext qU=>obtain⟨_,⟨_,e⟩,_⟩:=x;exact dm e
theorem bX.iN{α β:Type}{F G:α->β->Prop}:∀{Y1:List α}{Y2:List β},bX F Y1 Y2->(∀a b,F a b->G a b)->bX G Y1 Y2
 |_,_,.nil,_=>.nil
 |_,_,.cons r t,f=>.cons (f _ _ r) (bX.iN t f)
theorem er.oj(x:er P w H h a o)(k:∀b u,(b=a\/H b=some (.own a))->h.get? b=some u->h'.get? b=some u)(aR:∀b,H b=some (.own a)->H' b=some (.own a))(cO:∀b xs,H b=some (.tup xs)->H' b=some (.tup xs)):er P w H' h' a o:=by
 induction o with
 |lst xs=>obtain⟨z,its,n,r,e⟩:=x;exact⟨z,its,n,r,k _ _ (.inl rfl) e⟩
 |tup xs=>obtain⟨z,its,r,ob,e,c⟩:=x;exact⟨z,its,r,ob,k _ _ (.inl rfl) e,c⟩
 |cD kvs=>obtain⟨z,y,vs,r,ob,es,ep,e,c⟩:=x;exact⟨z,y,vs,r,ob,es,ep,k _ _ (.inl rfl) e,c⟩
 |c4 kvs=>
  obtain⟨z,y,xs,r,ob,es,ep,e,c⟩:=x;exact⟨z,y,xs,bX.iN r λp q z=>⟨z.1,cO _ _ z.2.1,z.2.2⟩,ob,es,ep,k _ _ (.inl rfl) e,c⟩
 |set S n=>obtain⟨ob,es,ep,t,e,c⟩:=x;exact⟨ob,es,ep,t,k _ _ (.inl rfl) e,c⟩
 |ins C av fs=>
  obtain⟨d,z,ne,e,mA,⟨cR,es,ep,az,c⟩,r⟩:=x;exact⟨aR _ d,z,ne,k _ _ (.inl rfl) e,mA,⟨cR,es,ep,k _ _ (.inr d) az,c⟩,r⟩
 |own y=>obtain⟨ob,e⟩:=x;exact⟨ob,k _ _ (.inl rfl) e⟩
 |Ih fs=>obtain⟨mA,⟨cR,es,ep,e,c⟩,r⟩:=x;exact⟨mA,⟨cR,es,ep,k _ _ (.inl rfl) e,c⟩,r⟩
 |Hm lo ai=>obtain⟨t,u,v,e⟩:=x;exact⟨t,u,v,k _ _ (.inl rfl) e⟩
 |ee ob u bk=>obtain⟨e,q⟩:=x;exact⟨k _ _ (.inl rfl) e,bk q⟩
 |pz ps=>
  have e:h.get? a=some {cls:=.none,data:=.fields ps}:=x;show h'.get? a=some {cls:=.none,data:=.fields ps};exact k a _ (.inl rfl) e
 |met f y=>
  have e:h.get? a=some (Vi (.ref f) (.ref y)):=x;show h'.get? a=some (Vi (.ref f) (.ref y));exact k a _ (.inl rfl) e
 |ext qU=>obtain⟨p,⟨o,e⟩,st⟩:=x;exact⟨st _ _ p λo q=>k _ _ (.inl rfl) q,⟨o,k _ _ (.inl rfl) e⟩,st⟩
theorem fC.lt(x:fC P w H h)(e:H a=some o):a<h.objs.size:=(x a o e).lt
theorem fC.fresh(x:fC P w H h)(e:h.objs.size<=a):H a=none:=by
 cases q:H a with
 |none=>rfl
 |some u=>exact bE (iz (x.lt q) e) (q5 _)
theorem fC.kept(x:fC P w H h)(k:∀b u,h.get? b=some u->h'.get? b=some u):fC P w H h':=λa o e=>
 (x a o e).oj (λb u _ q=>k b u q) (λ_ q=>q) λ_ _ q=>q
theorem fC.laid(x:fC P w H h)(k:∀b u,h.get? b=some u->h'.get? b=some u)(aP:h.objs.size<=a)(new:er P w (upd H a o) h' a o):fC P w (upd H a o) h':=λb u e=>by
 have aD:=x.fresh aP;by_cases U:b=a
 .subst U;rw[a8]at e;cases e;exact new
 .rw[aL U]at e;exact(x b u e).oj (λc v _ q=>k c v q) (λc q=>by rw[aL (dn q aD)];exact q) λc xs q=>by rw[aL (dn q aD)];exact q
end
noncomputable def fv(H:aa)(a:Addr)(u:d4):Prop:=H a=some u\/∃o,H a=some (.ee o u)
theorem fv.ok{P:bP}{w:bt}{H:aa}{h:Heap}{a:Addr}{u:d4}(r:fv H a u)(x:fC P w H h):er P w H h a u:=by
 rcases r with r|⟨o,r⟩
 .exact x a u r
 .obtain⟨_,q⟩:=x a _ r;exact q
noncomputable def z9:Option d4->Prop
 |some (.lst _)=>True
 |some (.cD _)=>True
 |some (.c4 _)=>True
 |some (.set _ _)=>True
 |some (.ins _ _ _)=>True
 |some (.ext _)=>True
 |_=>False
section
variable{P:bP}{w:bt}{H:aa}{h h':Heap}{x e:Addr}{cQ:d4}
theorem fC.write(ok:fC P w H h)(ik:z9 (H x))(he:e=x\/H e=some (.own x))(k:∀b u,b≠e->h.get? b=some u->h'.get? b=some u)(xE:∃u,h'.get? e=some u)(new:er P w (upd H x cQ) h' x cQ):fC P w (upd H x cQ) h':=λb u q=>by
 have Zl:∀c y,H c=some (.own y)->c≠x:=λc y r z=>by subst z;rw[r]at ik;exact ik
 have anR:∀c xs,H c=some (.tup xs)->c≠x:=λc xs r z=>by subst z;rw[r]at ik;exact ik
 by_cases U:b=x
 .subst U;rw[a8]at q;cases q;exact new
 .rw[aL U]at q;by_cases jw:b=e
  .have dj:H b=some (.own x):=by
    rcases he with z|z
    .exact bE (jw.trans z) U
    .rw[jw];exact z
   rw[q]at dj;cases dj;obtain⟨v,bI⟩:=xE;exact⟨v,by rw[jw];exact bI⟩
  .refine(ok b u q).oj (λc v aC r=>k c v ?_ r) (λc r=>by rw[aL (Zl c b r)];exact r) λc xs r=>by rw[aL (anR c xs r)];exact r
   rcases aC with rfl|aC
   .exact jw
   .rintro rfl;rcases he with z|z
    .exact Zl c b aC z
    .rw[aC]at z;cases z;exact U rfl
end
structure hJ(fs ex:b4)(H H':aa)(h h':Heap):Prop where
 keep:∀b o,h.get? b=some o->H b=none->b∉fs->b∉ex->h'.get? b=some o
 slot:∀b o,h.get? b=some o->H b=none->b∈fs->b∉ex->∃sl,h'.get? b=some {o with slots:=sl}
 free:∀b o,h.get? b=some o->H b=none->b∉ex->H' b=none
 there:∀b o,h.get? b=some o->b∉ex->∃cQ,h'.get? b=some cQ
 ir:∀b xs,H b=some (.tup xs)->H' b=some (.tup xs)
 jt:∀b o u,H b=some (.ee o u)->H' b=some (.ee o u)
 j5:∀b ps,H b=some (.pz ps)->∃more,H' b=some (.pz (ps++more))
section
variable{fs ak9 ex aro:b4}{H H1 aj:aa}{h ag af h':Heap}{a x e:Addr}{o:d4}
theorem hJ.any(u:hJ fs ex H H1 h ag){b:Addr}{ob:Obj}(q:h.get? b=some ob)(n:H b=none)(ao:b∉ex):∃sl,ag.get? b=some {ob with slots:=sl}:=by
 by_cases U:b∈fs
 .exact u.slot b ob q n U ao
 .exact⟨ob.slots,u.keep b ob q n U ao⟩
theorem hJ.kept(k:∀b u,h.get? b=some u->h'.get? b=some u):hJ fs ex H H h h':=
 ⟨λb ob q _ _ _=>k b ob q,λb ob q _ _ _=>⟨ob.slots,k b ob q⟩,λ_ _ _ n _=>n,λb ob q _=>⟨ob,k b ob q⟩,λ_ _ q=>q,λ_ _ _ q=>q,λ_ ps q=>⟨#[],by rw[q];simp⟩⟩
theorem hJ.refl:hJ fs ex H H h h:=hJ.kept λ_ _ q=>q
theorem hJ.laid(k:∀b u,h.get? b=some u->h'.get? b=some u)(aP:h.objs.size<=a)(aD:H a=none):hJ fs ex H (upd H a o) h h' where
 keep:=λb u q _ _ _=>k b u q
 slot:=λb u q _ _ _=>⟨u.slots,k b u q⟩
 free:=λb u q n _=>by rw[aL (dP (iz (dm q) aP))];exact n
 there:=λb u q _=>⟨u,k b u q⟩
 ir:=λb xs q=>by rw[aL (dn q aD)];exact q
 jt:=λb u xs q=>by rw[aL (dn q aD)];exact q
 j5:=λb ps q=>⟨#[],by rw[aL (dn q aD),q];simp⟩
theorem hJ.write(ik:z9 (H x))(he:e=x\/H e=some (.own x))(k:∀b u,b≠e->h.get? b=some u->h'.get? b=some u)(xE:∃u,h'.get? e=some u):hJ fs ex H (upd H x o) h h':=by
 have ao:∀b,H b=none->b≠x:=λb n z=>by subst z;rw[n]at ik;exact ik
 have U:∀b,H b=none->b≠e:=λb n z=>by
  subst z;rcases he with r|r
  .exact ao b n r
  .rw[n]at r;cases r
 have hm:∀b u,H b=some u->¬z9 (some u)->b≠x:=λb u q nm z=>by subst z;rw[q]at ik;exact nm ik
 refine⟨λb u q n _ _=>k b u (U b n) q,λb u q n _ _=>⟨u.slots,k b u (U b n) q⟩,λb u q n _=>by rw[aL (ao b n)];exact n,λb u q _=>?_,
  λb xs q=>by rw[aL (hm b _ q λz=>z)];exact q,λb u xs q=>by rw[aL (hm b _ q λz=>z)];exact q,λb ps q=>⟨#[],by rw[aL (hm b _ q λz=>z),q];simp⟩⟩
 by_cases jw:b=e
 .subst jw;exact xE
 .exact⟨u,k b u jw q⟩
end
noncomputable def HW(h:Heap)(H:aa):List Addr:=(da h.objs.size).filter λa=>(H a).isSome
noncomputable def rZ(h:Heap)(H:aa):Heap:=ux h (HW h H)
theorem ū(h:Heap)(H:aa):(rZ h H).objs.size=h.objs.size:=PySem.W.hideAll_size _ _
theorem aaW{h:Heap}{H:aa}{b:Addr}{o:Obj}(e:h.get? b=some o)(n:H b=none):(rZ h H).get? b=some o:=
 Vh _ e λhm=>by have q:(H b).isSome=true:=(gx.mp hm).2;rw[n]at q;simp at q
theorem acp{h:Heap}{H:aa}{b:Addr}{o:Obj}(e:(rZ h H).get? b=some o):h.get? b=some o/\H b=none:=by
 have b9:h.get? b=some o:=Vj (HW h H) e;refine⟨b9,?_⟩;cases q:H b with
 |none=>rfl
 |some x=>
  have hm:b∈HW h H:=gx.mpr ⟨jH.mpr (dm b9),by simp[q]⟩;have z:(rZ h H).get? b=none:=adR (HW h H) hm;rw[z]at e;cases e
noncomputable def acR(g h:Heap)(L:Addr):List (Addr×Obj):=(da h.objs.size).filterMap λa=>if a=L\/(g.get? a).isSome=true then none else(h.get? a).map λo=>(a,o)
noncomputable def rest(g h:Heap)(L d:Addr):List (Addr×Obj):=(acR g h L).filter λp=>decide (p.1≠d)
structure Mod(K:aY)(ae:cN)(base:Heap):Prop where
 th:K.In base
 glob:base.Ns dc ae
 blt:∃n7,base.Ns Wk n7/\∀x:Str,x≠"__name__"->n7 x=jn x
 nolimit:base.NoLimit
structure bB where
 prog:bP
 w:bt
 K:aY
 ae:Str->Option Value
 base:Heap
 A:cU
 N:List Str
 h4:aF
 lV:aa
 env:Env
 outer:List Env
 stack:List Env
 ex:List Addr
 fn:Str->Bool
 calm:Bool
 d_:List (Addr×Obj)
 dD:Value->aF->Prop
noncomputable def f9(l:List Env):List Addr:=l.filterMap (·.frame)
noncomputable abbrev bB.fs(X:bB):List Addr:=f9 X.outer
noncomputable def Ko(sc:Scope)(x:Str):Prop:=sc.names.lookup x=some .local\/sc.names.lookup x=some .cell\/sc.names.lookup x=some .free
noncomputable def Loc(sc:Scope)(x:Str):Prop:=sc.names.lookup x=some .local\/sc.names.lookup x=some .cell
noncomputable def Look(env:Env)(h:Heap)(m:cN)(x:Str)(u:Value):Prop:=
 (env.kindOf x=some .local/\m x=some u)\/((env.kindOf x=some .cell\/env.kindOf x=some .free)/\∃c,env.cells.lookup x=some c/\h.IsCell c (some u))
structure bB.Ok(X:bB):Prop where
 mod:Mod X.K X.ae X.base
 kind:X.env.scope.kind=.function
 glob:X.env.globals=dc
 blt:X.env.builtins=Wk
 above:X.h4.heap.objs.size<=X.env.locals
 inj:∀x y c,X.env.cells.lookup x=some c->X.env.cells.lookup y=some c->x=y
 has:∀x,(X.env.kindOf x=some .cell\/X.env.kindOf x=some .free)->∃c,X.env.cells.lookup x=some c
 uH:∀x c,X.fn x=true->X.env.cells.lookup x=some c->X.h4.heap.objs.size<=c
 hd:X.calm=true->X.A.handled=none
 frames:X.A.frames=some X.stack
 qH:X.stack=X.outer\/(X.stack=X.env::X.outer/\X.env.frame=some X.env.locals)
 Ff:∀b∈X.ex,b≠X.env.locals/\∀x c,X.env.cells.lookup x=some c->c≠b
 bs:∀b o,X.base.get? b=some o->X.h4.heap.get? b=some o/\X.lV b=none
 p8:X.base.objs.size<=X.h4.heap.objs.size
 vq:∀b o,X.base.get? b=some o->b∉X.ex
 xd:∀b∈X.ex,b∉X.fs
 jT:X.h4.heap.FunFrames X.base X.outer
 rg:∀b∈X.fs,X.lV b=none
structure Inv(X:bB)(pins:cG)(σ:List (Option V))(H:aa)(s:aF):Prop where
 ok:X.Ok
 os:s.os=X.h4.os
 bare:qW s.gens
 base:hJ X.fs X.ex X.lV H X.h4.heap s.heap
 loc:∃m,s.heap.Ns X.env.locals m/\∀(i:Nat)(x:Str)(v:V),X.N[i]?=some x->σ[i]?=some (some v)->Ko X.env.scope x->∃u,RelV v u/\Look X.env s.heap m x u
 cell:∀x c,X.env.cells.lookup x=some c->∃v,s.heap.IsCell c v
 free:H X.env.locals=none
 l9:∀x c,X.env.cells.lookup x=some c->H c=none
 pin:∀p∈X.d_++pins,s.heap.get? p.1=some p.2/\H p.1=none/\p.1≠X.env.locals/\p.1∉X.fs/\∀v,p.2.data≠.cell v
 bo:fC X.prog X.w H s.heap
 len:σ.length=X.N.length
section
variable{X:bB}{pins:cG}{σ:List (Option V)}{H H':aa}{s:aF}{h':Heap}
theorem bB.Ok.anD(ok:X.Ok){b:Addr}{o:Obj}(e:X.base.get? b=some o):b∉X.fs:=λU=>by have:=(ok.jT.mem U).1;rw[e]at this;cases this
theorem Inv.bs(I:Inv X pins σ H s):∀b o,X.base.get? b=some o->s.heap.get? b=some o/\H b=none:=λb o e=>
 ⟨I.base.keep b o (I.ok.bs b o e).1 (I.ok.bs b o e).2 (I.ok.anD e) (I.ok.vq b o e),I.base.free b o (I.ok.bs b o e).1 (I.ok.bs b o e).2 (I.ok.vq b o e)⟩
theorem Inv.gU(I:Inv X pins σ H s):∀b o,X.base.get? b=some o->s.heap.get? b=some o:=λb o e=>(I.bs b o e).1
theorem Inv.mod(I:Inv X pins σ H s):Mod X.K X.ae X.base:=I.ok.mod
theorem Inv.fb(I:Inv X pins σ H s):X.K.In s.heap:=I.ok.mod.th.keeps I.gU
theorem Inv.lt(I:Inv X pins σ H s):X.env.locals<s.heap.objs.size:=let⟨_,aD,_⟩:=I.loc;aD.lt
theorem Inv.jD(I:Inv X pins σ H s):X.h4.heap.objs.size<=s.heap.objs.size:=hc I.ok.above (pT I.lt)
theorem Inv.anF(I:Inv X pins σ H s){a:Addr}(h:s.heap.objs.size<=a):a∉X.fs:=λU=>by obtain⟨_,o,aR,_⟩:=I.ok.jT.mem U;exact bE (iz (dm aR) (hc I.jD h)) (q5 _)
theorem Inv.uI(I:Inv X pins σ H s):∀x c,X.env.cells.lookup x=some c->c≠X.env.locals:=λx c e z=>by obtain⟨v,o,aR,hd⟩:=I.cell x c e;obtain⟨m,⟨cQ,es,ep,jz,mc,_⟩,_⟩:=I.loc;rw[z,jz]at aR;cases aR;rw[mc]at hd;cases hd
theorem Inv.jT(I:Inv X pins σ H s):s.heap.FunFrames X.base X.outer:=by
 have all:∀(l:List Env),(∀b∈f9 l,b∈X.fs)->X.h4.heap.FunFrames X.base l->s.heap.FunFrames X.base l:=by
  intro l
  induction l with
  |nil=>intro _ _;trivial
  |cons env r bk=>
   intro hs aq;obtain⟨aE,⟨L,o,hf,aD,aR,hd⟩,ay⟩:=aq;have gJ:L∈X.fs:=hs L (by unfold f9;rw[Eu,hf];exact uh);obtain⟨sl,e⟩:=I.base.slot L o aR (I.ok.rg L gJ) gJ λz=>I.ok.xd L z gJ;exact⟨aE,⟨L,_,hf,aD,e,hd⟩,bk (λb U=>hs b (by unfold f9;rw[Eu,hf];exact oz _ U)) ay⟩
 exact all X.outer (λ_ U=>U) I.ok.jT
theorem Inv.stack(I:Inv X pins σ H s):s.heap.FunFrames X.base X.stack:=by
 rcases I.ok.qH with e|⟨e,hf⟩
 .rw[e];exact I.jT
 .rw[e];obtain⟨m,aD,_⟩:=I.loc;refine .cons (by rw[I.ok.kind];decide) hf aD ?_ I.jT;exact TG (hc I.ok.p8 I.ok.above)
theorem Inv.Dg(I:Inv X pins σ H s):∀b∈f9 X.stack,b∈X.env.locals::X.fs:=λb U=>by
 rcases I.ok.qH with e|⟨e,hf⟩
 .rw[e]at U;exact oz _ U
 .rw[e]at U;unfold f9 at U;rw[Eu,hf]at U;exact U
theorem Inv.HK(I:Inv X pins σ H s):∀b∈f9 X.stack,H b=none:=λb U=>by
 rcases fp.mp (I.Dg b U)with e|U
 .rw[e];exact I.free
 .obtain⟨_,o,aR,_⟩:=I.ok.jT.mem U;exact I.base.free b o aR (I.ok.rg b U) λz=>I.ok.xd b z U
theorem Inv.step{g':Array GenState}{t':Nat}{d':Drawn}{ch:b4}(I:Inv X pins σ H s)(iJ:∀b∈ch,(b∈X.ex\/X.h4.heap.objs.size<=b)/\b≠X.env.locals/\(∀x c,X.env.cells.lookup x=some c->c≠b)/\∀p∈X.d_++pins,p.1≠b)(keep:∀b o,b≠X.env.locals->b∉X.fs->b∉ch->s.heap.get? b=some o->H b=none->h'.get? b=some o)(slot:∀b o,b≠X.env.locals->b∈X.fs->b∉ch->s.heap.get? b=some o->H b=none->∃sl,h'.get? b=some {o with slots:=sl})(free:∀b o,b∉ch->s.heap.get? b=some o->H b=none->H' b=none)(there:∀b o,b∉ch->s.heap.get? b=some o->∃cQ,h'.get? b=some cQ)(ir:∀b xs,H b=some (.tup xs)->H' b=some (.tup xs))(jt:∀b o u,H b=some (.ee o u)->H' b=some (.ee o u))(j5:∀b ps,H b=some (.pz ps)->∃more,H' b=some (.pz (ps++more)))(ns:∀m,s.heap.Ns X.env.locals m->h'.Ns X.env.locals m)(bo:fC X.prog X.w H' h')(bx:qW g'):
  Inv X pins σ H' {s with heap:=h',gens:=g',drawn:=d',toks:=t'}:=by
 have Ze:∀b o,X.h4.heap.get? b=some o->b≠X.env.locals:=λb o e=>dP (iz (dm e) I.ok.above);have GU:∀b o,X.h4.heap.get? b=some o->b∉X.ex->b∉ch:=λb o e ao U=>by
  rcases(iJ b U).1 with z|z
  .exact ao z
  .exact bE (iz (dm e) z) (q5 _)
 have cellK:∀x c,X.env.cells.lookup x=some c->∀v,s.heap.IsCell c v->h'.IsCell c v:=λx c e v⟨o,aR,hd⟩=>by
  have pf:c∉ch:=λz=>(iJ c z).2.2.1 x c e rfl;by_cases aC:c∈X.fs
  .obtain⟨sl,q⟩:=slot c o (I.uI x c e) aC pf aR (I.l9 x c e);exact⟨_,q,hd⟩
  .exact⟨o,keep c o (I.uI x c e) aC pf aR (I.l9 x c e),hd⟩
 refine⟨I.ok,I.os,bx,⟨λb o e n U ao=>?_,λb o e n U ao=>?_,λb o e n ao=>?_,λb o e ao=>?_,λb xs e=>ir b xs (I.base.ir b xs e),λb o xs e=>jt b o xs (I.base.jt b o xs e),λb ps e=>?_⟩,?_,λx c e=>?_,?_,λx c e=>?_,λp aP=>?_,bo,I.len⟩
 .exact keep b o (Ze b o e) U (GU b o e ao) (I.base.keep b o e n U ao) (I.base.free b o e n ao)
 .obtain⟨sl,ax⟩:=I.base.slot b o e n U ao;obtain⟨pw,az⟩:=slot b _ (Ze b o e) U (GU b o e ao) ax (I.base.free b o e n ao);exact⟨pw,az⟩
 .obtain⟨cQ,ax⟩:=I.base.there b o e ao;exact free b cQ (GU b o e ao) ax (I.base.free b o e n ao)
 .obtain⟨cQ,ax⟩:=I.base.there b o e ao;exact there b cQ (GU b o e ao) ax
 .obtain⟨eO,ax⟩:=I.base.j5 b ps e;obtain⟨hD,az⟩:=j5 b _ ax;exact⟨eO++hD,by rw[az,ý]⟩
 .obtain⟨m,aD,aq⟩:=I.loc;refine⟨m,ns m aD,λi x v ax az cq=>?_⟩;obtain⟨u,r,l⟩:=aq i x v ax az cq;refine⟨u,r,?_⟩;rcases l with l|⟨k,c,e,z⟩
  .exact .inl l
  .exact .inr ⟨k,c,e,cellK x c e _ z⟩
 .obtain⟨v,z⟩:=I.cell x c e;exact⟨v,cellK x c e v z⟩
 .obtain⟨m,⟨o,_,_,aR,_⟩,_⟩:=I.loc;exact free _ o (λz=>(iJ _ z).2.1 rfl) aR I.free
 .obtain⟨v,o,aR,hd⟩:=I.cell x c e;exact free c o (λz=>(iJ c z).2.2.1 x c e rfl) aR (I.l9 x c e)
 .obtain⟨e,n,ne,gY,d⟩:=I.pin p aP;have pf:p.1∉ch:=λz=>(iJ p.1 z).2.2.2 p aP rfl;exact⟨keep p.1 p.2 ne gY pf e n,free p.1 p.2 pf e n,ne,gY,d⟩
theorem Inv.un{t':Nat}(I:Inv X pins σ H s)(u:hJ X.fs [] H H' s.heap h')(bo:fC X.prog X.w H' h'):Inv X pins σ H' {s with heap:=h',toks:=t'}:=by
 obtain⟨m,⟨o,es,ep,aR,r⟩,_⟩:=id I.loc;obtain⟨sl,gJ⟩:=u.any aR I.free (by simp);exact I.step (g':=s.gens) (d':=s.drawn) (ch:=[]) (λ_ z=>nomatch z) (λb o _ U _ e n=>u.keep b o e n U (by simp)) (λb o _ U _ e n=>u.slot b o e n U (by simp)) (λb o _ e n=>u.free b o e n (by simp)) (λb o _ e=>u.there b o e (by simp)) u.ir u.jt u.j5 (λc5 hm=>by
  obtain⟨cQ,js,ra,jz,cB⟩:=hm;rw[aR]at jz;cases jz;exact⟨_,js,ra,gJ,cB⟩) bo I.bare
theorem Inv.call{g':Array GenState}{t':Nat}{d':Drawn}{ch:b4}(I:Inv X pins σ H s)(u:hJ (f9 X.stack) ch H H' s.heap h')(bo:fC X.prog X.w H' h')(bx:qW g')(iJ:∀b∈ch,(b∈X.ex\/X.h4.heap.objs.size<=b)/\b≠X.env.locals/\(∀x c,X.env.cells.lookup x=some c->c≠b)/\∀p∈X.d_++pins,p.1≠b):
  Inv X pins σ H' {s with heap:=h',gens:=g',drawn:=d',toks:=t'}:=by
 obtain⟨m,⟨o,es,ep,aR,r⟩,_⟩:=id I.loc;obtain⟨sl,gJ⟩:=u.any aR I.free λz=>(iJ _ z).2.1 rfl;exact I.step (ch:=ch) iJ (λb o gJ U aC e n=>u.keep b o e n (λz=>(fp.mp (I.Dg b z)).elim gJ U) aC) (λb o _ _ aC e n=>u.any e n aC) (λb o aC e n=>u.free b o e n aC) (λb o aC e=>u.there b o e aC) u.ir u.jt u.j5 (λc5 hm=>by
  obtain⟨cQ,js,ra,jz,cB⟩:=hm;rw[aR]at jz;cases jz;exact⟨_,js,ra,gJ,cB⟩) bo bx
theorem Inv.turned{t':Nat}{it:Addr}(I:Inv X pins σ H s)(k:∀b o,b≠it->s.heap.get? b=some o->h'.get? b=some o)(aD:H it=none)(gJ:it≠X.env.locals)(ag:it∈X.ex\/X.h4.heap.objs.size<=it)(af:∀x c,X.env.cells.lookup x=some c->c≠it)(aV:∀p∈X.d_++pins,p.1≠it):Inv X pins σ H {s with heap:=h',toks:=t'}:=by
 have Zh:∀b u,H b=some u->b≠it:=λb u e z=>by rw[z,aD]at e;cases e
 refine I.step (g':=s.gens) (d':=s.drawn) (ch:=[it]) (λb U=>?_) (λb o _ _ aC e _=>k b o (λz=>aC (by simp[z])) e) (λb o _ _ aC e _=>⟨o.slots,k b o (λz=>aC (by simp[z])) e⟩) (λ_ _ _ _ n=>n)
  (λb o aC e=>⟨o,k b o (λz=>aC (by simp[z])) e⟩) (λ_ _ e=>e) (λ_ _ _ e=>e) (λb ps e=>⟨#[],by rw[e];simp⟩) (λm hm=>?_) (λb u e=>?_) I.bare
 .have e:b=it:=by simpa using U
  subst e;exact⟨ag,gJ,af,aV⟩
 .obtain⟨o,es,ep,aR,r⟩:=hm;exact⟨o,es,ep,k _ o (d8 gJ) aR,r⟩
 .refine(I.bo b u e).oj (λc v aC q=>k c v ?_ q) (λ_ q=>q) λ_ _ q=>q;rcases aC with z|z
  .rw[z];exact Zh b u e
  .exact Zh c _ z
theorem Inv.tok(I:Inv X pins σ H s)(t:Nat):Inv X pins σ H {s with toks:=t}:=I.un (h':=s.heap) (t':=t) hJ.refl I.bo
theorem Inv.kept{t':Nat}(I:Inv X pins σ H s)(k:∀b u,s.heap.get? b=some u->h'.get? b=some u):Inv X pins σ H {s with heap:=h',toks:=t'}:=I.un (hJ.kept k) (I.bo.kept k)
theorem Inv.laid{a:Addr}{o:d4}{t':Nat}(I:Inv X pins σ H s)(k:∀b u,s.heap.get? b=some u->h'.get? b=some u)(aP:s.heap.objs.size<=a)(new:er X.prog X.w (upd H a o) h' a o):
  Inv X pins σ (upd H a o) {s with heap:=h',toks:=t'}:=I.un (hJ.laid k aP (I.bo.fresh aP)) (I.bo.laid k aP new)
theorem Inv.write{x e:Addr}{o:d4}{t':Nat}(I:Inv X pins σ H s)(ik:z9 (H x))(he:e=x\/H e=some (.own x))(k:∀b u,b≠e->s.heap.get? b=some u->h'.get? b=some u)(xE:∃u,h'.get? e=some u)(new:er X.prog X.w (upd H x o) h' x o):Inv X pins σ (upd H x o) {s with heap:=h',toks:=t'}:=I.un (hJ.write ik he k xE) (I.bo.write ik he k xE new)
theorem Inv.ZD{ZC:cG}(I:Inv X pins σ H s)(h:∀p∈ZC,s.heap.get? p.1=some p.2/\H p.1=none/\p.1≠X.env.locals/\p.1∉X.fs/\∀v,p.2.data≠.cell v):Inv X ZC σ H s:=
 ⟨I.ok,I.os,I.bare,I.base,I.loc,I.cell,I.free,I.l9,λp aP=>(fY.mp aP).elim (λz=>I.pin p (abQ _ z)) (h p),I.bo,I.len⟩
theorem ã{N:bR}(fJ:N.Nodup){i j:Nat}{x:Str}(a:N[i]?=some x)(b:N[j]?=some x):i=j:=by obtain⟨ag,ax⟩:=gj.mp a;obtain⟨af,az⟩:=gj.mp b;exact(wL fJ).mp (ax.trans az.symm)
theorem Κ{M:oD}{A:cU}{E:cx}{i:Nat}{x:Str}{v:V}{u:Value}{Q:Unit->aF->Prop}(I:Inv X pins σ H s)(fJ:X.N.Nodup)(ai:X.N[i]?=some x)(ao:Loc X.env.scope x)(r:RelV v u)(h:∀s',Inv X pins (σ.set i (some v)) H s'->(∃a,kx a s.heap s'.heap/\(a=X.env.locals\/X.env.cells.lookup x=some a))->Q () s')(hf:X.fn x=true\/X.env.scope.names.lookup x=some .local:=by first|exact .inl rfl|exact .inr rfl|assumption):aM M A (storeName X.env x u) Q E s:=by
 obtain⟨m,aD,aq⟩:=id I.loc;have MP:(X.env.scope.kind==.class||(X.env.scope.kind==.module&&X.env.locals !=X.env.globals))=false:=by rw[I.ok.kind];rfl
 have Yh:i<σ.length:=by rw[I.len];exact(gj.mp ai).1
 have uI:=I.uI;have tracked:∀{a:Addr}{h':Heap},(∃o,s.heap.get? a=some o/\H a=none)->kx a s.heap h'->fC X.prog X.w H h':=λ{a h'}aH hs b ob e=>by
  obtain⟨_,_,F5⟩:=aH;refine(I.bo b ob e).oj (λc gN aC q=>(hs.2 c ?_).trans q) (λ_ q=>q) λ_ _ q=>q;rintro rfl;rcases aC with rfl|aC
  .rw[F5]at e;cases e
  .rw[F5]at aC;cases aC
 rcases ao with aE|aE
 .refine wpAny_storeName_local aE aD (λh' lu hs=>?_) MP;obtain⟨anU,_,_,amh,_⟩:=id aD;refine h _ ⟨I.ok,I.os,I.bare,⟨λb o e n U ao=>?_,λb o e n U ao=>?_,I.base.free,λb o e ao=>?_,I.base.ir,I.base.jt,I.base.j5⟩,⟨_,lu,λj y tO ax az cq=>?_⟩,λy c e=>?_,I.free,I.l9,λp aP=>?_,tracked ⟨anU,amh,I.free⟩ hs,by simpa using I.len⟩ ⟨_,hs,.inl rfl⟩
  .exact(hs.2 b (dP (iz (dm e) I.ok.above))).trans (I.base.keep b o e n U ao)
  .obtain⟨sl,ax⟩:=I.base.slot b o e n U ao;exact⟨sl,(hs.2 b (dP (iz (dm e) I.ok.above))).trans ax⟩
  .obtain⟨cQ,ax⟩:=I.base.there b o e ao;exact⟨cQ,(hs.2 b (dP (iz (dm e) I.ok.above))).trans ax⟩
  .by_cases aQ:j=i
   .subst aQ;rw[ai]at ax;cases ax;rw[Uj Yh]at az;cases az;exact⟨u,r,.inl ⟨aE,by simp⟩⟩
   .rw[abF (d8 aQ)]at az;obtain⟨u',cB,q⟩:=aq j y tO ax az cq;refine⟨u',cB,?_⟩;rcases q with⟨k,e⟩|⟨k,c,e,z⟩
    .refine .inl ⟨k,?_⟩;have:y≠x:=λe=>aQ (ã fJ ax (e▸ai));simp[this,e]
    .exact .inr ⟨k,c,e,z.sameBut hs (uI y c e)⟩
  .obtain⟨gN,z⟩:=I.cell y c e;exact⟨gN,z.sameBut hs (uI y c e)⟩
  .obtain⟨e,n,ne,gY,d⟩:=I.pin p aP;exact⟨(hs.2 p.1 ne).trans e,n,ne,gY,d⟩
 .have MZ:X.fn x=true:=by
   rcases hf with z|z
   .exact z
   .rw[z]at aE;cases aE
  obtain⟨c,aC⟩:=I.ok.has x (.inl aE);obtain⟨gN,z⟩:=I.cell x c aC;refine wpAny_storeName_cell I.ok.kind aE aC z (λh' jX hs=>?_);obtain⟨lF,Yr,amj⟩:=id z;refine h {s with heap:=h'} ⟨I.ok,I.os,I.bare,⟨λb o e n U ao=>?_,λb o e n U ao=>?_,I.base.free,λb o e ao=>?_,I.base.ir,I.base.jt,I.base.j5⟩,⟨m,aD.sameBut hs (d8 (uI x c aC)),λj y tO ax az cq=>?_⟩,λy gz e=>?_,I.free,I.l9,λp aP=>?_,tracked ⟨lF,Yr,I.l9 x c aC⟩ hs,by simpa using I.len⟩ ⟨c,hs,.inr aC⟩
  .exact(hs.2 b (dP (iz (dm e) (I.ok.uH x c MZ aC)))).trans (I.base.keep b o e n U ao)
  .obtain⟨sl,ax⟩:=I.base.slot b o e n U ao;exact⟨sl,(hs.2 b (dP (iz (dm e) (I.ok.uH x c MZ aC)))).trans ax⟩
  .obtain⟨cQ,ax⟩:=I.base.there b o e ao;exact⟨cQ,(hs.2 b (dP (iz (dm e) (I.ok.uH x c MZ aC)))).trans ax⟩
  .by_cases aQ:j=i
   .subst aQ;rw[ai]at ax;cases ax;rw[Uj Yh]at az;cases az;exact⟨u,r,.inr ⟨.inl aE,c,aC,jX⟩⟩
   .rw[abF (d8 aQ)]at az;obtain⟨u',cB,q⟩:=aq j y tO ax az cq;refine⟨u',cB,?_⟩;rcases q with q|⟨k,gz,e,dz⟩
    .exact .inl q
    .refine .inr ⟨k,gz,e,dz.sameBut hs ?_⟩;rintro rfl;exact aQ (ã fJ ax (I.ok.inj _ _ _ e aC▸ai))
  .by_cases X5:gz=c
   .subst X5;exact⟨_,jX⟩
   .obtain⟨hV,bH⟩:=I.cell y gz e;exact⟨hV,bH.sameBut hs X5⟩
  .obtain⟨e,n,ne,gY,d⟩:=I.pin p aP;refine⟨(hs.2 p.1 ?_).trans e,n,ne,gY,d⟩;intro q;rw[q,Yr]at e;have dj:lF=p.2:=gZ e;exact d gN (by rw[<-dj];exact amj)
theorem ï{M:oD}{A:cU}{E:cx}{i:Nat}{x:Str}{v:V}{u:Value}{Q:Unit->aF->Prop}(I:Inv X pins σ H s)(fJ:X.N.Nodup)(ai:X.N[i]?=some x)(ao:Loc X.env.scope x)(r:RelV v u)(h:∀s',Inv X pins (σ.set i (some v)) H s'->Q () s')(hf:X.fn x=true\/X.env.scope.names.lookup x=some .local:=by first|exact .inl rfl|exact .inr rfl|assumption):aM M A (storeName X.env x u) Q E s:=
 Κ I fJ ai ao r (λs' oy _=>h s' oy) hf
theorem Inv.LC{s':aF}{ch:b4}(I:Inv X pins σ H s)(aR:s'.os=s.os)(u:hJ (f9 X.stack) ch H H' s.heap s'.heap)(bo:fC X.prog X.w H' s'.heap)(bx:qW s'.gens)(iJ:∀b∈ch,(b∈X.ex\/X.h4.heap.objs.size<=b)/\b≠X.env.locals/\(∀x c,X.env.cells.lookup x=some c->c≠b)/\∀p∈X.d_++pins,p.1≠b):Inv X pins σ H' s':=by obtain⟨h',g',d',t',cQ⟩:=s';have e:cQ=s.os:=aR;subst e;exact I.call (g':=g') (t':=t') (d':=d') u bo bx iJ
end
noncomputable abbrev cE:=Value->Option Addr->aa->Prop
noncomputable abbrev St:=List (Option V)
noncomputable abbrev bl:=V->aa->Prop
noncomputable abbrev TE:=St->aa->bl->Prop
noncomputable abbrev TT:=St->aa->(Bool->aa->Prop)->Prop
noncomputable abbrev gF:=St->aa->(List V->aa->Prop)->Prop
structure Ends where
 cy:St->aa->Prop
 rt:bl
 gU:St->aa->Prop:=λ_ _=>False
 fU:St->aa->Prop:=λ_ _=>False
noncomputable abbrev e0:=Ends->St->aa->Prop
noncomputable def hG(X:bB)(pins:cG)(σ:St)(Q:bl)(u:Value)(s':aF):Prop:=∃v H',Inv X pins σ H' s'/\RelV v u/\Q v H'
noncomputable def EZ(X:bB)(pins:cG)(σ:St)(Q:Bool->aa->Prop)(b:Bool)(s':aF):Prop:=∃H',Inv X pins σ H' s'/\Q b H'
noncomputable def ù(X:bB)(pins:cG)(σ:St)(Q:List V->aa->Prop)(us:b_)(s':aF):Prop:=∃vs H',Inv X pins σ H' s'/\cp vs us/\Q vs H'
noncomputable def uA(X:bB)(pins:cG)(D:Ends)(f:Flow)(s':aF):Prop:=
 match f with
 |.next=>∃a_ H',Inv X pins a_ H' s'/\D.cy a_ H'
 |.brk=>∃a_ H',Inv X pins a_ H' s'/\D.gU a_ H'
 |.cont=>∃a_ H',Inv X pins a_ H' s'/\D.fU a_ H'
 |.ret u=>∃v a_ H',Inv X pins a_ H' s'/\RelV v u/\D.rt v H'
noncomputable def bN(X:bB)(e:Expr)(t:TE):Prop:=
 ∀(pins:cG)(s:aF)(σ:St)(H:aa)(Q:bl),Inv X pins σ H s->t σ H Q->aM (ba X.prog X.w) X.A (eval e X.env) (hG X pins σ Q) X.dD s
noncomputable def kW(X:bB)(e:Expr)(t:TT):Prop:=
 ∀(pins:cG)(s:aF)(σ:St)(H:aa)(Q:Bool->aa->Prop),Inv X pins σ H s->t σ H Q->aM (ba X.prog X.w) X.A (BZ e X.env (eval e X.env)) (EZ X pins σ Q) X.dD s
noncomputable def jh(X:bB)(e:Expr)(t:TT):Prop:=
 ∀(whole:Sem Value)(pins:cG)(s:aF)(σ:St)(H:aa)(Q:Bool->aa->Prop),Inv X pins σ H s->t σ H Q->aM (ba X.prog X.w) X.A (BZ e X.env whole) (EZ X pins σ Q) X.dD s
theorem jh.pt{X:bB}{e:Expr}{t:TT}(h:jh X e t):kW X e t:=h _
noncomputable def ht(X:bB)(es:gm)(t:gF):Prop:=
 ∀(pos:Pos)(pins:cG)(s:aF)(σ:St)(H:aa)(Q:List V->aa->Prop),Inv X pins σ H s->t σ H Q->aM (ba X.prog X.w) X.A (spliced (hL pos (eb es X.env))) (ù X pins σ Q) X.dD s
noncomputable def g0(X:bB)(st:Stmt)(t:e0):Prop:=
 ∀(pins:cG)(s:aF)(σ:St)(H:aa)(D:Ends),Inv X pins σ H s->t D σ H->aM (ba X.prog X.w) X.A (exec st X.env) (uA X pins D) X.dD s
noncomputable def hI(X:bB)(st:List Stmt)(t:e0):Prop:=
 ∀(pins:cG)(s:aF)(σ:St)(H:aa)(D:Ends),Inv X pins σ H s->t D σ H->aM (ba X.prog X.w) X.A (execs st X.env) (uA X pins D) X.dD s
theorem bS{α:Type}{t:Sem α}{Q kX:α->aF->Prop}{M:oD}{A:cU}{E:cx}{s:aF}(h:aM M A t Q E s)(dk:∀a s,Q a s->kX a s):aM M A t kX E s:=e6 h dk λ_ _ x=>x
section
variable{X:bB}
theorem bin{a b:Expr}{cb c0:TE}(aH:bN X a cb)(U:bN X b c0){pins:cG}{s:aF}{σ:St}{H:aa}{R:V->V->aa->Prop}(I:Inv X pins σ H s)(h:cb σ H λx H1=>c0 σ H1 λy aj=>R x y aj){α:Type}{Q:α->aF->Prop}{f:Value->Value->Sem α}(hf:∀v u s2 x y aj,Inv X pins σ aj s2->RelV x v->RelV y u->R x y aj->aM (ba X.prog X.w) X.A (f v u) Q X.dD s2):
  aM (ba X.prog X.w) X.A (eval a X.env) (λv dH=>aM (ba X.prog X.w) X.A (eval b X.env) (λu qI=>aM (ba X.prog X.w) X.A (f v u) Q X.dD qI) X.dD dH) X.dD s:=by refine bS (aH pins s σ H _ I h) λv s1⟨x,H1,aX,b',bq⟩=>?_;refine bS (U pins s1 σ H1 _ aX bq) λu s2⟨y,aj,bT,df,cj⟩=>?_;exact hf v u s2 x y aj bT b' df cj
inductive agn(i:Nat)(σ:ar.St)(H:aa)(Q:bl):Prop where
 |mk (v:_) (b0:σ[i]?=some (some v)) (bH:Q v H)
noncomputable def V1(i:Nat):TE:=λσ H Q=>agn i σ H Q
noncomputable def tI(v:V):TE:=λ_ H Q=>Q v H
theorem aeI{i:Nat}{x:Str}{pos:Pos}(fJ:X.N[i]?=some x)(bI:Ko X.env.scope x)(hd:(x==("__debug__":Str))=false:=by decide)(lr:(x==("__classdict__":Str))=false:=by decide):bN X (.Name x pos) (V1 i):=by
 intro pins s σ H Q I h;obtain⟨v,e,h⟩:=h;obtain⟨m,aD,aq⟩:=I.loc;obtain⟨u,r,l⟩:=aq i x v fJ e bI;have fin:hG X pins σ Q u s:=⟨v,H,I,r,h⟩
 rcases l with⟨aE,hm⟩|⟨aE,c,aC,sW⟩
 .exact Ö (wpAny_loadName_local I.ok.kind aE aD hm fin) hd
 .rcases aE with aE|aE
  .exact Ö (wpAny_loadName_cell I.ok.kind aE aC sW fin) hd
  .exact Ö (wpAny_loadName_free I.ok.kind aE aC sW fin lr) hd
theorem bF{i j pos}:bN X (.Constant (.int i) j pos) (tI (.int i)):=λ_ _ _ H _ I h=>wpAny_Constant_int ⟨.int i,H,I.tok _,⟨_,rfl⟩,h⟩
theorem kE{b j pos}:bN X (.Constant (.bool b) j pos) (tI (.bf b)):=λ_ _ _ H _ I h=>Constant_bool ⟨.bf b,H,I,rfl,h⟩
theorem l'{j pos}:bN X (.Constant .none j pos) (tI .bV):=λ_ _ _ H _ I h=>Constant_none ⟨.bV,H,I,rfl,h⟩
theorem o4{x j pos}:bN X (.Constant (.str x) j pos) (tI (.str x)):=λ_ _ _ H _ I h=>Calls.Constant_str ⟨.str x,H,I.tok _,⟨_,rfl⟩,h⟩
noncomputable def kv(X:bB)(x:Str):Prop:=X.env.kindOf x=some .globalImplicit
theorem lw{E:cx}{pins:cG}{s:aF}{σ:St}{H:aa}{x:Str}{u:Value}{pos:Pos}{Q:cx}(I:Inv X pins σ H s)(bx:kv X x)(hm:X.ae x=some u)(h:Q u s)(hd:(x==("__debug__":Str))=false:=by decide):aM (ba X.prog X.w) X.A (eval (.Name x pos) X.env) Q E s:=
 Ĝ I.ok.kind bx (Calls.loadGlobal_global (by rw[I.ok.glob];exact I.mod.glob.keeps I.gU) hm h) hd
theorem Dl{E:cx}{pins:cG}{s:aF}{σ:St}{H:aa}{x:Str}{u:Value}{pos:Pos}{Q:cx}(I:Inv X pins σ H s)(bx:kv X x)(hm:X.ae x=none)(bI:jn x=some u)(h:Q u s)(aD:x≠"__name__":=by decide)(hd:(x==("__debug__":Str))=false:=by decide):aM (ba X.prog X.w) X.A (eval (.Name x pos) X.env) Q E s:=by obtain⟨n7,ag,af⟩:=I.mod.blt;exact Ĝ I.ok.kind bx (Calls.loadGlobal_builtin (by rw[I.ok.glob];exact I.mod.glob.keeps I.gU) hm (by rw[I.ok.blt];exact ag.keeps I.gU) ((af x aD).trans bI) h) hd
theorem acS{x:Str}{v:V}{u:Value}{pos:Pos}(bx:kv X x)(hm:X.ae x=some u)(r:RelV v u)(hd:(x==("__debug__":Str))=false:=by decide):bN X (.Name x pos) (tI v):=
 λ_ _ _ H _ I h=>lw I bx hm ⟨v,H,I,r,h⟩ hd
theorem acT{x:Str}{v:V}{u:Value}{pos:Pos}(bx:kv X x)(hm:X.ae x=none)(bI:jn x=some u)(r:RelV v u)(aD:x≠"__name__":=by decide)(hd:(x==("__debug__":Str))=false:=by decide):bN X (.Name x pos) (tI v):=
 λ_ _ _ H _ I h=>Dl I bx hm bI ⟨v,H,I,r,h⟩ aD hd
variable{a b:Expr}{cb c0:TE}{pos:Pos}
noncomputable def JP(X:bB)(op:r9)(a b:Expr)(t:TE):Prop:=
 ∀(pins:cG)(s:aF)(σ:St)(H:aa)(Q:bl),Inv X pins σ H s->t σ H Q->
  aM (ba X.prog X.w) X.A (eval a X.env) (λv dH=>aM (ba X.prog X.w) X.A (eval b X.env) (λu qI=>aM (ba X.prog X.w) X.A (hN op v u) (hG X pins σ Q) X.dD qI) X.dD dH) X.dD s
theorem ð(b:Expr){op:r9}(h:op≠.In)(af:op≠.NotIn):uD op b=false:=by
 have ax:(op==CmpOp.In)=false:=by cases op<;>first|rfl|exact bE rfl h
 have az:(op==CmpOp.NotIn)=false:=by cases op<;>first|rfl|exact bE rfl af
 cases b<;>simp[uD,ax,az]
inductive TO(x:V)(H1:aa)(Q:Bool->aa->Prop):Prop where
 |mk (c:_) (b0:x=.bf c) (bH:Q c H1)
noncomputable def Qm(t:TE):TT:=λσ H Q=>t σ H λx H1=>TO x H1 Q
theorem aeJ{op:r9}{t:TE}(h:JP X op a b t)(ag:uD op b=false:=by first|exact ð _ (by decide) (by decide)|rfl):bN X (.Compare a [op] [b] pos) t:=λpins s σ H Q I hw=>apA (h pins s σ H Q I hw) ag
theorem aeK{op:r9}{t:TE}(h:JP X op a b t)(ag:uD op b=false:=by first|exact ð _ (by decide) (by decide)|rfl):kW X (.Compare a [op] [b] pos) (Qm t):=by intro pins s σ H Q I hw;refine apF (bS (h pins s σ H _ I hw) λv s1 ag=>bS ag λu s2 af=>bS af λc s3⟨x,H1,aX,b',bq⟩=>?_) ag;obtain⟨d,rfl,q⟩:=bq;cases b';exact pF ⟨H1,aX,q⟩
theorem ki{e:Expr}{t:TE}(h:bN X e t)(he:∀whole,BZ e X.env whole=(do let v <-whole;tH e.pos;nV [v] (truthy v)):=by intro _;rfl):kW X e (Qm t):=by intro pins s σ H Q I hw;refine isTrue_plain (bS (h pins s σ H _ I hw) λv s1⟨x,H1,aX,b',bq⟩=>?_) (he _);obtain⟨d,rfl,q⟩:=bq;cases b';exact pF ⟨H1,aX,q⟩
variable{qJ HO:TT}{rest:gm}
noncomputable def ahl(t u:TT):TT:=λσ H Q=>t σ H λc H1=>if c=true then u σ H1 Q else Q false H1
noncomputable def aoW(t u:TT):TT:=λσ H Q=>t σ H λc H1=>if c=true then Q true H1 else u σ H1 Q
noncomputable def V2(t:TT):TT:=λσ H Q=>t σ H λc H1=>Q (!c) H1
theorem SX(aH:kW X a qJ):jh X (.BoolOp .And [a] pos) qJ:=by
 intro DC pins s σ H Q I h;refine isTrue_and (bS (aH pins s σ H Q I h) λc s1 e=>?_);cases c with
 |true=>exact isTrue_and_nil e
 |false=>exact e
theorem rD(aH:kW X a qJ):jh X (.BoolOp .Or [a] pos) qJ:=by
 intro DC pins s σ H Q I h;refine isTrue_or (bS (aH pins s σ H Q I h) λc s1 e=>?_);cases c with
 |false=>exact isTrue_or_nil e
 |true=>exact e
theorem ID(aH:kW X a qJ)(U:jh X (.BoolOp .And (b::rest) pos) HO):jh X (.BoolOp .And (a::b::rest) pos) (ahl qJ HO):=by
 intro DC pins s σ H Q I h;refine isTrue_and (bS (aH pins s σ H _ I h) λc s1⟨H1,aX,bq⟩=>?_);cases c with
 |true=>exact U DC pins s1 σ H1 Q aX bq
 |false=>exact⟨H1,aX,bq⟩
theorem mX(aH:kW X a qJ)(U:jh X (.BoolOp .Or (b::rest) pos) HO):jh X (.BoolOp .Or (a::b::rest) pos) (aoW qJ HO):=by
 intro DC pins s σ H Q I h;refine isTrue_or (bS (aH pins s σ H _ I h) λc s1⟨H1,aX,bq⟩=>?_);cases c with
 |true=>exact⟨H1,aX,bq⟩
 |false=>exact U DC pins s1 σ H1 Q aX bq
theorem jR(aH:kW X a qJ):kW X (.UnaryOp .Not a pos) (V2 qJ):=by intro pins s σ H Q I h;exact isTrue_not (aH pins s σ H (λc H1=>Q (!c) H1) I h)
noncomputable def D5(cb c0:TE):TE:=λσ H Q=>cb σ H λx H1=>∃c,x=.bf c/\if c=true then c0 σ H1 Q else Q (.bf false) H1
noncomputable def ahm(cb c0:TE):TE:=λσ H Q=>cb σ H λx H1=>∃c,x=.bf c/\if c=true then Q (.bf true) H1 else c0 σ H1 Q
noncomputable def ago(cb:TE):TE:=λσ H Q=>cb σ H λx H1=>∃c,x=.bf c/\Q (.bf (!c)) H1
theorem nZ{op}{t:TE}(h:bN X a t):bN X (.BoolOp op [a] pos) t:=λpins s σ H Q I hw=>BoolOp_one (h pins s σ H Q I hw)
theorem lq(aH:bN X a cb)(U:bN X (.BoolOp .And (b::rest) pos) c0):bN X (.BoolOp .And (a::b::rest) pos) (D5 cb c0):=by
 intro pins s σ H Q I h;refine BoolOp_and (bS (aH pins s σ H _ I h) λv s1⟨x,H1,aX,b',bq⟩=>?_);obtain⟨c,rfl,bq⟩:=bq;cases b';refine pF ?_;cases c with
 |true=>exact U pins s1 σ H1 Q aX bq
 |false=>exact⟨.bf false,H1,aX,rfl,bq⟩
theorem agp(aH:bN X a cb)(U:bN X (.BoolOp .Or (b::rest) pos) c0):bN X (.BoolOp .Or (a::b::rest) pos) (ahm cb c0):=by
 intro pins s σ H Q I h;refine BoolOp_or (bS (aH pins s σ H _ I h) λv s1⟨x,H1,aX,b',bq⟩=>?_);obtain⟨c,rfl,bq⟩:=bq;cases b';refine pF ?_;cases c with
 |false=>exact U pins s1 σ H1 Q aX bq
 |true=>exact⟨.bf true,H1,aX,rfl,bq⟩
theorem TU(aH:bN X a cb):bN X (.UnaryOp .Not a pos) (ago cb):=by intro pins s σ H Q I h;refine UnaryOp_ (bS (aH pins s σ H _ I h) λv s1⟨x,H1,aX,b',bq⟩=>?_);obtain⟨c,rfl,bq⟩:=bq;cases b';exact not_of (pF ⟨.bf (!c),H1,aX,rfl,bq⟩)
end
noncomputable def aS(K:aY)(H:aa)(a:Addr)(xs:a'):Prop:=
 fv H a (.lst xs)\/
  ∃(o:Obj)(its:iA)(n:Nat),K.lookup a=some o/\o.cls=.type "list"/\o.dict=none/\o.data=.seq its n/\its.size<=sizeLine/\cp xs its.toList
noncomputable def b2(K:aY)(H:aa)(a:Addr)(xs:a'):Prop:=
 fv H a (.tup xs)\/
  ∃(o:Obj)(its:iA)(n:Nat),K.lookup a=some o/\o.cls=.type "tuple"/\o.data=.seq its n/\its.size<=sizeLine/\cp xs its.toList
noncomputable def ahn:Value->Option V
 |.none=>some .bV
 |.bool b=>some (.bf b)
 |.int i _=>some (.int i)
 |.str x _=>some (.str x)
 |.bytes b _=>some (.l4 b)
 |.float b _=>some (.uT b)
 |.ref a=>some (.ref a)
 |.type n=>some (.ty n)
 |_=>none
theorem RelV.abs{x:V}{u:Value}(r:RelV x u):ahn u=some x:=by
 cases x with
 |bV=>cases r;rfl
 |bf _=>cases r;rfl
 |int _=>obtain⟨t,rfl⟩:=r;rfl
 |str _=>obtain⟨t,rfl⟩:=r;rfl
 |l4 _=>obtain⟨t,rfl⟩:=r;rfl
 |uT _=>obtain⟨t,rfl⟩:=r;rfl
 |ref _=>cases r;rfl
 |ty _=>cases r;rfl
theorem RelV.inj{x y:V}{u:Value}(r:RelV x u)(q:RelV y u):x=y:=gZ (r.abs.symm.trans q.abs)
theorem cp.inj:∀{xs ys:a'}{us:b_},cp xs us->cp ys us->xs=ys
 |_,_,_,.nil,.nil=>rfl
 |_,_,_,.cons r t,.cons cB t'=>by rw[r.inj cB,cp.inj t t']
section
variable{X:bB}{pins:cG}{σ:St}{H:aa}{s:aF}{a:Addr}{xs ys:a'}
theorem aS.of{K:aY}(h:H a=some (.lst xs)):aS K H a xs:=.inl (.inl h)
theorem b2.of{K:aY}(h:H a=some (.tup xs)):b2 K H a xs:=.inl (.inl h)
theorem Inv.list(I:Inv X pins σ H s)(h:aS X.K H a xs):∃its:List Value,cp xs its/\PlainL s.heap a its.toArray/\xs.length<=sizeLine:=by
 rcases h with h|⟨o,its,n,aE,aC,hd,hs,hz,r⟩
 .obtain⟨z,its,n,r,e⟩:=h.ok I.bo;exact⟨its,r,⟨_,n,e,rfl,rfl,rfl⟩,z⟩
 .refine⟨its.toList,r,⟨o,n,I.fb a o aE,aC,hd,by simpa using hs⟩,?_⟩;have e:=r.length;simp only[kQ]at e;omega
theorem Inv.tuple(I:Inv X pins σ H s)(h:b2 X.K H a xs):∃its:List Value,cp xs its/\ub s.heap a its.toArray/\xs.length<=sizeLine:=by
 rcases h with h|⟨o,its,n,aE,aC,hs,hz,r⟩
 .obtain⟨z,its,r,p⟩:=h.ok I.bo;exact⟨its,r,p,z⟩
 .refine⟨its.toList,r,⟨o,I.fb a o aE,aC,n,by simpa using hs⟩,?_⟩;have e:=r.length;simp only[kQ]at e;omega
theorem Inv.YX(I:Inv X pins σ H s)(h:aS X.K H a xs)(h':aS X.K H a ys):xs=ys:=by
 obtain⟨its,r,⟨o,n,e,_,_,d⟩,_⟩:=I.list h;obtain⟨its',cB,⟨cQ,lB,b9,_,_,d'⟩,_⟩:=I.list h';rw[e]at b9;cases b9;rw[d]at d';injection d' with jQ _;have:its=its':=by simpa using e9 ÿ jQ
 subst this;exact r.inj cB
theorem Inv.ao8(I:Inv X pins σ H s)(h:b2 X.K H a xs)(h':b2 X.K H a ys):xs=ys:=by
 obtain⟨its,r,⟨o,e,_,n,d⟩,_⟩:=I.tuple h;obtain⟨its',cB,⟨cQ,b9,_,lB,d'⟩,_⟩:=I.tuple h';rw[e]at b9;cases b9;rw[d]at d';injection d' with jQ _;have:its=its':=by simpa using e9 ÿ jQ
 subst this;exact r.inj cB
end
noncomputable abbrev bB.ng(X:bB)(E:cx):bB:={X with dD:=E}
noncomputable abbrev bB.vr(X:bB):bB:=X.ng λ_ _=>False
theorem bB.Ok.ng{X:bB}(ok:X.Ok)(E:cx):(X.ng E).Ok:=
 ⟨ok.mod,ok.kind,ok.glob,ok.blt,ok.above,ok.inj,ok.has,ok.uH,ok.hd,ok.frames,ok.qH,ok.Ff,ok.bs,ok.p8,ok.vq,ok.xd,ok.jT,ok.rg⟩
theorem bB.Ok.pC{X:bB}{E:cx}(ok:(X.ng E).Ok):X.Ok:=
 ⟨ok.mod,ok.kind,ok.glob,ok.blt,ok.above,ok.inj,ok.has,ok.uH,ok.hd,ok.frames,ok.qH,ok.Ff,ok.bs,ok.p8,ok.vq,ok.xd,ok.jT,ok.rg⟩
section
variable{X:bB}{pins:cG}{σ:St}{H:aa}{s:aF}{E:cx}
theorem Inv.ng(I:Inv X pins σ H s)(E:cx):Inv (X.ng E) pins σ H s:=⟨I.ok.ng E,I.os,I.bare,I.base,I.loc,I.cell,I.free,I.l9,I.pin,I.bo,I.len⟩
theorem Inv.pC(I:Inv (X.ng E) pins σ H s):Inv X pins σ H s:=⟨I.ok.pC,I.os,I.bare,I.base,I.loc,I.cell,I.free,I.l9,I.pin,I.bo,I.len⟩
theorem uA.pC{D:Ends}{f:Flow}{s':aF}(h:uA (X.ng E) pins D f s'):uA X pins D f s':=by
 cases f with
 |next=>obtain⟨a_,H',I,q⟩:=h;exact⟨a_,H',I.pC,q⟩
 |brk=>obtain⟨a_,H',I,q⟩:=h;exact⟨a_,H',I.pC,q⟩
 |cont=>obtain⟨a_,H',I,q⟩:=h;exact⟨a_,H',I.pC,q⟩
 |ret u=>obtain⟨v,a_,H',I,r,q⟩:=h;exact⟨v,a_,H',I.pC,r,q⟩
theorem hI.vr{st:List Stmt}{t:e0}(h:hI X.vr st t):hI X st t:=λpins s σ H D I hw=>
 e6 (h pins s σ H D (I.ng _) hw) (λ_ _ q=>q.pC) λ_ _ z=>h7 z
end
section
variable{X:bB}{st:Stmt}{rest:List Stmt}{t u:e0}{e:Expr}{b3:TE}{pos:Pos}
noncomputable def DT:e0:=λD σ H=>D.cy σ H
noncomputable def qP(t u:e0):e0:=λD σ H=>t {D with cy:=u D} σ H
theorem gb:hI X [] DT:=λ_ _ σ H _ I h=>DE ⟨σ,H,I,h⟩
theorem bQ(ag:g0 X st t)(af:hI X rest u):hI X (st::rest) (qP t u):=by
 intro pins s σ H D I h;refine Ú (bS (ag pins s σ H {D with cy:=u D} I h) λf s1 q=>?_);cases f with
 |next=>
  obtain⟨a_,H',oy,q⟩:=q;exact af pins s1 a_ H' D oy q
 |ret v=>exact q
 |brk=>exact q
 |cont=>exact q
theorem b8(ag:g0 X st t):hI X [st] t:=by
 intro pins s σ H D I h;refine Ú (bS (ag pins s σ H D I h) λf s1 q=>?_);cases f with
 |next=>exact DE q
 |ret v=>exact q
 |brk=>exact q
 |cont=>exact q
theorem Inv.quiet{pins:cG}{σ:St}{H:aa}{s:aF}(I:Inv X pins σ H s):interactive X.env=false:=by simp[interactive,I.ok.kind]
noncomputable def agq(b3:TE):e0:=λD σ H=>b3 σ H λ_ H1=>D.cy σ H1
theorem ia(he:bN X e b3)(hs:yS e none pos.line X.env=pure false:=by rfl):g0 X (.Expr e pos) (agq b3):=by intro pins s σ H D I h;exact apC (bS (he pins s σ H _ I h) λv s1⟨x,H1,aX,b',bq⟩=>⟨σ,H1,aX,bq⟩) I.quiet hs
noncomputable def zQ(b3:TE):e0:=λD σ H=>b3 σ H D.rt
theorem dE(he:bN X e b3):g0 X (.Return (some e) pos) (zQ b3):=by intro pins s σ H D I h;exact wpAny_Return_some (bS (he pins s σ H _ I h) λv s1⟨x,H1,aX,b',bq⟩=>⟨x,σ,H1,aX,b',bq⟩)
noncomputable def J4(c:TT)(t u:e0):e0:=λD σ H=>c σ H λb H1=>if b=true then t D σ H1 else u D σ H1
theorem gd{c:Expr}{a b:List Stmt}{m_:TT}(aC:kW X c m_)(aH:hI X a t)(U:hI X b u):g0 X (.If c a b pos) (J4 m_ t u):=by
 intro pins s σ H D I h;refine wpAny_If (bS (aC pins s σ H _ I h) λd s1⟨H1,aX,bq⟩=>?_);cases d with
 |true=>exact aH pins s1 σ H1 D aX bq
 |false=>exact U pins s1 σ H1 D aX bq
noncomputable def aeL:e0:=λ_ _ _=>False
theorem Qn:g0 X st aeL:=λ_ _ _ _ _ _ h=>h.elim
noncomputable abbrev eK:=V->St->aa->(St->aa->Prop)->Prop
noncomputable abbrev p0:=List V->St->aa->(St->aa->Prop)->Prop
end
noncomputable def pV(X:bB)(target:Expr)(t:eK):Prop:=
 ∀(pins:cG)(s:aF)(σ:St)(H:aa)(v:V)(u:Value)(Q:St->aa->Prop),Inv X pins σ H s->RelV v u->t v σ H Q->
  aM (ba X.prog X.w) X.A (w3 target X.env u) (λ_ s'=>∃a_ H',Inv X pins a_ H' s'/\Q a_ H') X.dD s
noncomputable def Ah(X:bB)(ts:gm)(t:p0):Prop:=
 ∀(pins:cG)(s:aF)(σ:St)(H:aa)(vs:a')(us:b_)(Q:St->aa->Prop),Inv X pins σ H s->cp vs us->t vs σ H Q->
  aM (ba X.prog X.w) X.A (assignInOrder ((uB ts X.env).map (·.2)) us) (λ_ s'=>∃a_ H',Inv X pins a_ H' s'/\Q a_ H') X.dD s
noncomputable abbrev J5:=V->V->V->aa->(aa->Prop)->Prop
noncomputable def V3(X:bB)(t:J5):Prop:=
 ∀(pins:cG)(s:aF)(σ:St)(H:aa)(o i v:V)(eH jZ u:Value)(Q:aa->Prop),Inv X pins σ H s->RelV o eH->RelV i jZ->RelV v u->t o i v H Q->
  aM (ba X.prog X.w) X.A (setItem eH jZ u) (λ_ s'=>∃H',Inv X pins σ H' s'/\Q H') X.dD s
section
variable{X:bB}{pos:Pos}
noncomputable def g5(i:Nat):eK:=λv σ H Q=>Q (σ.set i (some v)) H
theorem d1{i:Nat}{x:Str}(fJ:X.N.Nodup)(ai:X.N[i]?=some x)(ao:Loc X.env.scope x)(hf:X.fn x=true\/X.env.scope.names.lookup x=some .local:=by first|exact .inl rfl|exact .inr rfl|assumption):pV X (.Name x pos) (g5 i):=by intro pins s σ H v u Q I r h;exact apD (ï I fJ ai ao r (λs' oy=>⟨_,H,oy,h⟩) hf)
noncomputable def zR:p0:=λvs σ H Q=>vs=[]/\Q σ H
inductive aeM(t:eK)(u:p0)(vs:a')(σ:ar.St)(H:aa)(Q:(ar.St->aa->Prop)):Prop where
 |mk (v:_) (r:_) (b0:vs=v::r) (bH:t v σ H λa_ H'=>u r a_ H' Q)
noncomputable def rI(t:eK)(u:p0):p0:=λvs σ H Q=>aeM t u vs σ H Q
theorem oS:Ah X [] zR:=by intro pins s σ H vs us Q I r h;obtain⟨e,h⟩:=h;subst e;cases r;exact assignInOrder_nil ⟨σ,H,I,h⟩
theorem hK{e:Expr}{es:gm}{t:eK}{u:p0}(ag:pV X e t)(af:Ah X es u)(hs:(uB (e::es) X.env).map (·.2)=w3 e X.env::(uB es X.env).map (·.2):=by rfl):Ah X (e::es) (rI t u):=by
 intro pins s σ H vs us Q I r h;obtain⟨v,H2,ax,h⟩:=h;subst ax;cases r with
 |cons r qD=>
  rw[hs];refine assignInOrder_cons (bS (ag pins s σ H _ _ _ I r h) λ_ s1⟨r2,H1,aX,bq⟩=>?_);exact af pins s1 r2 H1 _ _ Q aX qD bq
inductive agr(K:aY)(n:Nat)(t:p0)(v:ar.V)(σ:ar.St)(H:aa)(Q:(ar.St->aa->Prop)):Prop where
 |mk (a:_) (xs:_) (b0:v=.ref a) (bH:b2 K H a xs) (cu:xs.length=n) (cS:t xs σ H Q)
noncomputable def wA(K:aY)(n:Nat)(t:p0):eK:=λv σ H Q=>agr K n t v σ H Q
theorem yx{es:gm}{k:Nat}{t:p0}{n:Nat}(aC:X.calm=true)(h:Ah X es t)(aD:(uB es X.env).length=n:=by rfl)(mT:(uB es X.env).findIdx? (·.1)=none:=by rfl):pV X (.Tuple es k pos) (wA X.K n t):=by intro pins s σ H v u Q I r hw;obtain⟨a,xs,ax,bp,aq,hw⟩:=hw;subst ax;cases r;obtain⟨its,cg,cO,hz⟩:=I.tuple bp;refine assign_Tuple_tuple (I.ok.hd aC) cO (by simp[aD,<-aq,cg.length]) mT λh' ao=>?_;have aX:Inv X pins σ H {s with heap:=h'}:=I.kept (t':=s.toks) λb o e=>ao b o (dP (dm e)) e;exact h pins _ σ H xs _ Q aX (by simpa using cg) hw
noncomputable def aho(to HS:TE)(t:J5):eK:=λv σ H Q=>to σ H λo H1=>HS σ H1 λi aj=>t o i v aj λbL=>Q σ bL
theorem aeN{o i:Expr}{to HS:TE}{t:J5}(aR:bN X o to)(ai:bN X i HS)(hs:V3 X t)(aH:∀v,w3 (.Subscript o i pos) X.env v=(do
   let eH <-nV [v] (eval o X.env)
   let jZ <-nV [v,eH] (eval i X.env)
   tH pos
   nV [v,eH,jZ] (setItem eH jZ v)
   release [v,eH,jZ] []):=by intro _;rfl):pV X (.Subscript o i pos) (aho to HS t):=by intro pins s σ H v u Q I r h;rw[aH];refine au (iv (bS (aR pins s σ H _ I h) λeH s1⟨x,H1,aX,b',bq⟩=>?_));refine au (iv (bS (ai pins s1 σ H1 _ aX bq) λjZ s2⟨y,aj,bT,df,cj⟩=>?_));refine au (H8 (au (iv (bS (hs pins s2 σ aj x y v eH jZ u _ bT b' df r cj) λ_ s3⟨bL,c_,fk⟩=>?_))));exact wpAny_release ⟨σ,bL,c_,fk⟩
noncomputable def tZ(b3:TE)(g:eK):e0:=λD σ H=>b3 σ H λx H1=>g x σ H1 D.cy
theorem TV{dI e:Expr}{b3:TE}{g:eK}(he:bN X e b3)(bx:pV X dI g)(hs:swapsWithSole [dI] e pos.line X.env=pure false:=by rfl)(hw:swappedStores [dI] e X.env=pure none:=by rfl)(ag:(uB [dI] X.env).map (·.2)=[w3 dI X.env]:=by rfl):g0 X (.Assign [dI] e pos) (tZ b3 g):=by intro pins s σ H D I h;refine wpAny_Assign_stores (bS (he pins s σ H _ I h) λv s1⟨x,H1,aX,b',bq⟩=>?_) hs hw;rw[ag];exact bS (bx pins s1 σ H1 x v _ aX b' bq) λ_ s2 q=>q
theorem dG{i:Nat}{x:Str}{e:Expr}{b3:TE}{pos':Pos}(fJ:X.N.Nodup)(ai:X.N[i]?=some x)(ao:Loc X.env.scope x)(he:bN X e b3)(hs:yS e (some (.Name x pos')) pos.line X.env=pure false:=by rfl)(hf:X.fn x=true\/X.env.scope.names.lookup x=some .local:=by first|exact .inl rfl|exact .inr rfl|assumption):
  g0 X (.Assign [.Name x pos'] e pos) (tZ b3 (g5 i)):=by intro pins s σ H D I h;refine wpAny_Assign_Name (bS (he pins s σ H _ I h) λv s1⟨y,H1,aX,b',bq⟩=>?_) hs;exact ï aX fJ ai ao b' (λs2 bT=>⟨_,H1,bT,bq⟩) hf
noncomputable def aeD(c:TT)(c0:e0):e0:=λD σ H=>∃W:Nat->St->aa->Prop,(∃m,W m σ H)/\∀m σ H,W m σ H->
 c σ H λb H1=>if b=true then∃N:St->aa->Prop,(∀a_ H',N a_ H'->∃c5,c5<m/\W c5 a_ H')/\c0 {D with cy:=N,fU:=N,gU:=D.cy} σ H1 else D.cy σ H1
theorem G5{c:Expr}{body:List Stmt}{m_:TT}{c0:e0}(aP:PassesOwn (ba X.prog X.w) X.A X.env X.dD)(aC:kW X c m_)(U:hI X body c0):g0 X (.While c body [] pos) (aeD m_ c0):=by
 intro pins s σ H D I h;obtain⟨W,⟨m0,DB⟩,turn⟩:=h;refine wpAny_While (codeAny_whileLoop (λn s'=>∃a_ H',Inv X pins a_ H' s'/\W n a_ H') ?_ m0 ⟨σ,H,I,DB⟩);rintro n s1 ⟨r2,H1,aX,gO⟩;refine y3 aP (bS (aC pins s1 r2 H1 _ aX (turn n r2 H1 gO)) λb s2⟨aj,bT,cj⟩=>?_);cases b with
 |true=>
  obtain⟨N,fJ,cj⟩:=cj;rw[aO rfl];refine y3 aP (bS (U pins s2 r2 aj _ bT cj) λf s3 fk=>?_);cases f with
  |next=>
   obtain⟨gr,bL,c_,n'⟩:=fk;obtain⟨c5,hm,iu⟩:=fJ gr bL n';exact⟨c5,hm,gr,bL,c_,iu⟩
  |cont=>
   obtain⟨gr,bL,c_,n'⟩:=fk;obtain⟨c5,hm,iu⟩:=fJ gr bL n';exact⟨c5,hm,gr,bL,c_,iu⟩
  |brk=>exact fk
  |ret v=>exact fk
 |false=>
  rw[aJ fz];exact DE ⟨r2,aj,bT,cj⟩
structure e7 where
 go:Nat->aa->Prop
 ni:Nat->aa->V->aa->Prop
 stop:Nat->aa->Prop
end
noncomputable def tS(X:bB)(pins:cG)(H:aa)(b:Addr):Prop:=
 H b=none/\b≠X.env.locals/\b∉X.fs/\(b∈X.ex\/X.h4.heap.objs.size<=b)/\(∀x c,X.env.cells.lookup x=some c->c≠b)/\∀p∈X.d_++pins,p.1≠b
theorem Inv.rf{X:bB}{pins:cG}{σ:St}{H H':aa}{s:aF}{b:Addr}(I:Inv X pins σ H s)(U:s.heap.objs.size<=b)(aD:H' b=none):tS X pins H' b:=by
 refine⟨aD,uq (iz I.lt U),I.anF U,.inr (hc I.jD U),λx c e z=>?_,λp aP z=>?_⟩
 .obtain⟨v,q⟩:=I.cell x c e;exact bE (iz q.lt (by rw[z];exact U)) (q5 _)
 .exact bE (iz (dm (I.pin p aP).1) (by rw[z];exact U)) (q5 _)
structure Turn(P:bP)(w:bt)(K:aY)(dI:Expr)(J:e7)(cw:b4)(it:Addr)(hU:Nat->Heap->Prop):Prop where
 mem:it∈cw
 obj:∀i h,hU i h->∀b∈cw,∃o,h.get? b=some o/\∀v,o.data≠.cell v
 keep:∀i h h',hU i h->(∀b∈cw,∀o,h.get? b=some o->h'.get? b=some o)->hU i h'
 item:∀(X:bB),X.prog=P->X.w=w->X.K=K->X.calm=true->∀(i:Nat)(pins:cG)(s:aF)(σ:St)(H:aa)(E:cx),Inv X pins σ H s->(∀b∈cw,tS X pins H b)->hU i s.heap->J.go i H->
  aM (ba P w) X.A (iP (.ref it)) (λr s1=>∃u,r=some u/\
   aM (ba P w) X.A (Oq dI (.ref it) u) (λ_ s2=>∃x H',Inv X pins σ H' s2/\RelV x u/\J.ni i H x H'/\hU (i+1) s2.heap/\∀b∈cw,H' b=none) E s1) E s
 done:∀(X:bB),X.prog=P->X.w=w->X.K=K->X.calm=true->∀(i:Nat)(pins:cG)(s:aF)(σ:St)(H:aa)(E:cx),Inv X pins σ H s->(∀b∈cw,tS X pins H b)->hU i s.heap->J.stop i H->
  aM (ba P w) X.A (iP (.ref it)) (λr s1=>r=none/\Inv X pins σ H s1) E s
 self:∀(A:cU)(i:Nat)(s:aF)(Q:cx)(E:cx),hU i s.heap->Q (.ref it) s->aM (ba P w) A (vF (.ref it)) Q E s
noncomputable abbrev TI:=St->aa->(e7->aa->Prop)->Prop
noncomputable def JQ(X:bB)(pins:cG)(σ:St)(dI:Expr)(R:e7->aa->Prop)(N3:Value)(s2:aF):Prop:=
 ∃(it:Addr)(cw:b4)(hU:Nat->Heap->Prop)(J:e7)(H':aa),N3=.ref it/\Inv X pins σ H' s2/\Turn X.prog X.w X.K dI J cw it hU/\hU 0 s2.heap/\(∀b∈cw,tS X pins H' b)/\R J H'
noncomputable def my(X:bB)(dI iter:Expr)(wi:TI):Prop:=
 ∀(pins:cG)(s:aF)(σ:St)(H:aa)(R:e7->aa->Prop),Inv X pins σ H s->wi σ H R->
  aM (ba X.prog X.w) X.A (eval iter X.env) (λv s1=>aM (ba X.prog X.w) X.A (vF v) (JQ X pins σ dI R) X.dD s1) X.dD s
theorem yU{M:oD}{A:cU}{E:cx}{s:aF}{dI:Expr}{it:Addr}{u:Value}{o:Obj}{n:String}{vs:iA}{Q:Unit->aF->Prop}(aR:s.heap.get? it=some o)(aC:o.cls=.type n)(hd:o.data=.fields vs)(aD:["enumerate","zip","dict_itemiterator","dict_reverseitemiterator","odict_iterator","itertools.zip_longest","itertools.pairwise"].contains n=false)(dk:Q () s):aM M A (Oq dI (.ref it) u) Q E s:=by
  unfold Oq;cases dI<;>first
    |exact a9 dk
    | (cases u<;>first
        |exact a9 dk
        | (refine au (Ý aR ?_)
           rw[aC,hd];show aM M A (if(["enumerate","zip","dict_itemiterator","dict_reverseitemiterator","odict_iterator","itertools.zip_longest","itertools.pairwise"].contains n&&vs[0]?==some (h3 _))=true then _ else _) Q E s;rw[aJ (by intro h;rw[aD,Bool.false_and]at h;cases h)];exact a9 dk))
noncomputable def jG(K:aY)(a:Addr):e7:=
 ⟨λi H=>∃xs x,aS K H a xs/\xs[i]?=some x,λi H x H'=>H'=H/\∀xs,aS K H a xs->xs[i]?=some x,λi H=>∃xs,aS K H a xs/\xs.length<=i⟩
noncomputable def se(K:aY)(a:Addr):e7:=
 ⟨λi H=>∃xs x,b2 K H a xs/\xs[i]?=some x,λi H x H'=>H'=H/\∀xs,b2 K H a xs->xs[i]?=some x,λi H=>∃xs,b2 K H a xs/\xs.length<=i⟩
noncomputable def sd(lo:Int)(n:Nat):e7:=⟨λi _=>i<n,λi H x H'=>H'=H/\x=.int (lo+i),λi _=>n<=i⟩
theorem ŭ{P:bP}{w:bt}{K:aY}{dI:Expr}(a it:Addr):Turn P w K dI (jG K a) [it] it (λi h=>h.IsListIter it a i)where
 mem:=by simp
 obj:=λi h st b U=>by
  have e:b=it:=by simpa using U
  subst e;obtain⟨o,e,c,d⟩:=st;exact⟨o,e,λv z=>by rw[d]at z;cases z⟩
 keep:=λi h h' st k=>st.at λo e=>k it (by simp) o e
 item:=by intro X f' hw fa aC i pins s σ H E I hf st bx;subst f' hw fa;obtain⟨xs,x,bp,ao⟩:=bx;obtain⟨its,cg,p,hz⟩:=I.list bp;obtain⟨u,cJ,eA⟩:=cg.get ao;obtain⟨f0,f1,f2,dB,f4,e_⟩:=hf it (by simp);refine wpAny_pyNext_list_item st p.isList (x:=u) (by simpa using cJ) λh' aN b5=>?_;have aX:Inv X pins σ H {s with heap:=h'}:=I.turned (t':=s.toks) (λb o U e=>(b5.2 b U).trans e) f0 f1 dB f4 e_;obtain⟨o,e,c,d⟩:=id aN;exact⟨u,rfl,yU (s:={s with heap:=h'}) e c d (by decide) ⟨x,H,aX,eA,⟨rfl,λys aZ=>by rw[I.YX aZ bp];exact ao⟩,aN,λb U=>(hf b U).1⟩⟩
 done:=by intro X f' hw fa aC i pins s σ H E I hf st bx;subst f' hw fa;obtain⟨xs,bp,ao⟩:=bx;obtain⟨its,cg,p,hz⟩:=I.list bp;obtain⟨f0,f1,f2,dB,f4,e_⟩:=hf it (by simp);have aq:=cg.length;exact wpAny_pyNext_list_end (I.ok.hd aC) st p.isList (by simp;omega) λh' dN=>⟨rfl,I.turned (t':=s.toks) (λb o U e=>dN b o U e) f0 f1 dB f4 e_⟩
 self:=λ_ _ _ _ _ st h=>wpAny_pyIter_listiter st h
theorem Ġ{P:bP}{w:bt}{K:aY}{dI:Expr}(a it:Addr):Turn P w K dI (se K a) [it] it (λi h=>h.IsTupleIter it a i)where
 mem:=by simp
 obj:=λi h st b U=>by
  have e:b=it:=by simpa using U
  subst e;obtain⟨o,e,c,d⟩:=st;exact⟨o,e,λv z=>by rw[d]at z;cases z⟩
 keep:=λi h h' st k=>st.at λo e=>k it (by simp) o e
 item:=by intro X f' hw fa aC i pins s σ H E I hf st bx;subst f' hw fa;obtain⟨xs,x,bp,ao⟩:=bx;obtain⟨its,cg,p,hz⟩:=I.tuple bp;obtain⟨u,cJ,eA⟩:=cg.get ao;obtain⟨f0,f1,f2,dB,f4,e_⟩:=hf it (by simp);refine wpAny_pyNext_tuple_item st (show s.heap.IsTuple a its.toArray from p) (x:=u) (by simpa using cJ) λh' aN b5=>?_;have aX:Inv X pins σ H {s with heap:=h'}:=I.turned (t':=s.toks) (λb o U e=>(b5.2 b U).trans e) f0 f1 dB f4 e_;obtain⟨o,e,c,d⟩:=id aN;exact⟨u,rfl,yU (s:={s with heap:=h'}) e c d (by decide) ⟨x,H,aX,eA,⟨rfl,λys aZ=>by rw[I.ao8 aZ bp];exact ao⟩,aN,λb U=>(hf b U).1⟩⟩
 done:=by intro X f' hw fa aC i pins s σ H E I hf st bx;subst f' hw fa;obtain⟨xs,bp,ao⟩:=bx;obtain⟨its,cg,p,hz⟩:=I.tuple bp;obtain⟨f0,f1,f2,dB,f4,e_⟩:=hf it (by simp);have aq:=cg.length;exact wpAny_pyNext_tuple_end (I.ok.hd aC) st (show s.heap.IsTuple a its.toArray from p) (by simp;omega) λh' dN=>⟨rfl,I.turned (t':=s.toks) (λb o U e=>dN b o U e) f0 f1 dB f4 e_⟩
 self:=λ_ _ _ _ _ st h=>wpAny_pyIter_tupleiter st h
theorem ġ{P:bP}{w:bt}{K:aY}{dI:Expr}(it:Addr)(lo:Int)(n:Nat):Turn P w K dI (sd lo n) [it] it (λi h=>IsRangeIter h it (lo+(i:Nat)*1) ((n:Int)-(i:Nat)) 1)where
 mem:=by simp
 obj:=λi h st b U=>by
  have e:b=it:=by simpa using U
  subst e;exact⟨_,st,λv z=>by
   have dz:SO _=SN v:=z;cases dz⟩
 keep:=λi h h' st k=>k it (by simp) _ st
 item:=by intro X f' hw fa aC i pins s σ H E I hf st bx;subst f' hw fa;obtain⟨f0,f1,f2,dB,f4,e_⟩:=hf it (by simp);have W:=Walks.range (prog:=X.prog) (w:=X.w) (I.ok.hd aC) it lo 1 n;refine W.item i s _ _ bx st λv h' aG bI aN cm=>?_;obtain⟨t,rfl⟩:=bI;have aX:Inv X pins σ H {s with heap:=h',toks:=aG}:=I.turned (λb o U e=>cm b o (by simpa using U) e) f0 f1 dB f4 e_;refine⟨_,rfl,yU (s:={s with heap:=h',toks:=aG}) (n:="range_iterator") aN rfl rfl (by decide) ⟨.int (lo+i),H,aX,⟨t,?_⟩,⟨rfl,rfl⟩,aN,λb U=>(hf b U).1⟩⟩;rw[Int.mul_one]
 done:=by intro X f' hw fa aC i pins s σ H E I hf st bx;subst f' hw fa;obtain⟨f0,f1,f2,dB,f4,e_⟩:=hf it (by simp);exact wpAny_pyNext_range_end (I.ok.hd aC) st (by have:n<=i:=bx;omega) λh' dN=>⟨rfl,I.turned (t':=s.toks) (λb o U e=>dN b o U e) f0 f1 dB f4 e_⟩
 self:=λ_ _ _ _ _ st h=>wpAny_pyIter_rangeiter st h
section
variable{X:bB}{dI:Expr}
inductive ahp(K:aY)(x:V)(H1:aa)(R:e7->aa->Prop):Prop where
 |mk (a:_) (b0:x=.ref a) (bH:(∃xs,aS K H1 a xs)) (cu:R (jG K a) H1)
noncomputable def ags(K:aY)(c3:TE):TI:=λσ H R=>c3 σ H λx H1=>ahp K x H1 R
noncomputable def ahq(K:aY)(c3:TE):TI:=λσ H R=>c3 σ H λx H1=>∃a,x=.ref a/\(∃xs,b2 K H1 a xs)/\R (se K a) H1
theorem i1{l:Expr}{c3:TE}(aq:bN X l c3):my X dI l (ags X.K c3):=by
 intro pins s σ H R I h;refine bS (aq pins s σ H _ I h) λv s1⟨x,H1,aX,b',bq⟩=>?_;obtain⟨a,e,⟨xs,bp⟩,q⟩:=bq;subst e;cases b';obtain⟨its,cg,p,hz⟩:=aX.list bp;refine Q1 p.isList ?_;refine⟨s1.heap.objs.size,[s1.heap.objs.size],_,_,H1,rfl,aX.kept (t':=s1.toks) λb o e=>c6 _ e,ŭ a _,⟨_,ff _ rfl,rfl,rfl⟩,λb U=>?_,q⟩;have e:b=s1.heap.objs.size:=by simpa using U
 subst e;exact aX.rf (b1 _) (aX.bo.fresh (b1 _))
theorem IG{l:Expr}{c3:TE}(aq:bN X l c3):my X dI l (ahq X.K c3):=by
 intro pins s σ H R I h;refine bS (aq pins s σ H _ I h) λv s1⟨x,H1,aX,b',bq⟩=>?_;obtain⟨a,e,⟨xs,bp⟩,q⟩:=bq;subst e;cases b';obtain⟨its,cg,p,hz⟩:=aX.tuple bp;refine apK (show s1.heap.IsTuple a its.toArray from p) ?_;refine⟨s1.heap.objs.size,[s1.heap.objs.size],_,_,H1,rfl,aX.kept (t':=s1.toks) λb o e=>c6 _ e,Ġ a _,⟨_,ff _ rfl,rfl,rfl⟩,λb U=>?_,q⟩;have e:b=s1.heap.objs.size:=by simpa using U
 subst e;exact aX.rf (b1 _) (aX.bo.fresh (b1 _))
theorem aaX{pins:cG}{σ:St}{H:aa}{s:aF}{R:e7->aa->Prop}{E:cx}{lo ai:Int}{t u v:Tok}{aG:Nat}(I:Inv X pins σ H s)(ag:-(2 ^ 62)<=lo)(af:lo<2 ^ 62)(aV:-(2 ^ 62)<=ai)(bU:ai<2 ^ 62)(q:R (sd lo (ai-lo).toNat) H):aM (ba X.prog X.w) X.A (vF (.ref s.heap.objs.size)) (JQ X pins σ dI R) E {s with heap:=s.heap.push {cls:=.type "range",data:=.fields #[.int lo t,.int ai u,.int 1 v]},toks:=aG}:=by
 refine wpAny_pyIter_range (IsRange.new ..) (small_one ag af aV bU) ?_;have aX:Inv X pins σ H {s with heap:=s.heap.push {cls:=.type "range",data:=.fields #[.int lo t,.int ai u,.int 1 v]},toks:=aG}:=I.kept λb o e=>c6 _ e;refine⟨(s.heap.push {cls:=.type "range",data:=.fields #[.int lo t,.int ai u,.int 1 v]}).objs.size,[(s.heap.push {cls:=.type "range",data:=.fields #[.int lo t,.int ai u,.int 1 v]}).objs.size],_,_,H,rfl,
  aX.kept (t':=aG) λb o e=>c6 _ e,ġ _ lo (ai-lo).toNat,?_,λb U=>?_,q⟩
 .have ax:lo+((0:Nat):Int)*1=lo:=by simp
  have az:(((ai-lo).toNat:Nat):Int)-((0:Nat):Int)=aqz lo ai 1:=by rw[rangeSize_one];split<;>omega
  show IsRangeIter _ _ (lo+((0:Nat):Int)*1) ((((ai-lo).toNat:Nat):Int)-((0:Nat):Int)) 1;rw[ax,az];exact ff _ rfl
 .have e:b=(s.heap.push {cls:=.type "range",data:=.fields #[.int lo t,.int ai u,.int 1 v]}).objs.size:=by simpa using U
  subst e;exact aX.rf (b1 _) (aX.bo.fresh (b1 _))
noncomputable def agt(cb:gF):TI:=λσ H R=>cb σ H λvs H1=>∃j:Int,vs=[.int j]/\-(2 ^ 62)<=j/\j<2 ^ 62/\R (sd 0 j.toNat) H1
theorem Pr{a:Expr}{cb:gF}{p pos:Pos}(bx:kv X "range")(hm:X.ae "range"=none)(aH:ht X [a] cb)(hs:eb [a] X.env=[(false,eval a X.env)]:=by rfl):my X dI (.Call (.Name "range" p) [a] [] pos) (agt cb):=by
 intro pins s σ H R I h;refine Call_ (Dl I bx hm boot_range (Va (bS (aH pos pins s σ H _ I h) λus s1⟨vs,H1,aX,b',bq⟩=>?_) hs rfl));obtain⟨j,e,bq,cj,q⟩:=bq;subst e;cases b' with
 |cons r qD=>
  cases qD;obtain⟨t,rfl⟩:=r;exact call_range_1 (aaX aX (by omega) (by omega) bq cj (by simpa using q))
noncomputable def ahr(wi:TI)(g:eK)(c0:e0):e0:=λD σ H=>wi σ H λJ H1=>∃W:Nat->Nat->St->aa->Prop,(∃m,W 0 m σ H1)/\∀i m σ H,W i m σ H->
 (J.stop i H/\D.cy σ H)\/(J.go i H/\∃N:St->aa->Prop,(∀a_ H',N a_ H'->∃c5,c5<m/\W (i+1) c5 a_ H')/\∀x H',J.ni i H x H'->g x σ H' λhn aj=>c0 {D with cy:=N,fU:=N,gU:=D.cy} hn aj)
noncomputable def Dm(cw:b4)(h:Heap):List (Addr×Obj):=cw.filterMap λb=>(h.get? b).map λo=>(b,o)
theorem Gw{cw:b4}{h:Heap}{b:Addr}{o:Obj}(U:b∈cw)(e:h.get? b=some o):(b,o)∈Dm cw h:=Jx.mpr ⟨b,U,by rw[e];rfl⟩
theorem Ů{cw:b4}{h:Heap}{p:Addr×Obj}(aP:p∈Dm cw h):p.1∈cw/\h.get? p.1=some p.2:=by
 obtain⟨b,U,e⟩:=Jx.mp aP;cases q:h.get? b with
 |none=>rw[q]at e;cases e
 |some o=>
  rw[q]at e;have b9:(b,o)=p:=gZ e;subst b9;exact⟨U,q⟩
theorem Inv.pinned{pins:cG}{σ:St}{H:aa}{s:aF}{cw:b4}(I:Inv X pins σ H s)(hf:∀b∈cw,tS X pins H b)(aR:∀b∈cw,∃o,s.heap.get? b=some o/\∀v,o.data≠.cell v):Inv X (pins++Dm cw s.heap) σ H s:=
 I.ZD λp aP=>(fY.mp aP).elim (λz=>I.pin p (q4 _ z)) λz=>by obtain⟨U,e⟩:=Ů z;obtain⟨f0,f1,f2,_⟩:=hf p.1 U;obtain⟨o,b9,d⟩:=aR p.1 U;rw[e]at b9;cases b9;exact⟨e,f0,f1,f2,d⟩
theorem Inv.HY{pins pl:cG}{σ:St}{H:aa}{s:aF}(I:Inv X (pins++pl) σ H s):Inv X pins σ H s:=I.ZD λp aP=>I.pin p (q4 _ (abQ _ aP))
theorem kC{iter:Expr}{body:List Stmt}{wi:TI}{g:eK}{c0:e0}{pos:Pos}(aP:PassesOwn (ba X.prog X.w) X.A X.env X.dD)(aC:X.calm=true)(ai:my X dI iter wi)(bx:pV X dI g)(U:hI X body c0)(hs:∀x,Mb iter X.env x=pure x:=by intro _;rfl):g0 X (.For dI iter body [] pos) (ahr wi g c0):=by
 intro pins s σ H D I h;refine wpAny_For (bS (ai pins s σ H _ I h) λv s1 ag=>bS ag λN3 s2 af=>?_) hs;obtain⟨it,cw,hU,J,aj,e,bT,T,HJ,f2,W,⟨m0,DB⟩,turn⟩:=af;subst e;have vN:∀{H':aa},(∀b∈cw,H' b=none)->∀b∈cw,tS X pins H' b:=λaD b U=>⟨aD b U,(f2 b U).2⟩
 refine codeAny_forLoop_any (λn s'=>∃i a_ H',Inv X pins a_ H' s'/\hU i s'.heap/\(∀b∈cw,H' b=none)/\W i n a_ H') ?_ m0 ⟨0,σ,aj,bT,HJ,λb U=>(f2 b U).1,DB⟩;rintro n s3 ⟨i,gr,bL,c_,Z',Xk,iu⟩;rcases turn i n gr bL iu with⟨stop,kK⟩|⟨go,N,fJ,step⟩
 .refine y3 aP (bS (T.done X rfl rfl rfl aC i pins s3 gr bL X.dD c_ (vN Xk) Z' stop) λr s4⟨ay,j7⟩=>?_);subst ay;exact DE ⟨gr,bL,j7,kK⟩
 .refine y3 aP (bS (T.item X rfl rfl rfl aC i pins s3 gr bL X.dD c_ (vN Xk) Z' go) λr s4⟨u,ay,bU⟩=>?_);subst ay;refine y3 aP (bS bU λ_ s5⟨x,bY,je,CS,Rl,vM,Mc⟩=>?_);have Je:=je.pinned (vN Mc) (T.obj _ _ vM);refine y3 aP (bS (bx _ s5 gr bY x u _ Je CS (step x bY Rl)) λ_ ip⟨DX,lU,t8,Pq⟩=>?_);refine y3 aP (bS (U _ ip DX lU _ t8 Pq) λf qF m3=>?_);have again:∀{pH:St}{fB:aa},Inv X (pins++Dm cw s5.heap) pH fB qF->N pH fB->∃m,m<n/\∃i a_ H',Inv X pins a_ H' qF/\hU i qF.heap/\(∀b∈cw,H' b=none)/\W i m a_ H':=λ{pH fB}lW tk=>by obtain⟨c5,hm,QV⟩:=fJ pH fB tk;refine⟨c5,hm,i+1,pH,fB,lW.HY,T.keep _ _ _ vM λb U o e=>(lW.pin (b,o) (q4 _ (q4 _ (Gw U e)))).1,λb U=>?_,QV⟩;obtain⟨o,e,d⟩:=T.obj _ _ vM b U;exact(lW.pin (b,o) (q4 _ (q4 _ (Gw U e)))).2.1
  cases f with
  |next=>obtain⟨pH,fB,lW,tk⟩:=m3;exact again lW tk
  |cont=>obtain⟨pH,fB,lW,tk⟩:=m3;exact again lW tk
  |brk=>obtain⟨pH,fB,lW,m3⟩:=m3;exact⟨pH,fB,lW.HY,m3⟩
  |ret v=>obtain⟨apS,pH,fB,lW,ZM,m3⟩:=m3;exact⟨apS,pH,fB,lW.HY,ZM,m3⟩
theorem ta{K:aY}{a:Addr}{xs:a'}{g:eK}{c0:e0}{D:Ends}{σ:St}{H:aa}(Pv:Nat->St->aa->Prop)(h0:Pv 0 σ H)(aq:∀i σ H,i<=xs.length->Pv i σ H->aS K H a xs)(hs:∀i x σ H,xs[i]?=some x->Pv i σ H->g x σ H λhn aj=>c0 {D with cy:=Pv (i+1),fU:=Pv (i+1),gU:=D.cy} hn aj)(hd:∀σ H,Pv xs.length σ H->D.cy σ H):
  ∃W:Nat->Nat->St->aa->Prop,(∃m,W 0 m σ H)/\∀i m σ H,W i m σ H->
   ((jG K a).stop i H/\D.cy σ H)\/((jG K a).go i H/\∃N:St->aa->Prop,(∀a_ H',N a_ H'->∃c5,c5<m/\W (i+1) c5 a_ H')/\∀x H',(jG K a).ni i H x H'->g x σ H' λhn aj=>c0 {D with cy:=N,fU:=N,gU:=D.cy} hn aj):=by
 refine⟨λi m σ H=>m=xs.length-i/\i<=xs.length/\Pv i σ H,⟨xs.length,by simp,dM _,h0⟩,?_⟩;rintro i m σ H ⟨rfl,ai,p⟩;have q:=aq i σ H ai p;by_cases bZ:i<xs.length
 .refine .inr ⟨⟨xs,xs[i],q,by simp[bZ]⟩,Pv (i+1),λa_ H' iO=>⟨xs.length-(i+1),by omega,rfl,bZ,iO⟩,λx H' y=>?_⟩;obtain⟨e,y⟩:=y;subst e;exact hs i x σ _ (y xs q) p
 .have e:i=xs.length:=by omega
  subst e;exact .inl ⟨⟨xs,q,b1 _⟩,hd σ H p⟩
theorem SY{K:aY}{a:Addr}{xs:a'}{g:eK}{c0:e0}{D:Ends}{σ:St}{H:aa}(Pv:Nat->St->aa->Prop)(h0:Pv 0 σ H)(aq:∀i σ H,i<=xs.length->Pv i σ H->b2 K H a xs)(hs:∀i x σ H,xs[i]?=some x->Pv i σ H->g x σ H λhn aj=>c0 {D with cy:=Pv (i+1),fU:=Pv (i+1),gU:=D.cy} hn aj)(hd:∀σ H,Pv xs.length σ H->D.cy σ H):
  ∃W:Nat->Nat->St->aa->Prop,(∃m,W 0 m σ H)/\∀i m σ H,W i m σ H->
   ((se K a).stop i H/\D.cy σ H)\/((se K a).go i H/\∃N:St->aa->Prop,(∀a_ H',N a_ H'->∃c5,c5<m/\W (i+1) c5 a_ H')/\∀x H',(se K a).ni i H x H'->g x σ H' λhn aj=>c0 {D with cy:=N,fU:=N,gU:=D.cy} hn aj):=by
 refine⟨λi m σ H=>m=xs.length-i/\i<=xs.length/\Pv i σ H,⟨xs.length,by simp,dM _,h0⟩,?_⟩;rintro i m σ H ⟨rfl,ai,p⟩;have q:=aq i σ H ai p;by_cases bZ:i<xs.length
 .refine .inr ⟨⟨xs,xs[i],q,by simp[bZ]⟩,Pv (i+1),λa_ H' iO=>⟨xs.length-(i+1),by omega,rfl,bZ,iO⟩,λx H' y=>?_⟩;obtain⟨e,y⟩:=y;subst e;exact hs i x σ _ (y xs q) p
 .have e:i=xs.length:=by omega
  subst e;exact .inl ⟨⟨xs,q,b1 _⟩,hd σ H p⟩
theorem Λ{lo:Int}{n:Nat}{g:eK}{c0:e0}{D:Ends}{σ:St}{H:aa}(Pv:Nat->St->aa->Prop)(h0:Pv 0 σ H)(hs:∀i σ H,i<n->Pv i σ H->g (.int (lo+i)) σ H λhn aj=>c0 {D with cy:=Pv (i+1),fU:=Pv (i+1),gU:=D.cy} hn aj)(hd:∀σ H,Pv n σ H->D.cy σ H):
  ∃W:Nat->Nat->St->aa->Prop,(∃m,W 0 m σ H)/\∀i m σ H,W i m σ H->
   ((sd lo n).stop i H/\D.cy σ H)\/((sd lo n).go i H/\∃N:St->aa->Prop,(∀a_ H',N a_ H'->∃c5,c5<m/\W (i+1) c5 a_ H')/\∀x H',(sd lo n).ni i H x H'->g x σ H' λhn aj=>c0 {D with cy:=N,fU:=N,gU:=D.cy} hn aj):=by
 refine⟨λi m σ H=>m=n-i/\i<=n/\Pv i σ H,⟨n,by simp,dM _,h0⟩,?_⟩;rintro i m σ H ⟨rfl,ai,p⟩;by_cases bZ:i<n
 .refine .inr ⟨bZ,Pv (i+1),λa_ H' iO=>⟨n-(i+1),by omega,rfl,bZ,iO⟩,λx H' y=>?_⟩;obtain⟨e,y⟩:=y;subst e y;exact hs i σ _ bZ p
 .have e:i=n:=by omega
  subst e;exact .inl ⟨b1 _,hd σ H p⟩
noncomputable abbrev gQ:=V->V->aa->bl->Prop
end
noncomputable def fZ(X:bB)(f:Value->Value->Sem Value)(r:gQ):Prop:=
 ∀(pins:cG)(s:aF)(σ:St)(H:aa)(x y:V)(v u:Value)(Q:bl),Inv X pins σ H s->RelV x v->RelV y u->r x y H Q->
  aM (ba X.prog X.w) X.A (f v u) (hG X pins σ Q) X.dD s
noncomputable def Kg(X:bB)(f:Value->Sem Value)(r:V->aa->bl->Prop):Prop:=
 ∀(pins:cG)(s:aF)(σ:St)(H:aa)(x:V)(v:Value)(Q:bl),Inv X pins σ H s->RelV x v->r x H Q->
  aM (ba X.prog X.w) X.A (f v) (hG X pins σ Q) X.dD s
noncomputable def iF(X:bB)(f:Value)(r:List V->aa->bl->Prop):Prop:=
 ∀(pins:cG)(s:aF)(σ:St)(H:aa)(xs:a')(us:b_)(Q:bl),Inv X pins σ H s->cp xs us->r xs H Q->
  aM (ba X.prog X.w) X.A (call f us) (hG X pins σ Q) X.dD s
noncomputable def ahs(X:bB)(r:V->aa->(Bool->aa->Prop)->Prop):Prop:=
 ∀(pins:cG)(s:aF)(σ:St)(H:aa)(x:V)(v:Value)(Q:Bool->aa->Prop),Inv X pins σ H s->RelV x v->r x H Q->
  aM (ba X.prog X.w) X.A (truthy v) (EZ X pins σ Q) X.dD s
noncomputable def HR(r:gQ)(cb c0:TE):TE:=λσ H Q=>cb σ H λx H1=>c0 σ H1 λy aj=>r x y aj Q
noncomputable def aoY(r:V->aa->bl->Prop)(cb:TE):TE:=λσ H Q=>cb σ H λx H1=>r x H1 Q
inductive aaC(C:Int->Int->Prop)(g:Int->Int->V)(x:ar.V)(y:ar.V)(H:aa)(Q:bl):Prop where
 |mk (i:_) (j:_) (b0:x=.int i) (bH:y=.int j) (cu:C i j) (cS:Q (g i j) H)
noncomputable def CT(C:Int->Int->Prop)(g:Int->Int->V):gQ:=λx y H Q=>aaC C g x y H Q
inductive aht(g:Int->Int->V)(x:ar.V)(y:ar.V)(H:aa)(Q:bl):Prop where
 |mk (i:_) (j:_) (b0:x=.int i) (bH:y=.int j) (cu:Q (g i j) H)
noncomputable def vI(g:Int->Int->V):gQ:=λx y H Q=>aht g x y H Q
inductive aaD(g:Int->V)(x:V)(H:aa)(Q:bl):Prop where
 |mk (i:_) (b0:x=.int i) (bH:Q (g i) H)
noncomputable def ZP(g:Int->V):V->aa->bl->Prop:=λx H Q=>aaD g x H Q
section
variable{X:bB}{a b c:Expr}{cb c0 m_:TE}{pos:Pos}
theorem J0(aH:bN X a cb)(U:bN X b c0){pins:cG}{s:aF}{σ:St}{H:aa}{R:V->V->aa->Prop}(I:Inv X pins σ H s)(h:cb σ H λx H1=>c0 σ H1 λy aj=>R x y aj){Q:cx}{f:Value->Value->Sem Value}(hf:∀v u s2 x y aj,Inv X pins σ aj s2->RelV x v->RelV y u->R x y aj->aM (ba X.prog X.w) X.A (f v u) Q X.dD s2):
  aM (ba X.prog X.w) X.A (eval a X.env) (λv dH=>aM (ba X.prog X.w) X.A (eval b X.env) (λu qI=>aM (ba X.prog X.w) X.A (f v u) Q X.dD qI) X.dD dH) X.dD s:=by refine bS (aH pins s σ H _ I h) λv s1⟨x,H1,aX,b',bq⟩=>?_;refine bS (U pins s1 σ H1 _ aX bq) λu s2⟨y,aj,bT,df,cj⟩=>?_;exact hf v u s2 x y aj bT b' df cj
theorem cZ{op:Operator}{r:gQ}(aR:fZ X (p6 op) r)(aH:bN X a cb)(U:bN X b c0):bN X (.BinOp a op b pos) (HR r cb c0):=by intro pins s σ H Q I h;exact wpAny_BinOp (J0 aH U I h λv u s2 x y aj bT bC bW q=>aR pins s2 σ aj x y v u Q bT bC bW q)
theorem DU{op:UnaryOp}{r:V->aa->bl->Prop}(aR:Kg X (unaryOp op) r)(aH:bN X a cb):bN X (.UnaryOp op a pos) (aoY r cb):=by intro pins s σ H Q I h;exact UnaryOp_ (bS (aH pins s σ H _ I h) λv s1⟨x,H1,aX,b',bq⟩=>aR pins s1 σ H1 x v Q aX b' bq)
theorem G2{f:Value->Value->Sem Value}{C:Int->Int->Prop}{g:Int->Int->Int}(rule:∀(i j:Int)(t u:Tok)(s:aF)(Q:cx)(E:cx),C i j->Q (.int (g i j) s.toks) {s with toks:=s.toks+1}->aM (ba X.prog X.w) X.A (f (.int i t) (.int j u)) Q E s):
  fZ X f (CT C λi j=>.int (g i j)):=by intro pins s σ H x y v u Q I bC bW h;obtain⟨i,j,rfl,rfl,aC,q⟩:=h;obtain⟨t,rfl⟩:=bC;obtain⟨t',rfl⟩:=bW;exact rule i j t t' s _ _ aC ⟨.int (g i j),H,I.tok _,⟨_,rfl⟩,q⟩
theorem V4{f:Value->Value->Sem Value}{g:Int->Int->Int}(rule:∀(i j:Int)(t u:Tok)(s:aF)(Q:cx)(E:cx),Q (.int (g i j) s.toks) {s with toks:=s.toks+1}->aM (ba X.prog X.w) X.A (f (.int i t) (.int j u)) Q E s):
  fZ X f (vI λi j=>.int (g i j)):=by intro pins s σ H x y v u Q I bC bW h;obtain⟨i,j,rfl,rfl,q⟩:=h;obtain⟨t,rfl⟩:=bC;obtain⟨t',rfl⟩:=bW;exact rule i j t t' s _ _ ⟨.int (g i j),H,I.tok _,⟨_,rfl⟩,q⟩
theorem J1{f:Value->Value->Sem Value}{g:Int->Int->Bool}(rule:∀(i j:Int)(t u:Tok)(s:aF)(Q:cx)(E:cx),Q (.bool (g i j)) s->aM (ba X.prog X.w) X.A (f (.int i t) (.int j u)) Q E s):
  fZ X f (vI λi j=>.bf (g i j)):=by intro pins s σ H x y v u Q I bC bW h;obtain⟨i,j,rfl,rfl,q⟩:=h;obtain⟨t,rfl⟩:=bC;obtain⟨t',rfl⟩:=bW;exact rule i j t t' s _ _ ⟨.bf (g i j),H,I,rfl,q⟩
noncomputable def ahu(i j:Int):Prop:=0<j/\j<1073741824
noncomputable def ahf(i j:Int):Prop:=0<=j/\j<=1000000/\i.natAbs<2 ^ 64
noncomputable def J2(i j:Int):Prop:=(-(2 ^ 64)<i/\i<2 ^ 64)\/(-(2 ^ 64)<j/\j<2 ^ 64)
theorem J2.ok{i j:Int}(h:J2 i j):IntMulOk i j:=by
 rcases h with⟨ag,af⟩|⟨ag,af⟩
 .exact .of_left (intBits_le_64 ag af)
 .exact .of_right (intBits_le_64 ag af)
theorem iB:fZ X (p6 .Add) (vI λi j=>.int (i+j)):=V4 λ_ _ _ _ _ _ _ q=>add_int q
theorem Dn:fZ X (p6 .Sub) (vI λi j=>.int (i-j)):=V4 λ_ _ _ _ _ _ _ q=>sub_int q
theorem rB:fZ X (p6 .Mult) (CT J2 λi j=>.int (i*j)):=G2 λ_ _ _ _ _ _ _ aC q=>mul_int q aC.ok
theorem oT:fZ X (p6 .FloorDiv) (CT ahu λi j=>.int (i/j)):=G2 λi j _ _ _ _ _ aC q=>by have ag:(0:Int)<j:=aC.1;have af:j<1073741824:=aC.2;exact floordiv_int (by omega) (by rw[Int.fdiv_eq_ediv_of_nonneg i (by omega)];exact q) (.inl (PyProof.noPylong_small (by omega)))
theorem ic:fZ X (p6 .Mod) (CT (λ_ j=>0<j) λi j=>.int (i%j)):=G2 λi j _ _ _ _ _ aC q=>by have ag:(0:Int)<j:=aC;exact mod_int' (by omega) (by rw[Int.fmod_eq_emod_of_nonneg i (by omega)];exact q)
theorem TX:fZ X (p6 .Pow) (CT ahf λi j=>.int (i ^ j.toNat)):=G2 λ_ _ _ _ _ _ _ aC q=>pow_int_small aC.1 aC.2.1 aC.2.2 q
theorem apb{f:Value->Sem Value}{g:Int->Int}(rule:∀(i:Int)(t:Tok)(s:aF)(Q:cx)(E:cx),Q (.int (g i) s.toks) {s with toks:=s.toks+1}->aM (ba X.prog X.w) X.A (f (.int i t)) Q E s):
  Kg X f (ZP λi=>.int (g i)):=by intro pins s σ H x v Q I bC h;obtain⟨i,rfl,q⟩:=h;obtain⟨t,rfl⟩:=bC;exact rule i t s _ _ ⟨.int (g i),H,I.tok _,⟨_,rfl⟩,q⟩
theorem Dp:Kg X (unaryOp .USub) (ZP λi=>.int (-i)):=apb λ_ _ _ _ _ q=>neg_int q
noncomputable def V5:V->V->Bool
 |.bV,.bV=>true|.bV,.int _=>true|.int _,.bV=>true|.bV,.bf _=>true|.bf _,.bV=>true|.bV,.str _=>true|.str _,.bV=>true
 |.int _,.int _=>true|.bf _,.bf _=>true|.str _,.str _=>true|.l4 _,.l4 _=>true
 |.int _,.str _=>true|.str _,.int _=>true|.bf _,.str _=>true|.str _,.bf _=>true
 |_,_=>false
noncomputable def aog:gQ:=λx y H Q=>V5 x y=true/\Q (.bf (decide (x=y))) H
noncomputable def aoi:gQ:=λx y H Q=>V5 x y=true/\Q (.bf (!decide (x=y))) H
theorem Rh{i j:Int}:decide (V.int i=V.int j)=(i==j):=by rw[DZ];simp
theorem TN{i j:Bool}:decide (V.bf i=V.bf j)=(i==j):=by rw[DZ];simp
theorem S0{i j:Str}:decide (V.str i=V.str j)=(i==j):=by rw[DZ];simp
theorem S1{i j:Array UInt8}:decide (V.l4 i=V.l4 j)=(i.toList==j.toList):=by rw[DZ];cases i;cases j;simp
theorem fT{pins:cG}{σ:St}{H:aa}{s:aF}{Q:bl}{k eV:Bool}(I:Inv X pins σ H s)(q:Q (.bf k) H)(e:k=eV):hG X pins σ Q (.bool eV) s:=by subst e;exact⟨.bf k,H,I,rfl,q⟩
theorem rG:fZ X (hN .Eq) aog:=by
 intro pins s σ H x y v u Q I bC bW h;obtain⟨hs,q⟩:=h;cases x with
 |bV=>
  cases bC;cases y with
  |bV=>cases bW;exact aqZ (fT I q (by simp))
  |bf j=>cases bW;exact aqX (fT I q (by simp))
  |int j=>obtain⟨t',rfl⟩:=bW;exact aqY (fT I q (by simp))
  |str j=>obtain⟨t',rfl⟩:=bW;exact aq0 (fT I q (by simp))
  |_=>exact bE (show false=true from hs) fz
 |bf i=>
  cases bC;cases y with
  |bV=>cases bW;exact aqV (fT I q (by simp))
  |bf j=>cases bW;exact eq_bool (fT I q TN)
  |str j=>obtain⟨t',rfl⟩:=bW;exact aqN (fT I q (by simp))
  |_=>exact bE (show false=true from hs) fz
 |int i=>
  obtain⟨t,rfl⟩:=bC;cases y with
  |bV=>cases bW;exact aqW (fT I q (by simp))
  |int j=>obtain⟨t',rfl⟩:=bW;exact eq_int (fT I q Rh)
  |str j=>obtain⟨t',rfl⟩:=bW;exact aqO (fT I q (by simp))
  |_=>exact bE (show false=true from hs) fz
 |str i=>
  obtain⟨t,rfl⟩:=bC;cases y with
  |bV=>cases bW;exact aq1 (fT I q (by simp))
  |bf j=>cases bW;exact aqP (fT I q (by simp))
  |int j=>obtain⟨t',rfl⟩:=bW;exact aqQ (fT I q (by simp))
  |str j=>obtain⟨t',rfl⟩:=bW;exact eq_str (fT I q S0)
  |_=>exact bE (show false=true from hs) fz
 |l4 i=>
  obtain⟨t,rfl⟩:=bC;cases y with
  |l4 j=>obtain⟨t',rfl⟩:=bW;exact PySem.W.eq_bytes (fT I q S1)
  |_=>exact bE (show false=true from hs) fz
 |_=>cases y<;>exact bE (show false=true from hs) fz
theorem tq:fZ X (hN .NotEq) aoi:=by
 intro pins s σ H x y v u Q I bC bW h;obtain⟨hs,q⟩:=h;cases x with
 |bV=>
  cases bC;cases y with
  |bV=>cases bW;exact aq6 (fT I q (by simp))
  |bf j=>cases bW;exact aq4 (fT I q (by simp))
  |int j=>obtain⟨t',rfl⟩:=bW;exact aq5 (fT I q (by simp))
  |str j=>obtain⟨t',rfl⟩:=bW;exact aq7 (fT I q (by simp))
  |_=>exact bE (show false=true from hs) fz
 |bf i=>
  cases bC;cases y with
  |bV=>cases bW;exact aq2 (fT I q (by simp))
  |bf j=>cases bW;exact ne_bool (fT I q (e9 not TN))
  |str j=>obtain⟨t',rfl⟩:=bW;exact aqR (fT I q (by simp))
  |_=>exact bE (show false=true from hs) fz
 |int i=>
  obtain⟨t,rfl⟩:=bC;cases y with
  |bV=>cases bW;exact aq3 (fT I q (by simp))
  |int j=>obtain⟨t',rfl⟩:=bW;exact ne_int (fT I q (e9 not Rh))
  |str j=>obtain⟨t',rfl⟩:=bW;exact aqS (fT I q (by simp))
  |_=>exact bE (show false=true from hs) fz
 |str i=>
  obtain⟨t,rfl⟩:=bC;cases y with
  |bV=>cases bW;exact aq8 (fT I q (by simp))
  |bf j=>cases bW;exact aqT (fT I q (by simp))
  |int j=>obtain⟨t',rfl⟩:=bW;exact aqU (fT I q (by simp))
  |str j=>obtain⟨t',rfl⟩:=bW;exact ne_str (fT I q (e9 not S0))
  |_=>exact bE (show false=true from hs) fz
 |l4 i=>
  obtain⟨t,rfl⟩:=bC;cases y with
  |l4 j=>obtain⟨t',rfl⟩:=bW;exact PySem.W.ne_bytes (fT I q (e9 not S1))
  |_=>exact bE (show false=true from hs) fz
 |_=>cases y<;>exact bE (show false=true from hs) fz
theorem yV:fZ X (hN .Lt) (vI λi j=>.bf (decide (i<j))):=J1 λ_ _ _ _ _ _ _ q=>lt_int q
theorem rH:fZ X (hN .LtE) (vI λi j=>.bf (decide (i<=j))):=J1 λ_ _ _ _ _ _ _ q=>le_int q
theorem vP:fZ X (hN .Gt) (vI λi j=>.bf (decide (j<i))):=J1 λ_ _ _ _ _ _ _ q=>gt_int q
theorem Dq:fZ X (hN .Is) (λx y H Q=>y=.bV/\Q (.bf (decide (x=.bV))) H):=by
 intro pins s σ H x y v u Q I bC bW h;obtain⟨rfl,q⟩:=h;cases bW;refine is_none_gen (fT I q ?_);cases x<;>first
  | (cases bC;rfl)
  | (obtain⟨t,rfl⟩:=bC;rfl)
theorem S2:fZ X (hN .IsNot) (λx y H Q=>y=.bV/\Q (.bf (!decide (x=.bV))) H):=by
 intro pins s σ H x y v u Q I bC bW h;obtain⟨rfl,q⟩:=h;cases bW;refine isnot_none_gen (fT I q ?_);cases x<;>first
  | (cases bC;rfl)
  | (obtain⟨t,rfl⟩:=bC;rfl)
theorem eD(b:Expr){op:r9}(h:op≠.In:=by decide)(af:op≠.NotIn:=by decide):uD op b=false:=by
 have ax:(op==CmpOp.In)=false:=by cases op<;>first|rfl|exact bE rfl h
 have az:(op==CmpOp.NotIn)=false:=by cases op<;>first|rfl|exact bE rfl af
 cases b<;>simp[uD,ax,az]
theorem lg{op:r9}{r:gQ}(aR:fZ X (hN op) r)(aH:bN X a cb)(U:bN X b c0)(hm:uD op b=false):bN X (.Compare a [op] [b] pos) (HR r cb c0):=by intro pins s σ H Q I h;exact apA (J0 aH U I h λv u s2 x y aj bT bC bW q=>aR pins s2 σ aj x y v u Q bT bC bW q) hm
noncomputable def Vw(t:TE):TT:=λσ H Q=>t σ H λx H'=>TO x H' Q
theorem fP{op:r9}{r:gQ}(aR:fZ X (hN op) r)(aH:bN X a cb)(U:bN X b c0)(hm:uD op b=false):kW X (.Compare a [op] [b] pos) (Vw (HR r cb c0)):=by
 intro pins s σ H Q I h;refine apF (bS (aH pins s σ H _ I h) λv s1⟨x,H1,aX,b',bq⟩=>bS (U pins s1 σ H1 _ aX bq) λu s2⟨y,aj,bT,df,cj⟩=>
  bS (aR pins s2 σ aj x y v u _ bT b' df cj) λc s3⟨z,bL,c_,vG,k,e,fk⟩=>?_) hm
 subst e;cases vG;exact pF ⟨bL,c_,fk⟩
noncomputable def TP(r cB:gQ)(cb c0 m_:TE):TE:=λσ H Q=>cb σ H λx H1=>c0 σ H1 λy aj=>r x y aj λz bL=>∃k,z=.bf k/\
 (if k=true then m_ σ bL λgN eP=>cB y gN eP Q else Q (.bf false) bL)
theorem ñ{op vD:r9}{r cB:gQ}(aR:fZ X (hN op) r)(jz:fZ X (hN vD) cB)(aH:bN X a cb)(U:bN X b c0)(aC:bN X c m_)(hm:lastMarks [op,vD] [b,c]=false:=by with_unfolding_all rfl):bN X (.Compare a [op,vD] [b,c] pos) (TP r cB cb c0 m_):=by
 intro pins s σ H Q I h;refine Compare_chain (bS (aH pins s σ H _ I h) λv s1⟨x,H1,aX,b',bq⟩=>chain_link (bS (U pins s1 σ H1 _ aX bq) λu s2⟨y,aj,bT,df,cj⟩=>
  bS (aR pins s2 σ aj x y v u _ bT b' df cj) λd s3⟨z,bL,c_,vG,k,e,fk⟩=>?_)) hm
 subst e;cases vG;refine pF ?_;cases k with
 |false=>exact ite_ff ⟨.bf false,bL,c_,rfl,fk⟩
 |true=>exact ite_tt (chain_last (bS (aC pins s3 σ bL _ c_ fk) λgN s4⟨dz,eP,j7,vH,jC⟩=>jz pins s4 σ eP y dz u gN Q j7 df vH jC))
theorem Cn{op vD:r9}{r cB:gQ}(aR:fZ X (hN op) r)(jz:fZ X (hN vD) cB)(aH:bN X a cb)(U:bN X b c0)(aC:bN X c m_)(hm:lastMarks [op,vD] [b,c]=false:=by with_unfolding_all rfl):kW X (.Compare a [op,vD] [b,c] pos) (Vw (TP r cB cb c0 m_)):=by
 intro pins s σ H Q I h;refine isTrue_chain (bS (aH pins s σ H _ I h) λv s1⟨x,H1,aX,b',bq⟩=>test_link (bS (U pins s1 σ H1 _ aX bq) λu s2⟨y,aj,bT,df,cj⟩=>
  bS (aR pins s2 σ aj x y v u _ bT b' df cj) λd s3⟨z,bL,c_,vG,k,e,fk⟩=>?_)) hm
 subst e;cases vG;refine pF ?_;cases k with
 |false=>
  obtain⟨eV,b9,dj⟩:=fk;cases b9;exact ite_ff ⟨bL,c_,dj⟩
 |true=>
  refine ite_tt (test_last (bS (aC pins s3 σ bL _ c_ fk) λgN s4⟨dz,eP,j7,vH,jC⟩=>bS (jz pins s4 σ eP y dz u gN _ j7 df vH jC) λd' s5⟨bH,bY,je,CS,k2,az,aoa⟩=>?_));subst az;cases CS;exact pF ⟨bY,je,aoa⟩
noncomputable def J3(K:aY)(x:V)(H:aa)(k:Bool):Prop:=
 match x with
 |.bV=>k=false
 |.bf b=>k=b
 |.int i=>k=(i !=0)
 |.str y=>y.length<=sizeLine/\k=((y.length:Int) !=0)
 |.l4 y=>y.size<=sizeLine/\k=((y.size:Int) !=0)
 |.ref p=>(∃xs,aS K H p xs/\k=!xs.isEmpty)\/(∃xs,b2 K H p xs/\k=!xs.isEmpty)\/∃kvs,H p=some (.cD kvs)/\k=!kvs.isEmpty
 |_=>False
theorem Ģ{κ:Type}{kvs:List (κ×V)}{vs:List (κ×Value)}(r:gv kvs vs):(!vs.isEmpty)=!kvs.isEmpty:=by cases r<;>rfl
theorem ε{xs:a'}{its:b_}(r:cp xs its):(!its.toArray.isEmpty)=!xs.isEmpty:=by cases r<;>simp
theorem vz:(sizeLine:Nat)<2 ^ 63:=by rw[pv];decide
theorem TQ:ahs X (λx H Q=>∃k,J3 X.K x H k/\Q k H):=by
 intro pins s σ H x v Q I bC h;obtain⟨k,e,q⟩:=h;have aq:=vz;have hs:sizeLine=16777216:=pv;cases x with
 |bV=>
  cases bC;have b9:k=false:=e;subst b9;exact truthy_none ⟨H,I,q⟩
 |bf b=>
  cases bC;have b9:k=b:=e;subst b9;exact pF ⟨H,I,q⟩
 |int i=>
  obtain⟨t,rfl⟩:=bC;have b9:k=(i !=0):=e;subst b9;exact PySem.P.truthy_int ⟨H,I,q⟩
 |str y=>
  obtain⟨t,rfl⟩:=bC;obtain⟨aZ,b9⟩:y.length<=sizeLine/\k=((y.length:Int) !=0):=e;subst b9;exact PySem.P.truthy_str (by omega) ⟨H,I.tok _,q⟩
 |l4 y=>
  obtain⟨t,rfl⟩:=bC;obtain⟨aZ,b9⟩:y.size<=sizeLine/\k=((y.size:Int) !=0):=e;subst b9;exact PySem.W.truthy_bytes (by omega) ⟨H,I.tok _,q⟩
 |ref p=>
  cases bC;have b9:(∃xs,aS X.K H p xs/\k=!xs.isEmpty)\/(∃xs,b2 X.K H p xs/\k=!xs.isEmpty)\/∃kvs,H p=some (.cD kvs)/\k=!kvs.isEmpty:=e;rcases b9 with⟨xs,ao,b9⟩|⟨xs,ao,b9⟩|⟨kvs,ao,b9⟩
  .subst b9;obtain⟨its,r,pl,hz⟩:=I.list ao;have hlen:=r.length;exact wpAny_truthy_list pl.isList (by simp only[ek];omega) ⟨H,I.tok _,by rw[ε r];exact q⟩
  .subst b9;obtain⟨its,r,pl,hz⟩:=I.tuple ao;have hlen:=r.length;exact truthy_tuple pl (by simp only[ek];omega) ⟨H,I.tok _,by rw[ε r];exact q⟩
  .subst b9;obtain⟨hz,cP,vs,r,m⟩:kvs.length<=sizeLine/\(p==j4)=false/\∃vs,gv kvs vs/\s.heap.DictOf (hx X.prog X.w) p vs:=I.bo p _ ao;have hlen:kvs.length=vs.length:=h8 r;exact wpAny_truthy_dict cP m (by omega) ⟨H,I.tok _,by rw[Ģ r];exact q⟩
 |_=>exact(show False from e).elim
theorem aav(aH:bN X a cb)(he:∀whole,BZ a X.env whole=(do let v <-whole;tH a.pos;nV [v] (truthy v))):
  kW X a (λσ H Q=>cb σ H λx H'=>∃k,J3 X.K x H' k/\Q k H'):=by intro pins s σ H Q I h;exact isTrue_plain (bS (aH pins s σ H _ I h) λv s1⟨x,H1,aX,b',bq⟩=>TQ pins s1 σ H1 x v Q aX b' bq) (he _)
theorem ģ:fZ X (p6 .Add) (λx y H Q=>∃i j,x=.str i/\y=.str j/\i.length+j.length<=sizeLine/\Q (.str (i++j)) H):=by intro pins s σ H x y v u Q I bC bW h;obtain⟨i,j,rfl,rfl,hz,q⟩:=h;obtain⟨t,rfl⟩:=bC;obtain⟨t',rfl⟩:=bW;exact add_str (λt' aG=>⟨.str (i++j),H,I.tok _,⟨_,rfl⟩,q⟩) hz
theorem vals1{x:V}{us:b_}(r:cp [x] us):∃u,us=[u]/\RelV x u:=by
 cases r with
 |cons b' df=>cases df;exact⟨_,rfl,b'⟩
theorem vals2{x y:V}{us:b_}(r:cp [x,y] us):∃u gN,us=[u,gN]/\RelV x u/\RelV y gN:=by
 cases r with
 |cons b' df=>
  cases df with
  |cons vG vH=>cases vH;exact⟨_,_,rfl,b',vG⟩
theorem ů(aC:X.calm=true):iF X (.builtin "max") (λxs H Q=>∃i j,xs=[.int i,.int j]/\Q (.int (if j>i then j else i)) H):=by
 intro pins s σ H xs us Q I r h;obtain⟨i,j,rfl,q⟩:=h;obtain⟨u,gN,rfl,⟨t,rfl⟩,⟨t',rfl⟩⟩:=vals2 r;refine max_two_ints (I.ok.hd aC) λh' aG k=>⟨_,H,I.kept k,?_,q⟩
 by_cases aQ:j>i
 .rw[aO aQ,aO aQ];exact⟨_,rfl⟩
 .rw[aJ aQ,aJ aQ];exact⟨_,rfl⟩
theorem Ű:iF X (.type "int") (λxs H Q=>(∃i,xs=[.int i]/\Q (.int i) H)\/∃k,xs=[.bf k]/\Q (.int (if k then 1 else 0)) H):=by
 intro pins s σ H xs us Q I r h;rcases h with⟨i,rfl,q⟩|⟨k,rfl,q⟩
 .obtain⟨u,rfl,t,rfl⟩:=vals1 r;exact call_int_int ⟨.int i,H,I,⟨_,rfl⟩,q⟩
 .obtain⟨u,rfl,b'⟩:=vals1 r;cases b';exact call_int_bool ⟨.int (if k then 1 else 0),H,I.tok _,⟨_,rfl⟩,q⟩
structure t2(h:Heap)(x av C:Addr)(mA:cN):Prop where
 obj:h.get? x=some (uy C av)
 ns:h.Ns1 av mA
 ne:av≠x
end
theorem ű{h:Heap}{av:Addr}{mA:cN}(n:h.Ns1 av mA):∃cR,h.get? av=some cR/\∀name,JW name cR=some (mA name):=by
 obtain⟨o,es,ep,aR,hd,aE,_,hm⟩:=n;refine⟨o,aR,λname=>?_⟩;have e:=hm name;unfold nsFind findBy at e;rw[<-Array.find?_toList]at e;unfold JW;rw[hd];dsimp only;split
 .rename_i y q;rw[q]at e;exact e9 some e
 .rename_i q;rw[q]at e;have a:es.toList.any (·.refKey)=false:=by rw[List.any_eq_false];intro y aZ;obtain⟨z,t,M6⟩:=aE y (Array.mem_toList_iff.mp aZ);simp[DictEntry.refKey,M6]
  have bz:¬es.toList.any (·.refKey)=true:=by rw[a];exact fz
  rw[aJ bz];exact e9 some e
theorem t2.look{h:Heap}{x av C:Addr}{mA:cN}(I:t2 h x av C mA):∃cR,PySem.W.InstAt h x (uy C av) C (some cR)/\∀name,JW name cR=some (mA name):=
 let⟨cR,aR,aq⟩:=ű I.ns
 ⟨cR,⟨I.obj,rfl,rfl,aR⟩,aq⟩
section
variable{prog:bP}{w:bt}{A:cU}{E:cx}{s:aF}{K:aY}{x av C f:Addr}{mA:cN}{name:Str}{v:Value}
theorem acU{expr:Bool}{Q:cx}(X:K.In s.heap)(I:t2 s.heap x av C mA)(bx:wY K C name=true)(dy:uw K C=true)(aH:dg K (.ref C) name=some none)(bI:mA name=some v)(amK:adQ v=true)(h:Q v {s with toks:=s.toks+1}):
  aM (ba prog w) A (getAttr (.ref x) name expr) Q E s:=by obtain⟨cR,J,aq⟩:=I.look;exact PySem.W.get_value X J (Vk bx).1 (PySem.W.findObj_own dy aH rfl (by rw[aq,bI])) amK h
theorem aaw{pl:Sem Bool}{Q:Value×List Value->aF->Prop}(X:K.In s.heap)(I:t2 s.heap x av C mA)(bx:wY K C name=true)(hf:dg K (.ref C) name=some (some (.ref f)))(cO:hu K (.ref f)=true)(bI:mA name=none)(h:Q (.ref f,[.ref x]) s):
  aM (ba prog w) A (xr (.ref x) name pl) Q E s:=by obtain⟨cR,J,aq⟩:=I.look;exact PySem.W.method_fn X J (Vk bx).1 (Vk bx).2 hf (oK.mp cO) (by show(JW name cR).map (·.isSome)=some false;rw[aq,bI];rfl) h
theorem acV{ns:bR}{Q:Unit->aF->Prop}(X:K.In s.heap)(I:t2 s.heap x av C mA)(hs:dg K (.ref C) "__setattr__"=some (some (.builtin "object.__setattr__")))(aP:EL K C=true)(cO:Vm K C name=some none)(dy:uw K C=true)(hw:wZ mA ns)(hsz:ns.length<=sizeLine)(h:∀h',t2 h' x av C (λy=>if y=name then some v else mA y)->kx av s.heap h'->Q () {s with heap:=h',toks:=s.toks+2}):
  aM (ba prog w) A (C_ (.ref x) name v) Q E s:=by obtain⟨cR,J,aq⟩:=I.look;refine PySem.W.set_plain X J hs (PySem.W.osa_open (s:={s with toks:=s.toks+1}) (r:=none) X J aP cO λb=>?_);obtain⟨cd,aC,mc⟩:=PySem.W.any_some dy;have ao:s.heap.get? x=some ⟨.ref C,some av,.plain,#[]⟩:=I.obj;refine au (a9 (au (au (wpAny_loadPart ao (au (PySem.W.Looks.here (s:={s with toks:=s.toks+1}) (PySem.W.looks_clsIn X aC) ?_))))));rw[mc];refine a9 (a:=some av) (au (a9 (au ?_)));refine wpAny_nsSet1 (s:={s with toks:=s.toks+1}) I.ns λh' BN km=>?_;obtain⟨anT,akZ,akX,Na,MR,MO⟩:=BN.count (Vo name v hw);refine au (apG Na (by rw[MR];exact an3 (hc MO (by rw[hH];omega))) ?_);exact a9 (h _ ⟨(km.2 _ (d8 I.ne)).trans I.obj,BN,I.ne⟩ km)
theorem aax{R:q7->aF->Prop}{vs:b_}{kw:List (Str×Value)}(X:K.In s.heap)(hm:EI K C=true)(ai:dg K (.ref C) "__init__"=some (some (.ref f)))(hf:adV K (.ref f)=some (.type "function"))(h:k9 (ba prog w) (A.under (.builtin "type.__call__" ⟨.ref C::vs,kw⟩)) (.call (.ref f) ⟨.ref (s.heap.objs.size+1)::vs,kw⟩) (PySem.W.InitBack (s.heap.objs.size+1) R)
   {s with heap:=(s.heap.push su).push (uy C s.heap.objs.size)}):
  k9 (ba prog w) A (.call (.ref C) ⟨vs,kw⟩) R s:=by obtain⟨dy,g,d,t,os⟩:=s;exact PySem.W.make_core (PySem.W.makes_of X hm) (An X ai) (λself=>adM X self hf) (.inl rfl) h
end
noncomputable def jA(f:Str)(v:V):List (Str×V)->List (Str×V)
 |[]=>[(f,v)]
 | (g,x)::r=>if g=f then(g,v)::r else(g,x)::jA f v r
theorem Ow(f g:Str)(v:V):∀fs:List (Str×V),(jA f v fs).lookup g=if g=f then some v else fs.lookup g
 |[]=>by
  show sk g [(f,v)]=_;by_cases h:g=f
  .have U:(g==f)=true:=oK.mpr h;simp only[sk,U,aO h]
  .have U:(g==f)=false:=w6.mpr h;simp only[sk,U,aJ h]
 | (k,x)::r=>by
  have bk:=Ow f g v r;rw[show jA f v ((k,x)::r)=(if k=f then(k,v)::r else(k,x)::jA f v r)from rfl];by_cases aE:k=f
  .rw[aO aE];by_cases h:g=k
   .have U:(g==k)=true:=oK.mpr h;simp only[sk,U,aO (h.trans aE)]
   .have U:(g==k)=false:=w6.mpr h;simp only[sk,U,aJ (λe:g=f=>h (e.trans aE.symm))]
  .rw[aJ aE];by_cases h:g=k
   .have U:(g==k)=true:=oK.mpr h;simp only[sk,U,aJ (λe:g=f=>aE (h.symm.trans e))]
   .have U:(g==k)=false:=w6.mpr h;simp only[sk,U];exact bk
theorem B2(f:Str)(v:V):∀fs:List (Str×V),f∈(jA f v fs).map (·.1)/\∀g,g∈fs.map (·.1)->g∈(jA f v fs).map (·.1)
 |[]=>⟨by simp[jA],λg h=>by simp at h⟩
 | (k,x)::r=>by
  obtain⟨md,nY⟩:=B2 f v r;rw[show jA f v ((k,x)::r)=(if k=f then(k,v)::r else(k,x)::jA f v r)from rfl];by_cases aE:k=f
  .rw[aO aE];subst aE;exact⟨by simp,λg h=>by simpa using h⟩
  .rw[aJ aE];refine⟨?_,λg h=>?_⟩
   .rw[gk];exact oz _ md
   .rw[gk]at h⊢;rcases fp.mp h with e|e
    .exact fp.mpr (.inl e)
    .exact oz _ (nY g e)
theorem Ox(f:Str)(v:V):∀fs:List (Str×V),(jA f v fs).length<=fs.length+1
 |[]=>by simp[jA]
 | (k,x)::r=>by
  have bk:=Ox f v r;rw[show jA f v ((k,x)::r)=(if k=f then(k,v)::r else(k,x)::jA f v r)from rfl];by_cases aE:k=f
  .rw[aO aE,hH,hH];omega
  .rw[aJ aE,hH,hH];omega
theorem i'.some_of{v:V}{o:Aw}(r:i' (some v) o):∃u,o=some u/\RelV v u:=by
 cases o with
 |none=>exact(show False from r).elim
 |some u=>exact⟨u,rfl,r⟩
theorem i'.none_of{o:Aw}(r:i' none o):o=none:=by
 cases o with
 |none=>rfl
 |some u=>exact(show False from r).elim
theorem Ų{v:V}{u:Value}(r:RelV v u):adQ u=true:=by
 cases v with
 |bV=>cases(show u=dY from r);rfl
 |bf b=>cases(show u=Km b from r);rfl
 |int i=>obtain⟨t,e⟩:=(show∃t,u=mE i t from r);cases e;rfl
 |str x=>obtain⟨t,e⟩:=(show∃t,u=Ax x t from r);cases e;rfl
 |l4 b=>obtain⟨t,e⟩:=(show∃t,u=Value.bytes b t from r);cases e;rfl
 |uT b=>obtain⟨t,e⟩:=(show∃t,u=V0 b t from r);cases e;rfl
 |ref a=>cases(show u=dA a from r);rfl
 |ty n=>cases(show u=mF n from r);rfl
section
variable{P:bP}{w:bt}{H H':aa}{h h':Heap}{a C av:Addr}{fs ak9:List (Str×V)}
theorem HL(bo:fC P w H h)(e:H a=some (.ins C av fs)):∃mA,t2 h a av C mA/\(∀f,i' (fs.lookup f) (mA f))/\wZ mA (fs.map (·.1))/\fs.length<=1000/\H av=some (.own a):=by
 obtain⟨d,z,ne,ob,mA,n,r,q⟩:=(show er P w H h a (.ins C av fs)from bo a _ e)
 exact⟨mA,⟨ob,n,ne⟩,r,q,z,d⟩
end
structure ho(K:aY)(C:Addr):Prop where
 Hc:wY K C kZ=true
 hd:uw K C=true
 po:EL K C=true
 aU:dg K (.ref C) "__setattr__"=some (some (.builtin "object.__setattr__"))
theorem ho.get{K:aY}{C:Addr}(c:ho K C)(f:Str):wY K C f=true:=c.Hc
noncomputable def ti(K:aY)(C:Addr)(f:Str):Prop:=dg K (.ref C) f=some none
theorem ti.aoZ{K:aY}{C:Addr}{f:Str}(n:ti K C f):Vm K C f=some none:=by unfold Vm;rw[show dg K (.ref C) f=some none from n];rfl
structure Meth(K:aY)(C:Addr)(m:Str)(f:Addr):Prop where
 at_:dg K (.ref C) m=some (some (.ref f))
 fn:hu K (.ref f)=true
 cT:pX K (.ref f)=true
section
variable{X:bB}{pins:cG}{σ:St}{H:aa}{s:aF}{a C av:Addr}{fs:List (Str×V)}{f:Str}{v:V}{A:cU}{E:cx}
theorem Ĥ{b:Bool}{Q:cx}(I:Inv X pins σ H s)(e:H a=some (.ins C av fs))(c:ho X.K C)(n:ti X.K C f)(l:fs.lookup f=some v)(h:∀u s',Inv X pins σ H s'->RelV v u->Q u s'):aM (ba X.prog X.w) A (getAttr (.ref a) f b) Q E s:=by obtain⟨mA,O,r,_,_,_⟩:=HL I.bo e;obtain⟨u,cJ,eA⟩:=i'.some_of (v:=v) (o:=mA f) (by rw[<-l];exact r f);exact acU I.fb O (c.get f) c.hd n cJ (Ų eA) (h u _ (I.tok _) eA)
theorem Gy{m:Str}{g:Addr}{pl:Sem Bool}{Q:Value×List Value->aF->Prop}(I:Inv X pins σ H s)(e:H a=some (.ins C av fs))(c:ho X.K C)(k:Meth X.K C m g)(l:fs.lookup m=none)(h:Q (.ref g,[.ref a]) s):aM (ba X.prog X.w) A (xr (.ref a) m pl) Q E s:=by obtain⟨mA,O,r,_,_,_⟩:=HL I.bo e;have aD:mA m=none:=i'.none_of (by rw[<-l];exact r m);exact aaw I.fb O (c.get m) k.at_ k.fn aD h
theorem ĥ{y:V}{u:Value}{Q:Unit->aF->Prop}(I:Inv X pins σ H s)(e:H a=some (.ins C av fs))(c:ho X.K C)(n:ti X.K C f)(aq:fs.length<1000)(bW:RelV y u)(h:∀s',Inv X pins σ (upd H a (.ins C av (jA f y fs))) s'->Q () s'):aM (ba X.prog X.w) A (C_ (.ref a) f u) Q E s:=by
 obtain⟨mA,O,r,wi,_,aR⟩:=HL I.bo e;have hz:(fs.map (·.1)).length<=sizeLine:=by rw[bh,pv];omega
 refine acV I.fb O c.aU c.po n.aoZ c.hd wi hz λh' uu b5=>h _ ?_;have hd:∃o,h'.get? av=some o:=let⟨o,_,_,b9,_⟩:=uu.ns;⟨o,b9⟩
 refine I.write (x:=a) (e:=av) (by rw[e];exact mD) (.inr aR) (λb q U z=>(b5.2 b U).trans z) hd ?_;refine⟨by rw[aL O.ne];exact aR,?_,O.ne,uu.obj,_,uu.ns,λg=>?_,λg bx=>?_⟩
 .have:=Ox f y fs;omega
 .show i' ((jA f y fs).lookup g) (if g=f then some u else mA g);rw[Ow];by_cases q:g=f
  .rw[aO q,aO q];exact bW
  .rw[aJ q,aJ q];exact r g
 .by_cases q:g=f
  .rw[q];exact(B2 f y fs).1
  .refine(B2 f y fs).2 g (wi g λz=>bx ?_);show(if g=f then some u else mA g)=none;rw[aJ q];exact z
theorem Inv.made(I:Inv X pins σ H s):Inv X pins σ (upd (upd H s.heap.objs.size (.own (s.heap.objs.size+1))) (s.heap.objs.size+1) (.ins C s.heap.objs.size []))
  {s with heap:=(s.heap.push su).push (uy C s.heap.objs.size)}:=by
 have ax:(s.heap.push su).get? s.heap.objs.size=some su:=ff s.heap rfl;have az:((s.heap.push su).push (uy C s.heap.objs.size)).get? (s.heap.objs.size+1)=some (uy C s.heap.objs.size):=by
  have:=ff (s.heap.push su) (o:=uy C s.heap.objs.size) rfl
  rwa [t6]at this
 have cq:(s.heap.push su).Ns s.heap.objs.size (λ_=>none):=⟨su,#[],_,ax,rfl,(λe he=>bE he (by simp)),λ_=>rfl⟩
 have aX:=I.laid (a:=s.heap.objs.size) (o:=.own (s.heap.objs.size+1)) (h':=s.heap.push su) (t':=s.toks) (λb u q=>c6 _ q) (b1 _) ⟨_,ax⟩;refine aX.laid (a:=s.heap.objs.size+1) (o:=.ins C s.heap.objs.size []) (t':=s.toks) (λb u q=>c6 _ q) (JI (t6 _ _)) ?_;have ne:s.heap.objs.size≠s.heap.objs.size+1:=dP (sq _);refine⟨by rw[aL ne,a8],dM _,ne,az,λ_=>none,(Š cq).at λo q=>c6 _ q,λ_=>mD,λy aZ=>bE rfl aZ⟩
theorem acW{prog:bP}{w:bt}{env:Env}{e:Expr}{f:Str}{pos:Pos}{s:aF}{Q:cx}(U:AA e f env (eval e env)=eval e env)(h:aM (ba prog w) A (eval e env) (λo dH=>aM (ba prog w) A (getAttr o f true) Q E dH) E s):aM (ba prog w) A (eval (.Attribute e f pos) env) Q E s:=
 Attribute_any_ h (by rw[arm_eval_Attribute,U])
end
inductive ahg(K:aY)(f:Str)(x:V)(H1:aa)(Q:bl):Prop where
 |mk (a:_) (C:_) (av:_) (fs:_) (v:_) (b0:x=.ref a) (bH:H1 a=some (.ins C av fs)) (cu:ho K C) (cS:ti K C f) (dw:fs.lookup f=some v) (en:Q v H1)
noncomputable def ahh(K:aY)(cb:TE)(f:Str):TE:=λσ H Q=>cb σ H λx H1=>ahg K f x H1 Q
noncomputable def ahi(K:aY)(cb jE:TE)(f:Str):e0:=λD σ H=>jE σ H λy H1=>cb σ H1 λx aj=>∃a C av fs,x=.ref a/\aj a=some (.ins C av fs)/\ho K C/\ti K C f/\fs.length<1000/\
 D.cy σ (upd aj a (.ins C av (jA f y fs)))
section
variable{X:bB}{o e value:Expr}{f:Str}{pos pos' Dv:Pos}{cb jE:TE}
theorem hA(he:bN X e cb)(U:AA e f X.env (eval e X.env)=eval e X.env):bN X (.Attribute e f pos) (ahh X.K cb f):=by intro pins s σ H Q I h;refine acW U (bS (he pins s σ H _ I h) λu s1⟨x,H1,aX,bC,a,C,av,fs,v,ex,bw,c,n,l,q⟩=>?_);subst ex;obtain rfl:u=dA a:=bC;exact Ĥ aX bw c n l λu' s2 bT eA=>⟨v,H1,bT,eA,q⟩
theorem vA(aH:bN X o cb)(bI:bN X value jE)(hs:yS value (some (.Attribute o f pos')) pos.line X.env=pure false):g0 X (.Assign [.Attribute o f pos'] value pos) (ahi X.K cb jE f):=by intro pins s σ H D I h;refine an7 (bS (bI pins s σ H _ I h) λu s1⟨y,H1,aX,bW,q⟩=>bS (aH pins s1 σ H1 _ aX q) λeH s2⟨x,aj,bT,bC,a,C,av,fs,ex,bw,c,n,l,cj⟩=>?_) hs;subst ex;obtain rfl:eH=dA a:=bC;exact ĥ bT bw c n l bW λs3 c_=>⟨σ,_,c_,cj⟩
theorem aq9{pl:Sem Bool}{m:Str}{fE:Pos}{args:gm}{pins:cG}{s:aF}{σ:St}{H:aa}{Q:cx}{b3:TE}(he:bN X e b3)(I:Inv X pins σ H s)(h:b3 σ H λx H1=>∃a C av fs g,x=.ref a/\H1 a=some (.ins C av fs)/\ho X.K C/\Meth X.K C m g/\fs.lookup m=none/\
   ∀s1,Inv X pins σ H1 s1->aM (ba X.prog X.w) X.A (AJ pos (.ref g) [.ref a] (hL pos (eb args X.env)) (sE pos (tg [] X.env))) Q X.dD s1)(cO:eval (.Call (.Attribute e m fE) args [] pos) X.env=(do
   let eH <-eval e X.env
   tH fE.atName
   let(f,first) <-nV [eH] (xr eH m pl)
   AJ pos f first (hL pos (eb args X.env)) (sE pos (tg [] X.env)))):
  aM (ba X.prog X.w) X.A (eval (.Call (.Attribute e m fE) args [] pos) X.env) Q X.dD s:=by refine EJ (pl:=pl) (bS (he pins s σ H _ I h) λu s1⟨x,H1,aX,bC,a,C,av,fs,g,ex,bw,c,k,l,q⟩=>?_) cO;subst ex;obtain rfl:u=dA a:=bC;exact Gy aX bw c k l (q s1 aX)
end
section
variable{X:bB}{pins:cG}{σ:St}{H:aa}{s:aF}{A:cU}{E:cx}{Q:cx}{c:Value}{b:Bool}
inductive m5(K:aY)(H:aa):V->Value->Prop where
 |bV:m5 K H .bV (.type "NoneType")
 |bf (x:Bool):m5 K H (.bf x) (.type "bool")
 |int (i:Int):m5 K H (.int i) (.type "int")
 |str (x:Str):m5 K H (.str x) (.type "str")
 |uT (x:UInt64):m5 K H (.uT x) (.type "float")
 |lst {a:Addr} {xs:a'} (e:H a=some (.lst xs)):m5 K H (.ref a) (.type "list")
 |ee {a:Addr} {o:Obj} {xs:a'} (e:H a=some (.ee o (.lst xs))):m5 K H (.ref a) (.type "list")
 |tup {a:Addr} {xs:a'} (e:H a=some (.tup xs)):m5 K H (.ref a) (.type "tuple")
 |cD {a:Addr} {kvs:List (br×V)} (e:H a=some (.cD kvs)):m5 K H (.ref a) (.type "dict")
 |c4 {a:Addr} {kvs:List (List br×V)} (e:H a=some (.c4 kvs)):m5 K H (.ref a) (.type "dict")
 |ins {a C av:Addr} {fs:List (Str×V)} (e:H a=some (.ins C av fs)) (cl:ho K C) (aH:dg K (.ref C) "__class__"=some (some (.builtin "object.__class__")))
   (aD:Ao K (.builtin "object.__class__") "__get__"=some (some (.builtin "getset_descriptor.__get__"))) (Nr:Vn K (.builtin "object.__class__")=some true)
   (hm:EK K C (.type "object")=some true):m5 K H (.ref a) (.ref C)
theorem ų{x:V}{u t:Value}(I:Inv X pins σ H s)(bC:RelV x u)(ty:m5 X.K H x t)(e:Am X.K t c=some b)(h:∀aG,Q (.bool b) {s with toks:=aG}):
  aM (ba X.prog X.w) A (call (.builtin "isinstance") [u,c]) Q E s:=by
 cases ty with
 |bV=>cases(show u=dY from bC);exact pY PySem.W.kitx_none I.fb mD e (λz=>nomatch z) h
 |bf y=>cases(show u=Km y from bC);exact pY PySem.W.kitx_bool I.fb mD e (λz=>nomatch z) h
 |int i=>obtain⟨t,q⟩:=(show∃t,u=mE i t from bC);cases q;exact pY PySem.W.kitx_int I.fb mD e (λz=>nomatch z) h
 |str y=>obtain⟨t,q⟩:=(show∃t,u=Ax y t from bC);cases q;exact pY PySem.W.kitx_str I.fb mD e (λz=>nomatch z) h
 |uT y=>obtain⟨t,q⟩:=(show∃t,u=V0 y t from bC);cases q;exact pY PySem.W.kitx_float I.fb mD e (λz=>nomatch z) h
 |@lst a xs bw=>
  cases(show u=dA a from bC);obtain⟨_,_,n,_,ag⟩:=(show er X.prog X.w H s.heap a (.lst xs)from I.bo a _ bw)
  exact pY adT I.fb ⟨_,ag,rfl⟩ e (λz=>nomatch z) h
 |@ee a ob xs bw=>
  cases(show u=dA a from bC);obtain⟨_,_,_,n,_,ag⟩:=(show er X.prog X.w H s.heap a (.ee ob (.lst xs))from I.bo a _ bw)
  exact pY adT I.fb ⟨_,ag,rfl⟩ e (λz=>nomatch z) h
 |@tup a xs bw=>
  cases(show u=dA a from bC);obtain⟨_,_,_,p⟩:=(show er X.prog X.w H s.heap a (.tup xs)from I.bo a _ bw)
  obtain⟨o,ag,af,_⟩:=p;exact pY PySem.W.kitx_tuple I.fb ⟨o,ag,af⟩ e (λz=>nomatch z) h
 |@cD a kvs bw=>
  cases(show u=dA a from bC);obtain⟨_,_,vs,_,p⟩:=(show er X.prog X.w H s.heap a (.cD kvs)from I.bo a _ bw)
  obtain⟨o,es,ep,ag,af,_⟩:=p;exact pY adS I.fb ⟨o,ag,af.1⟩ e (λz=>nomatch z) h
 |@c4 a kvs bw=>
  cases(show u=dA a from bC);obtain⟨_,_,xs,_,o,es,ep,ag,af,_⟩:=(show er X.prog X.w H s.heap a (.c4 kvs)from I.bo a _ bw)
  exact pY adS I.fb ⟨o,ag,af.1⟩ e (λz=>nomatch z) h
 |@ins a C av fs bw cl aH aD Nr hm=>
  cases(show u=dA a from bC);obtain⟨mA,O,_⟩:=HL I.bo bw;obtain⟨cR,J,_⟩:=O.look;exact pY (PySem.W.kitx_own (cl.get _) cl.hd aH aD Nr hm) I.fb J e (λz=>nomatch z) h
end
structure gf(k:Nat)(A:cU):Prop where
 hd:A.handled=none
 E':A.depth+3*k+5<recursionLimit
 un:A.units+16*k+200<cLine
theorem gf.mono{j k:Nat}{A:cU}(r:gf k A)(h:j<=k):gf j A:=⟨r.hd,by have:=r.E';omega,by have:=r.un;omega⟩
theorem gf.deeper{k:Nat}{A:cU}(r:gf (k+1) A)(env:Env):gf k (A.deeper env):=
 ⟨r.hd,by have:=r.E';show A.depth+1+3*k+5<_;omega,by have:=r.un;show A.units+3+16*k+200<_;omega⟩
theorem ė{A:cU}{C:Addr}{us:b_}{kw:List (Str×Value)}:(A.under (.builtin "type.__call__" ⟨.ref C::us,kw⟩)).depth=A.depth+1:=by
 first|rfl|simp[R',Code.weight,Code.isCreation,Code.isGuard,Code.isCaller,Code.frames,SM,guardIds]
theorem Ę{A:cU}{C:Addr}{us:b_}{kw:List (Str×Value)}:(A.under (.builtin "type.__call__" ⟨.ref C::us,kw⟩)).units=A.units+1:=by
 first|rfl|simp[R',Code.cUnits,Code.frames,SM]
theorem gf.make{k:Nat}{A:cU}(r:gf (k+1) A)(C:Addr)(us:b_)(kw:List (Str×Value)):gf k (A.under (.builtin "type.__call__" ⟨.ref C::us,kw⟩)):=
 ⟨r.hd,by have:=r.E';rw[ė];omega,by have:=r.un;rw[Ę];omega⟩
theorem gf.depth{k:Nat}{A:cU}(r:gf k A):A.depth<recursionLimit:=by have:=r.E';omega
theorem gf.units{k:Nat}{A:cU}(r:gf k A):A.units+64<cLine:=by have:=r.un;omega
noncomputable def EC:gF:=λ_ H Q=>Q [] H
noncomputable def vQ(cb:TE)(hF:gF):gF:=λσ H Q=>cb σ H λx H1=>hF σ H1 λxs aj=>Q (x::xs) aj
section
variable{X:bB}{e:Expr}{es:gm}{b3:TE}{t:gF}{pos:Pos}
theorem a5:ht X [] EC:=λ_ _ _ _ H Q I h=>SG ⟨[],H,I,.nil,h⟩
theorem aA(aH:bN X e b3)(ay:ht X es t)(hs:eb (e::es) X.env=(false,eval e X.env)::eb es X.env:=by rfl):ht X (e::es) (vQ b3 t):=by intro pos pins s σ H Q I h;rw[hs];show aM _ _ (spliced ((false,eval e X.env)::hL pos (eb es X.env))) _ _ s;refine IC (bS (aH pins s σ H _ I h) λu s1⟨x,H1,aX,b',bq⟩=>?_);exact bS (ay pos pins s1 σ H1 _ aX bq) λus s2⟨xs,aj,bT,df,cj⟩=>⟨x::xs,aj,bT,.cons b' df,cj⟩
noncomputable def ahj(t:gF):TE:=λσ H Q=>t σ H λxs H1=>xs.length<=sizeLine/\∀p,H1 p=none->Q (.ref p) (upd H1 p (.tup xs))
noncomputable def V6(t:gF):TE:=λσ H Q=>t σ H λxs H1=>xs.length<=sizeLine/\∀p,H1 p=none->Q (.ref p) (upd H1 p (.lst xs))
theorem jS{fX}(h:ht X es t):bN X (.Tuple es fX pos) (ahj t):=by intro pins s σ H Q I bp;refine wpAny_Tuple_spliced (bS (h pos pins s σ H _ I bp) λus s1⟨xs,H1,aX,r,z,q⟩=>⟨by rw[<-r.length];exact z,?_⟩);have hf:H1 s1.heap.objs.size=none:=aX.bo.fresh (b1 _);refine⟨.ref s1.heap.objs.size,upd H1 s1.heap.objs.size (.tup xs),aX.laid (t':=s1.toks) (λb u e=>c6 _ e) (b1 _) ?_,rfl,q _ hf⟩;exact⟨z,us,r,⟨_,ff _ rfl,rfl,_,rfl⟩⟩
theorem l_(h:ht X es t):bN X (.List es pos) (V6 t):=by intro pins s σ H Q I bp;refine wpAny_List_spliced (bS (h pos pins s σ H _ I bp) λus s1⟨xs,H1,aX,r,z,q⟩=>⟨by rw[<-r.length];exact z,?_⟩);have hf:H1 s1.heap.objs.size=none:=aX.bo.fresh (b1 _);refine⟨.ref s1.heap.objs.size,upd H1 s1.heap.objs.size (.lst xs),aX.laid (t':=s1.toks) (λb u e=>c6 _ e) (b1 _) ?_,rfl,q _ hf⟩;exact⟨z,us,0,r,ff _ rfl⟩
noncomputable abbrev c9:=List V->aa->bl->cE->Prop
noncomputable abbrev lT:=List Env->aa->aF->cE->Value->aF->Prop
structure tX(P:bP)(w:bt)(K:aY)(ae:cN)(base:Heap)(A:cU)(outer:List Env)(s:aF)(H:aa):Prop where
 frames:A.frames=some outer
 mod:Mod K ae base
 bs:∀b o,base.get? b=some o->s.heap.get? b=some o/\H b=none
 p8:base.objs.size<=s.heap.objs.size
 jT:s.heap.FunFrames base outer
 rg:∀b∈f9 outer,H b=none
 bo:fC P w H s.heap
 bare:qW s.gens
noncomputable def Iv(outer:List Env)(P:bP)(w:bt)(H:aa)(s:aF)(Q:bl)(u:Value)(s':aF):Prop:=
 ∃v H',s'.os=s.os/\qW s'.gens/\hJ (f9 outer) [] H H' s.heap s'.heap/\fC P w H' s'.heap/\RelV v u/\Q v H'
end
noncomputable def Ě(CX:lT)(outer:List Env)(P:bP)(w:bt)(H:aa)(s:aF)(Q:bl)(E:cE)(r:q7)(s':aF):Prop:=
 match r with
 |.ok (.ret u)=>Iv outer P w H s Q u s'
 |.ok _=>False
 |.error e=>CX outer H s E e s'
structure a4(P:bP)(w:bt)(K:aY)(ae:cN)(base:Heap)(CX:lT)(k:Nat)(f:Addr)(fd:c1)(ps:bR)(sp:c9):Prop where
 len:∀vs H Q E,sp vs H Q E->vs.length=ps.length
 run:∀(A:cU)(outer:List Env)(s:aF)(H:aa)(args:Args)(us:b_)(vs:a')(Q:bl)(E:cE),gf k A->tX P w K ae base A outer s H->ze s fd args (ps.zip us)->cp vs us->sp vs H Q E->
  k9 (ba P w) A (.call (.ref f) args) (Ě CX outer P w H s Q E) s
theorem a4.imp{P:bP}{w:bt}{K:aY}{ae:cN}{base:Heap}{CX:lT}{k:Nat}{f:Addr}{fd:c1}{ps:bR}{sp Z7:c9}(F:a4 P w K ae base CX k f fd ps sp)(h:∀vs H Q E,Z7 vs H Q E->sp vs H Q E):a4 P w K ae base CX k f fd ps Z7:=
 ⟨λvs H Q E q=>F.len vs H Q E (h _ _ _ _ q),λA outer s H args us vs Q E ay he U bI hs=>F.run A outer s H args us vs Q E ay he U bI (h _ _ _ _ hs)⟩
theorem tX.make{P:bP}{w:bt}{K:aY}{ae:cN}{base:Heap}{A:cU}{outer:List Env}{s:aF}{H:aa}(e:tX P w K ae base A outer s H)(C:Addr)(us:b_)(kw:List (Str×Value)):
  tX P w K ae base (A.under (.builtin "type.__call__" ⟨.ref C::us,kw⟩)) outer s H:=⟨by first|exact e.frames|(simpa[R',Code.envs,SM,pushEnvs]using e.frames),e.mod,e.bs,e.p8,e.jT,e.rg,e.bo,e.bare⟩
section
variable{X:bB}{pins:cG}{σ:St}{H:aa}{s s':aF}
theorem Inv.Fd(I:Inv X pins σ H s):tX X.prog X.w X.K X.ae X.base X.A X.stack s H:=
 ⟨I.ok.frames,I.ok.mod,I.bs,hc I.ok.p8 I.jD,I.stack,I.HK,I.bo,I.bare⟩
theorem Inv.after{Q:bl}{u:Value}(I:Inv X pins σ H s)(h:Iv X.stack X.prog X.w H s Q u s'):hG X pins σ Q u s':=by obtain⟨v,H',os,bare,un,bo,r,q⟩:=h;obtain⟨dy,g,d,t,an0⟩:=s';obtain rfl:an0=s.os:=os;exact⟨v,H',I.call (h':=dy) (g':=g) (d':=d) (t':=t) (ch:=[]) un bo bare (λb z=>bE z (by simp)),r,q⟩
end
noncomputable def agu(sp:c9)(iE:a')(E:cE)(t:gF):TE:=λσ H Q=>t σ H λvs H1=>sp (vs++iE) H1 Q E
inductive agv(C:Addr)(m:Str)(x:V)(H1:aa)(R:Prop):Prop where
 |mk (a:_) (av:_) (fs:_) (b0:x=.ref a) (bH:H1 a=some (.ins C av fs)) (cu:fs.lookup m=none) (cS:R)
noncomputable def Ji(C:Addr)(m:Str)(sp:c9)(iE:a')(E:cE)(cb:TE)(t:gF):TE:=λσ H Q=>cb σ H λx H1=>agv C m x H1 (t σ H1 λvs aj=>sp (x::(vs++iE)) aj Q E)
noncomputable def agw(C:Addr)(sp:c9)(iE:a')(E:cE)(t:gF):TE:=λσ H Q=>t σ H λvs H1=>∀x av,H1 x=none->H1 av=none->av≠x->
 sp (.ref x::(vs++iE)) (upd (upd H1 av (.own x)) x (.ins C av [])) (λv aj=>v=.bV/\Q (.ref x) aj) E
noncomputable def Binds(K:aY)(fd:c1)(ps:bR)(ds:b_):Prop:=
 ∀(s:aF)(us:b_),K.In s.heap->(us++ds).length=ps.length->ze s fd ⟨us,[]⟩ (ps.zip (us++ds))
theorem Binds.all{K:aY}{fd:c1}{ps:bR}(h:∀us:List Value,us.length=ps.length->bindArgs fd ⟨us,[]⟩=pure (ps.zip us)):Binds K fd ps []:=λs us _ aq=>by rw[iW]at aq⊢;exact .of_eq (h us aq)
noncomputable def qs(CX:lT)(X:bB)(E:cE):Prop:=∀(pins:cG)(σ:St)(H:aa)(s:aF)(e:Value)(s':aF),Inv X pins σ H s->CX X.stack H s E e s'->X.dD e s'
section
variable{X:bB}{CX:lT}{k:Nat}{f C:Addr}{fd:c1}{ps:bR}{sp:c9}{iE:a'}{ds:b_}{E:cE}{x m:Str}{p pos fE:Pos}{e o:Expr}{es:gm}{cb:TE}{t:gF}
theorem Iw{pins:cG}{σ:St}{H:aa}{s:aF}{Q:bl}{us:b_}{vs:a'}(F:a4 X.prog X.w X.K X.ae X.base CX k f fd ps sp)(ay:gf k X.A)(U:Binds X.K fd ps ds)(hd:cp iE ds)(ao:qs CX X E)(I:Inv X pins σ H s)(r:cp vs us)(h:sp (vs++iE) H Q E):aM (ba X.prog X.w) X.A (call (.ref f) us) (hG X pins σ Q) X.dD s:=by
 have df:cp (vs++iE) (us++ds):=r.append hd;have aq:(us++ds).length=ps.length:=by rw[<-df.length];exact F.len _ _ _ _ h
 refine rV (qa (F.run X.A X.stack s H ⟨us,[]⟩ (us++ds) (vs++iE) Q E ay I.Fd (U s us I.fb aq) df h) λr s' bp=>?_);cases r with
 |error e=>exact ao pins σ H s e s' I bp
 |ok fI=>
  cases fI with
  |ret u=>exact I.after bp
  |next=>exact h7 bp
  |brk=>exact h7 bp
  |cont=>exact h7 bp
theorem f5(F:a4 X.prog X.w X.K X.ae X.base CX k f fd ps sp)(ay:gf k X.A)(bx:kv X x)(hm:X.ae x=some (.ref f))(aE:pX X.K (.ref f)=true)(U:Binds X.K fd ps ds)(hd:cp iE ds)(ao:qs CX X E)(aH:ht X (e::es) t)(kj:(x==("__debug__":Str))=false:=by decide)(he:eb (e::es) X.env=(false,eval e X.env)::eb es X.env:=by rfl)(fW:(hL pos (eb es X.env)).any (·.1)=false:=by rfl):
  bN X (.Call (.Name x p) (e::es) [] pos) (agu sp iE E t):=by intro pins s σ H Q I h;refine H3 (lw I bx hm ?_ kj);refine EH (h₀:=X.base) I.ok.mod.th aE (bS (aH pos pins s σ H _ I h) λus s1⟨vs,H1,aX,r,q⟩=>⟨aX.fb,?_⟩) he fW;exact Iw F ay U hd ao aX r q
theorem ib{pl:Sem Bool}(he:bN X o cb)(c:ho X.K C)(hm:Meth X.K C m f)(F:a4 X.prog X.w X.K X.ae X.base CX k f fd ps sp)(ay:gf k X.A)(U:Binds X.K fd ps ds)(hd:cp iE ds)(ao:qs CX X E)(aH:ht X (e::es) t)(mT:eb (e::es) X.env=(false,eval e X.env)::eb es X.env:=by rfl)(fW:(hL pos (eb es X.env)).any (·.1)=false:=by rfl)(cO:eval (.Call (.Attribute o m fE) (e::es) [] pos) X.env=(do
   let eH <-eval o X.env
   tH fE.atName
   let(f,first) <-nV [eH] (xr eH m pl)
   AJ pos f first (hL pos (eb (e::es) X.env)) (sE pos (tg [] X.env))):=by rfl):
  bN X (.Call (.Attribute o m fE) (e::es) [] pos) (Ji C m sp iE E cb t):=by intro pins s σ H Q I h;refine EJ (pl:=pl) (bS (he pins s σ H _ I h) λu s1⟨x,H1,aX,bC,a,av,fs,ex,bw,l,q⟩=>?_) cO;subst ex;obtain rfl:u=dA a:=bC;refine Gy aX bw c hm l ?_;refine EH (first:=[.ref a]) (h₀:=X.base) I.ok.mod.th hm.cT (bS (aH pos pins s1 σ H1 _ aX q) λus s2⟨vs,aj,bT,r,cj⟩=>⟨bT.fb,?_⟩) mT fW;exact Iw (us:=.ref a::us) (vs:=.ref a::vs) F ay U hd ao bT (.cons rfl r) cj
theorem xR{pl:Sem Bool}(he:bN X o cb)(c:ho X.K C)(hm:Meth X.K C m f)(F:a4 X.prog X.w X.K X.ae X.base CX k f fd ps sp)(ay:gf k X.A)(U:Binds X.K fd ps ds)(hd:cp iE ds)(ao:qs CX X E)(cO:eval (.Call (.Attribute o m fE) [] [] pos) X.env=(do
   let eH <-eval o X.env
   tH fE.atName
   let(f,first) <-nV [eH] (xr eH m pl)
   AJ pos f first (hL pos (eb [] X.env)) (sE pos (tg [] X.env))):=by rfl):
  bN X (.Call (.Attribute o m fE) [] [] pos) (Ji C m sp iE E cb EC):=by intro pins s σ H Q I h;refine EJ (pl:=pl) (bS (he pins s σ H _ I h) λu s1⟨x,H1,aX,bC,a,av,fs,ex,bw,l,q⟩=>?_) cO;subst ex;obtain rfl:u=dA a:=bC;refine Gy aX bw c hm l ?_;exact PySem.W.callWith_K0 (first:=[.ref a]) aX.fb hm.cT (Iw (us:=[.ref a]) (vs:=[.ref a]) F ay U hd ao aX (.cons rfl .nil) q)
structure pS(K:aY)(C f:Addr):Prop where
 makes:EI K C=true
 init:dg K (.ref C) "__init__"=some (some (.ref f))
 fn:hu K (.ref f)=true
 cT:pX K (.ref C)=true
theorem aay{pins:cG}{σ:St}{H:aa}{s:aF}{Q:bl}{us:b_}{vs:a'}(M:pS X.K C f)(F:a4 X.prog X.w X.K X.ae X.base CX k f fd ps sp)(ay:gf (k+1) X.A)(U:Binds X.K fd ps ds)(hd:cp iE ds)(ao:qs CX X E)(I:Inv X pins σ H s)(r:cp vs us)(h:∀x av,H x=none->H av=none->av≠x->sp (.ref x::(vs++iE)) (upd (upd H av (.own x)) x (.ins C av [])) (λv aj=>v=.bV/\Q (.ref x) aj) E):
  aM (ba X.prog X.w) X.A (call (.ref C) us) (hG X pins σ Q) X.dD s:=by
 have bp:=h (s.heap.objs.size+1) s.heap.objs.size (I.bo.fresh (wO _)) (I.bo.fresh (b1 _)) (dP (sq _));have bT:=Inv.made (C:=C) I;have df:cp (V.ref (s.heap.objs.size+1)::(vs++iE)) (dA (s.heap.objs.size+1)::(us++ds)):=.cons rfl (r.append hd);have aq:(dA (s.heap.objs.size+1)::us++ds).length=ps.length:=by have e:=df.length;rw[F.len _ _ _ _ bp]at e;exact e.symm
 refine rV (aax (f:=f) I.fb M.makes M.init (oK.mp M.fn) (qa (F.run _ X.stack _ _ ⟨dA (s.heap.objs.size+1)::us,[]⟩ (dA (s.heap.objs.size+1)::(us++ds)) _ _ E (ay.make C us [])
  (bT.Fd.make C us []) (U _ (dA (s.heap.objs.size+1)::us) bT.fb aq) df bp) λr s' o2=>?_))
 cases r with
 |error e=>exact ao pins σ _ _ e s' bT o2
 |ok fI=>
  cases fI with
  |ret u=>
   obtain⟨v,H',c_,cg,ev,fk⟩:=bT.after o2;subst ev;exact⟨cg,⟨V.ref (s.heap.objs.size+1),H',c_,rfl,fk⟩⟩
  |next=>exact h7 o2
  |brk=>exact h7 o2
  |cont=>exact h7 o2
theorem HM(M:pS X.K C f)(F:a4 X.prog X.w X.K X.ae X.base CX k f fd ps sp)(ay:gf (k+1) X.A)(bx:kv X x)(hm:X.ae x=some (.ref C))(U:Binds X.K fd ps ds)(hd:cp iE ds)(ao:qs CX X E)(aH:ht X (e::es) t)(kj:(x==("__debug__":Str))=false:=by decide)(he:eb (e::es) X.env=(false,eval e X.env)::eb es X.env:=by rfl)(fW:(hL pos (eb es X.env)).any (·.1)=false:=by rfl):
  bN X (.Call (.Name x p) (e::es) [] pos) (agw C sp iE E t):=by intro pins s σ H Q I h;refine H3 (lw I bx hm ?_ kj);refine EH (h₀:=X.base) I.ok.mod.th M.cT (bS (aH pos pins s σ H _ I h) λus s1⟨vs,H1,aX,r,q⟩=>⟨aX.fb,?_⟩) he fW;exact aay M F ay U hd ao aX r q
end
structure d0(N P:bR)(sc:Scope):Prop where
 kind:sc.kind=.function
 co:sc.isCoroutine=false
 gen:sc.isGenerator=false
 aK:N.Nodup
 pre:N.take P.length=P
 par:∀x∈P,sc.names.lookup x=some .local\/sc.names.lookup x=some .cell
 anE:∀y∈sc.names,y.2≠.free
theorem Μ{kindOf:Str->Option uk}{x:Str}:∀{binds:List (Str×Value)}{m:cN},(∀v,(x,v)∉binds)->uF kindOf binds m x=m x
 |[],_,_=>rfl
 | (n,v)::r,m,h=>by
  unfold uF;rw[Μ λw hw=>h w (oz _ hw)];split
  .have:x≠n:=by rintro rfl;exact h v uh
   simp[this]
  .rfl
theorem Ν{kindOf:Str->Option uk}{x:Str}:∀{binds:List (Str×Value)}{m:cN},(∀v,(x,v)∉binds)->uE kindOf binds m x=m x
 |[],_,_=>rfl
 | (n,v)::r,m,h=>by
  unfold uE;rw[Ν λw hw=>h w (oz _ hw)];split
  .rfl
  .have:x≠n:=by rintro rfl;exact h v uh
   simp[this]
theorem Ξ{kindOf:Str->Option uk}{x:Str}{v:Value}:∀{P:bR}{vs:b_}{i:Nat}{m:cN},P.Nodup->P[i]?=some x->vs[i]?=some v->kindOf x=some .local->
  uF kindOf (P.zip vs) m x=some v
 |[],_,_,_,_,h,_,_=>by simp at h
 |_::_,[],_,_,_,_,h,_=>by simp at h
 |p::P,w::vs,0,m,aK,ag,af,aE=>by simp at ag af;subst ag;subst af;show uF kindOf ((p,w)::P.zip vs) m p=_;unfold uF;rw[Μ λv bI=>(jf.mp aK).1 (Uq bI).1,aO aE];simp
 |p::P,w::vs,i+1,m,aK,ag,af,aE=>by show uF kindOf ((p,w)::P.zip vs) m x=_;unfold uF;exact Ξ (i:=i) (jf.mp aK).2 (by simpa using ag) (by simpa using af) aE
theorem Ο{kindOf:Str->Option uk}{x:Str}{v:Value}:∀{P:bR}{vs:b_}{i:Nat}{m:cN},P.Nodup->P[i]?=some x->vs[i]?=some v->kindOf x≠some .local->
  uE kindOf (P.zip vs) m x=some v
 |[],_,_,_,_,h,_,_=>by simp at h
 |_::_,[],_,_,_,_,h,_=>by simp at h
 |p::P,w::vs,0,m,aK,ag,af,aE=>by simp at ag af;subst ag;subst af;show uE kindOf ((p,w)::P.zip vs) m p=_;unfold uE;rw[Ν λv bI=>(jf.mp aK).1 (Uq bI).1,aJ aE];simp
 |p::P,w::vs,i+1,m,aK,ag,af,aE=>by show uE kindOf ((p,w)::P.zip vs) m x=_;unfold uE;exact Ο (i:=i) (jf.mp aK).2 (by simpa using ag) (by simpa using af) aE
noncomputable def start(N:bR)(vs:a'):St:=vs.map some++wN (N.length-vs.length) none
noncomputable def j0(CX:lT)(P:bP)(w:bt)(K:aY)(ae:cN)(base:Heap)(N:bR)(cn:Str)(scope:Scope)(f:Addr)(cd:Value)(A:cU)(outer:List Env)(s:aF)(H:aa)(E:cE):bB where
 prog:=P
 w:=w
 K:=K
 ae:=ae
 base:=base
 A:=A.deeper (qd cn scope s.heap.objs.size f cd)
 N:=N
 h4:=s
 lV:=H
 env:=qd cn scope s.heap.objs.size f cd
 outer:=outer
 stack:=qd cn scope s.heap.objs.size f cd::outer
 ex:=[]
 calm:=true
 fn:=λ_=>true
 d_:=[]
 dD:=λe s'=>aM (ba P w) (A.deeper (qd cn scope s.heap.objs.size f cd)) (leaving (qd cn scope s.heap.objs.size f cd) e) (λ_ PT=>CX outer H s E e PT) (λb9 PT=>CX outer H s E b9 PT) s'
theorem ò{sc:Scope}{n:Nat}{x:Str}(h:sc.names.lookup x=some .cell):∃c,(Wn n sc.names []).lookup x=some c:=by have q:=adN sc.names n [] (.inl h);exact Ag.mp q
theorem ŕ{CX:lT}{P:bP}{w:bt}{K:aY}{ae:cN}{base:Heap}{N ps:bR}{cn:Str}{scope:Scope}{f:Addr}{cd:Value}{A:cU}{outer:List Env}{s s1:aF}{H:aa}{E:cE}{us:b_}{vs:a'}(S:d0 N ps scope)(hd:A.handled=none)(cI:tX P w K ae base A outer s H)(aq:vs.length=ps.length)(r:cp vs us)(x:InCallC s s.heap.objs.size (uF (qd cn scope s.heap.objs.size f cd).kindOf (ps.zip us) λ_=>none) (Wn (s.heap.objs.size+1) scope.names []) (uE (qd cn scope s.heap.objs.size f cd).kindOf (ps.zip us) λ_=>none) s1):
  Inv (j0 CX P w K ae base N cn scope f cd A outer s H E) [] (start N vs) H s1:=by
 have fW:ps.length<=N.length:=by have:=e9 uf S.pre;rw[f_]at this;omega
 obtain⟨ag,aG,rfl,aE⟩:=x.done;have CC:∀b:Addr,b∉(j0 CX P w K ae base N cn scope f cd A outer s H E).ex:=λb z=>bE (show b∈([]:b4)from z) (by simp);refine⟨⟨cI.mod,S.kind,rfl,rfl,b1 _,λy z c ag af=>?_,λy aZ=>?_,λy c _ h=>?_,λ_=>hd,Around.frames_deeper cI.frames,.inr ⟨rfl,rfl⟩,λb z=>bE z (CC b),cI.bs,cI.p8,λb _ _=>CC b,λb z=>bE z (CC b),cI.jT,cI.rg⟩,
  rfl,cI.bare,hJ.kept aE,⟨_,x.toInCall.ns,λi y v ag af aV=>?_⟩,λy c h=>⟨_,x.cell y c h⟩,cI.bo.fresh (b1 _),λy c h=>?_,λp aP=>bE (show p∈([]:cG)from aP) (by simp),cI.bo.kept aE,?_⟩
 .exact name_of_addr x.apart (Ap ag) (Ap af)
 .have aZ:scope.names.lookup y=some .cell\/scope.names.lookup y=some .free:=aZ;rcases aZ with aZ|aZ
  .exact ò aZ
  .exact bE rfl (S.anE _ (Ap aZ))
 .exact pT (x.above y c (Ap h))
 .have ai:i<vs.length:=by
   unfold start at af;by_cases ai:i<vs.length
   .exact ai
   .rw[Jr (by simpa using ai)]at af;rw[List.getElem?_replicate]at af;split at af<;>cases af
  have aH:vs[i]?=some v:=by
   unfold start at af;rw[Uh (by simpa using ai),cM]at af;cases e:vs[i]? with
   |none=>rw[e]at af;cases af
   |some a=>rw[e]at af;cases af;rfl
  obtain⟨u,cJ,cg⟩:=r.get aH;have aP:ps[i]?=some y:=by rw[<-S.pre,List.getElem?_take_of_lt (by omega)];exact ag
  have Zb:ps.Nodup:=by rw[<-S.pre];exact S.aK.sublist (pR _ _)
  refine⟨u,cg,?_⟩;rcases S.par y (eQ aP)with k|k
  .exact .inl ⟨k,Ξ Zb aP cJ k⟩
  .obtain⟨c,e⟩:=ò (n:=s.heap.objs.size+1) k;refine .inr ⟨.inl k,c,e,?_⟩;have q:=x.cell y c e;rw[Ο Zb aP cJ (by show scope.names.lookup y≠_;rw[k];decide)]at q;exact q
 .exact cI.bo.fresh (pT (x.above y c (Ap h)))
 .unfold start;show _=N.length;rw[e8,bh,List.length_replicate];omega
theorem Jj{CX:lT}{P:bP}{w:bt}{K:aY}{ae:cN}{base:Heap}{k:Nat}{f:Addr}{name cn:Str}{params:Arguments}{body:List Stmt}{scope:Scope}{E9 di doc pm bK fU lF:Value}{an cR:Option Addr}{oc:ka}{N ps:bR}{sp:c9}(lk:K.lookup f=some ⟨lF,cR,.func (wX name cn params body scope E9 di doc pm an bK fU),oc⟩)(lr:Vf K bK cn=true)(S:d0 N ps scope)(len:∀vs H Q E,sp vs H Q E->vs.length=ps.length)(uZ:∀(A:cU)(outer:List Env)(s:aF)(H:aa)(vs:a')(Q:bl)(E:cE),gf k (A.deeper (qd cn scope s.heap.objs.size f bK))->sp vs H Q E->
   ∃t,hI (j0 CX P w K ae base N cn scope f bK A outer s H E) body t/\t {cy:=λ_ H'=>Q .bV H',rt:=Q} (start N vs) H):
  a4 P w K ae base CX (k+1) f (wX name cn params body scope E9 di doc pm an bK fU) ps sp:=by
 refine⟨len,λA outer s H args us vs Q E ay cI U r nW=>?_⟩;have aq:=len _ _ _ _ nW;have pM:K.In s.heap:=cI.mod.th.keeps λb o e=>(cI.bs b o e).1;have lim:s.heap.NoLimit:=cI.mod.nolimit.keeps λb o e=>(cI.bs b o e).1;have ro:∀y∈ps.zip us,scope.names.lookup y.1=some .local\/(scope.names.lookup y.1=some .cell/\((Wn (s.heap.objs.size+1) scope.names []).lookup y.1).isSome=true):=λ⟨n,v⟩aZ=>by
  rcases S.par n (Uq aZ).1 with q|q
  .exact .inl q
  .exact .inr ⟨q,adN _ _ _ (.inl q)⟩
 refine codeAny_call_function ay.depth (pM _ _ lk) rfl S.co S.gen rfl (PySem.W.codeRec_of pM lr) (U _ _ _ _ ?_);refine wpAny_newFunctionEnv_cells S.kind ro λenv he s1 x=>?_;subst he;refine⟨lim.keeps x.toInCall.keep,codeAny_func ?_⟩;obtain⟨t,cO,bp⟩:=uZ A outer s H vs Q E (ay.deeper _) nW;have I:Inv (j0 CX P w K ae base N cn scope f bK A outer s H E) [] (start N vs) H s1:=ŕ S ay.hd cI aq r x;refine e6 (cO [] s1 (start N vs) H _ I bp) (λfI s' hs=>?_) λe s' hs=>hs;have fin:∀{a_:St}{H':aa}{v:V}{u:Value},Inv (j0 CX P w K ae base N cn scope f bK A outer s H E) [] a_ H' s'->RelV v u->Q v H'->Iv outer P w H s Q u s':=
  λ{a_ H' v u}J cg q=>⟨v,H',J.os,J.bare,J.base,J.bo,cg,q⟩
 cases fI with
 |ret u=>
  obtain⟨v,a_,H',J,cg,q⟩:=hs;exact fin J cg q
 |next=>
  obtain⟨a_,H',J,q⟩:=hs;exact fin (v:=V.bV) (u:=dY) J rfl q
 |brk=>
  obtain⟨_,_,_,q⟩:=hs;exact h7 q
 |cont=>
  obtain⟨_,_,_,q⟩:=hs;exact h7 q
section
variable{X:bB}{x:Str}{p pos:Pos}{e:Expr}{es:gm}{t:gF}{id T:String}{r:List V->aa->bl->Prop}
noncomputable def tJ(r:List V->aa->bl->Prop)(t:gF):TE:=λσ H Q=>t σ H λvs H1=>r vs H1 Q
theorem eo(aC:iF X (.builtin id) r)(bx:kv X x)(hm:X.ae x=none)(bI:jn x=some (.builtin id))(aH:ht X (e::es) t)(aD:x≠"__name__":=by decide)(kj:(x==("__debug__":Str))=false:=by decide)(he:eb (e::es) X.env=(false,eval e X.env)::eb es X.env:=by rfl)(fW:(hL pos (eb es X.env)).any (·.1)=false:=by rfl):bN X (.Call (.Name x p) (e::es) [] pos) (tJ r t):=by intro pins s σ H Q I h;refine H3 (Dl I bx hm bI ?_ aD kj);exact adx (bS (aH pos pins s σ H _ I h) λus s1⟨vs,H1,aX,b',bq⟩=>aC pins s1 σ H1 vs us Q aX b' bq) he fW
theorem nG(aC:iF X (.type T) r)(bx:kv X x)(hm:X.ae x=none)(bI:jn x=some (.type T))(aH:ht X (e::es) t)(aD:x≠"__name__":=by decide)(kj:(x==("__debug__":Str))=false:=by decide)(he:eb (e::es) X.env=(false,eval e X.env)::eb es X.env:=by rfl)(fW:(hL pos (eb es X.env)).any (·.1)=false:=by rfl):bN X (.Call (.Name x p) (e::es) [] pos) (tJ r t):=by intro pins s σ H Q I h;refine H3 (Dl I bx hm bI ?_ aD kj);exact Va (bS (aH pos pins s σ H _ I h) λus s1⟨vs,H1,aX,b',bq⟩=>aC pins s1 σ H1 vs us Q aX b' bq) he fW
end
end ar
namespace hW
open PySem PyProof.Rows
noncomputable def lexLt:List Int->List Int->Bool
 |[],[]=>false
 |[],_::_=>true
 |_::_,[]=>false
 |x::xs,y::ys=>if x=y then lexLt xs ys else decide (x<y)
section
variable{prog:bP}{w:bt}{A:cU}{E:cx}{s:aF}
theorem ajJ{t b:Addr}{vs ws:b_}{Q:cx}(cO:ub s.heap t vs.toArray)(U:ub s.heap b ws.toArray)(bI:vs≠[])(ag:ws=[]->Q (.ref t) s)(af:ws≠[]->Q (.ref s.heap.objs.size) {s with heap:=s.heap.push {cls:=.type "tuple",data:=.seq (vs++ws).toArray}})(hsz:vs.length+ws.length<=sizeLine):aM (ba prog w) A (p6 .Add (.ref t) (.ref b)) Q E s:=by
 obtain⟨⟨cls,dd,data,sl⟩,aR,aC,n,hd⟩:=id cO;obtain⟨⟨ari,Wq,data2,Dd⟩,nU,xB,ew,hd2⟩:=id U;simp only at aC hd xB hd2;subst aC hd xB hd2;have e:vs.toArray++ws.toArray=(vs++ws).toArray:=by simp
 by_cases hw:ws=[]
 .exact concat_meets ⟨_,aR,rfl⟩ ⟨_,nU,rfl⟩ anC seq_tuple_add adI adC (adA _ _)
   (tuple_addW1 t b vs.toArray ws.toArray n ew dd Wq sl Dd (by simpa using bI) (by simp[hw])) ⟨aR,nU,ag hw⟩
 .refine concat_meets ⟨_,aR,rfl⟩ ⟨_,nU,rfl⟩ anC seq_tuple_add adI adC (adA _ _)
   (tuple_addW2 t b vs.toArray ws.toArray n ew dd Wq sl Dd (by simpa using bI) (by simpa using hw) (by rw[ek,ek];exact hsz)) ⟨aR,nU,?_⟩
  rw[e];exact af hw
noncomputable def iQ(n d:Nat):Option Int->Nat
 |none=>d
 |some v=>if v<0 then(v+(n:Int)).toNat else min v.toNat n
theorem aox(n d k:Nat):iQ n d (some (k:Int))=min k n:=by show(if(k:Int)<0 then((k:Int)+(n:Int)).toNat else min (k:Int).toNat n)=min k n;rw[aJ (by omega),lX]
end
end hW
namespace ar
open PySem PySem.Spec PyProof.Rows
noncomputable abbrev sv:=St->aa->(Option Int->aa->Prop)->Prop
noncomputable def wU(X:bB)(e:Option Expr)(t:sv):Prop:=
 ∀(pins:cG)(s:aF)(σ:St)(H:aa)(Q:Option Int->aa->Prop),Inv X pins σ H s->t σ H Q->
  aM (ba X.prog X.w) X.A (evalPart e X.env) (λu s'=>∃o H',Inv X pins σ H' s'/\IsPart u o/\Q o H') X.dD s
noncomputable def acX:sv:=λ_ H Q=>Q none H
noncomputable def agx(t:TE):sv:=λσ H Q=>t σ H λx H1=>∃i,x=.int i/\Q (some i) H1
section
variable{X:bB}{e:Expr}{b3:TE}{lo ai:Option Expr}{c3 qK:sv}{pos ey:Pos}
theorem acY:wU X none acX:=by intro pins s σ H Q I h;rw[evalPart_none];exact a9 ⟨none,H,I,.none,h⟩
theorem CG(h:bN X e b3):wU X (some e) (agx b3):=by intro pins s σ H Q I hw;rw[evalPart_some];refine bS (h pins s σ H _ I hw) λu s1⟨x,H1,aX,b',bq⟩=>?_;obtain⟨i,rfl,q⟩:=bq;obtain⟨t,rfl⟩:=b';exact⟨some i,H1,aX,.int i t,q⟩
noncomputable def VP(X:bB)(r:V->Option Int->Option Int->aa->bl->Prop):Prop:=
 ∀(pins:cG)(s:aF)(σ:St)(H:aa)(x:V)(v kN oq:Value)(lo ai:Option Int)(sl:Addr)(Q:bl),Inv X pins σ H s->RelV x v->s.heap.IsSliceOf sl kN oq .none->IsPart kN lo->IsPart oq ai->r x lo ai H Q->
  ∃T id,typeLookup (.type T) "__getitem__"=pure (some (.builtin id))/\s.TypeIs v T/\aM (ba X.prog X.w) X.A (xq v (.ref sl)) (hG X pins σ Q) X.dD s
noncomputable def aoX(r:V->Option Int->Option Int->aa->bl->Prop)(b3:TE)(c3 qK:sv):TE:=λσ H Q=>b3 σ H λx H1=>c3 σ H1 λl aj=>qK σ aj λu bL=>r x l u bL Q
theorem aaz{r:V->Option Int->Option Int->aa->bl->Prop}(ay:VP X r)(he:bN X e b3)(aq:wU X lo c3)(cJ:wU X ai qK):bN X (.Subscript e (.Slice lo ai none ey) pos) (aoX r b3 c3 qK):=by intro pins s σ H Q I h;refine J7 (bS (he pins s σ H _ I h) λv s1⟨x,H1,aX,b',bq⟩=>?_);refine wpAny_Slice (bS (aq pins s1 σ H1 _ aX bq) λkN s2⟨l,aj,bT,pl,cj⟩=>bS (cJ pins s2 σ aj _ bT cj) λoq s3⟨u,bL,c_,pu,fk⟩=>?_);rw[evalPart_none];refine a9 ?_;have j7:Inv X pins σ bL {s3 with heap:=s3.heap.push {cls:=.type "slice",data:=.fields #[kN,oq,.none]}}:=c_.kept (t':=s3.toks) λb ob q=>c6 _ q;obtain⟨T,id,i6,cO,bx⟩:=ay pins {s3 with heap:=s3.heap.push {cls:=.type "slice",data:=.fields #[kN,oq,.none]}} σ bL x v kN oq l u s3.heap.objs.size Q j7 b' (ş ..) pl pu fk;show aM (ba X.prog X.w) X.A (Qi e (.Slice lo ai none ey) v (.ref s3.heap.objs.size)) (hG X pins σ Q) X.dD {s3 with heap:=s3.heap.push {cls:=.type "slice",data:=.fields #[kN,oq,.none]}};exact tail_any (ops:=[.ref s3.heap.objs.size,v]) cO i6 bx (by with_unfolding_all rfl)
noncomputable def wz(xs:a')(lo ai:Option Int):List V:=(xs.drop (hW.iQ xs.length 0 lo)).take (hW.iQ xs.length xs.length ai-hW.iQ xs.length 0 lo)
theorem aql(xs:a')(lo ai:Option Int):(wz xs lo ai).length<=xs.length:=by unfold wz;rw[f_,pP];omega
inductive ae2(K:aY)(x:ar.V)(y:ar.V)(H:aa)(Q:bl):Prop where
 |mk (a:_) (b:_) (xs:_) (ys:_) (b0:x=.ref a) (bH:y=.ref b) (cu:b2 K H a xs) (cS:b2 K H b ys) (dw:xs≠[]) (en:xs.length+ys.length<=sizeLine) (ha:(ys=[]->Q (.ref a) H)) (iT:(ys≠[]->∀p,H p=none->Q (.ref p) (upd H p (.tup (xs++ys)))))
noncomputable def agy(K:aY):gQ:=λx y H Q=>ae2 K x y H Q
theorem cp.OV{xs:a'}{us:b_}(r:cp xs us):us=[]↔xs=[]:=by
 cases r with
 |nil=>simp
 |cons _ _=>simp
theorem acZ:fZ X (p6 .Add) (agy X.K):=by intro pins s σ H x y v u Q I bC bW h;obtain⟨a,b,xs,ys,rfl,rfl,aH,U,ao,hz,bq,cj⟩:=h;cases bC;cases bW;obtain⟨its,b',dW,_⟩:=I.tuple aH;obtain⟨tb,df,ey,_⟩:=I.tuple U;refine hW.ajJ dW ey (λz=>ao (b'.OV.mp z)) (λz=>⟨.ref a,H,I,rfl,bq (df.OV.mp z)⟩) (λz=>?_) (by rw[<-b'.length,<-df.length];exact hz);refine⟨.ref s.heap.objs.size,_,I.laid (t':=s.toks) (o:=.tup (xs++ys)) (λb ob q=>c6 _ q) (b1 _) ?_,rfl,cj (λw=>z (df.OV.mpr w)) _ (I.bo.fresh (b1 _))⟩;exact⟨by rw[e8];exact hz,_,b'.append df,IsTup.new _ _⟩
noncomputable def mW(n:Nat)(i:Int):Option Nat:=if 0<=i then(if i<n then some i.toNat else none)else if -(n:Int)<=i then some (i+n).toNat else none
noncomputable def f3{α:Type}(xs:List α)(i:Int):Option α:=(mW xs.length i).bind λj=>xs[j]?
end
theorem S3{n:Nat}{i:Int}{j:Nat}(h:mW n i=some j):seqIndex? i n=some j/\j<n/\-(n:Int)<=i/\i<n:=by
 unfold mW at h;by_cases h0:0<=i
 .rw[aO h0]at h;by_cases ag:i<n
  .rw[aO ag]at h;have e:i.toNat=j:=gZ h;exact⟨by rw[Z0 h0 ag,e],by omega,by omega,ag⟩
  .rw[aJ ag]at h;cases h
 .rw[aJ h0]at h;by_cases ag:-(n:Int)<=i
  .rw[aO ag]at h;have e:(i+n).toNat=j:=gZ h;exact⟨by rw[ZZ (by omega) ag,e],by omega,ag,by omega⟩
  .rw[aJ ag]at h;cases h
theorem Rj{α:Type}{xs:List α}{i:Int}{v:α}(h:f3 xs i=some v):∃j,seqIndex? i xs.length=some j/\xs[j]?=some v/\j<xs.length/\-(xs.length:Int)<=i/\i<xs.length:=by
 unfold f3 at h;cases e:mW xs.length i with
 |none=>rw[e]at h;cases h
 |some j=>
  rw[e]at h;obtain⟨ag,af,aV,bU⟩:=S3 e;exact⟨j,ag,h,af,aV,bU⟩
theorem jo{α:Type}{xs:List α}{j:Nat}{v:α}(h:xs[j]?=some v):f3 xs (j:Int)=some v:=by
 have aQ:j<xs.length:=(gj.mp h).1;have e:mW xs.length (j:Int)=some j:=by unfold mW;rw[aO (by omega),aO (by omega)];simp
 unfold f3;rw[e];exact h
theorem ó{α:Type}(xs:List α)(v:α):f3 (xs++[v]) (-1)=some v:=by
 have aq:(xs++[v]).length=xs.length+1:=by simp
 have e:mW (xs++[v]).length (-1)=some xs.length:=by unfold mW;rw[aq,aJ (by decide),aO (by omega)];congr 1;omega
 unfold f3;rw[e];show(xs++[v])[xs.length]?=some v;simp
noncomputable def ac0(b:Expr):Prop:=∀o i,Qj b false o i=operate [o,i] (xq o i)
noncomputable def wD(X:bB)(r:gQ):Prop:=
 ∀(value slice:Expr)(pins:cG)(s:aF)(σ:St)(H:aa)(x y:V)(v u:Value)(Q:bl),Inv X pins σ H s->RelV x v->RelV y u->r x y H Q->
  Qj slice false v u=operate [v,u] (xq v u)->aM (ba X.prog X.w) X.A (Qi value slice v u) (hG X pins σ Q) X.dD s
noncomputable def aco(X:bB)(id:String)(r:V->List V->aa->bl->Prop):Prop:=
 ∀(pins:cG)(s:aF)(σ:St)(H:aa)(x:V)(xs:a')(v:Value)(us:b_)(Q:bl),Inv X pins σ H s->RelV x v->cp xs us->r x xs H Q->
  aM (ba X.prog X.w) X.A (call (.builtin id) (v::us)) (hG X pins σ Q) X.dD s
section
variable{X:bB}{a b:Expr}{cb c0:TE}{pos:Pos}
theorem cz{r:gQ}(ay:wD X r)(aH:bN X a cb)(U:bN X b c0)(hs:ac0 b):bN X (.Subscript a b pos) (HR r cb c0):=by intro pins s σ H Q I h;exact J7 (J0 aH U I h λv u s2 x y aj bT bC bW q=>ay a b pins s2 σ aj x y v u Q bT bC bW q (hs _ _))
inductive agz(K:aY)(x:ar.V)(y:ar.V)(H:aa)(Q:bl):Prop where
 |mk (p:_) (xs:_) (i:_) (v:_) (b0:x=.ref p) (bH:y=.int i) (cu:aS K H p xs) (cS:f3 xs i=some v) (dw:Q v H)
noncomputable def V7(K:aY):gQ:=λx y H Q=>agz K x y H Q
inductive agA(K:aY)(x:ar.V)(y:ar.V)(H:aa)(Q:bl):Prop where
 |mk (p:_) (xs:_) (i:_) (v:_) (b0:x=.ref p) (bH:y=.int i) (cu:b2 K H p xs) (cS:f3 xs i=some v) (dw:Q v H)
noncomputable def V8(K:aY):gQ:=λx y H Q=>agA K x y H Q
inductive agB(x:ar.V)(y:ar.V)(H:aa)(Q:bl):Prop where
 |mk (z:_) (i:_) (c:_) (b0:x=.str z) (bH:y=.int i) (cu:z.length<=sizeLine) (cS:f3 z.cps.toList i=some c) (dw:Q (.str ⟨#[c]⟩) H)
noncomputable def ahk:gQ:=λx y H Q=>agB x y H Q
theorem gS:wD X (V7 X.K):=by
 intro value slice pins s σ H x y v u Q I bC bW h hs;obtain⟨p,xs,i,z,rfl,rfl,bp,he,q⟩:=h;cases bC;obtain⟨t,rfl⟩:=bW;obtain⟨its,r,pl,hz⟩:=I.list bp;obtain⟨j,ag,af,aV,bU,dq⟩:=Rj he;obtain⟨w,Fe,m8⟩:=r.get af;have aq:=r.length;have aD:=vz;have fin:hG X pins σ Q w s:=⟨z,H,I,m8,q⟩
 by_cases h0:0<=i
 .have aQ:i.toNat=j:=by rw[Z0 h0 dq]at ag;exact gZ ag
  exact item_listR pl.isList h0 (by omega) (by rw[aQ];simpa using Fe) fin hs
 .have aQ:(i+(its.toArray.size:Int)).toNat=j:=by rw[ZZ (by omega) bU]at ag;rw[ek,<-aq];exact gZ ag
  exact aoN (x:=w) pl.isList.typeIs Z5.lookup
   (wpAny_getItem_list_neg (Q:=λr s'=>r=w/\hG X pins σ Q r s') pl.isList (by omega) (by rw[ek]<;>omega) (by omega) (by rw[aQ];simpa using Fe) ⟨rfl,fin⟩) hs
theorem d5:wD X (V8 X.K):=by
 intro value slice pins s σ H x y v u Q I bC bW h hs;obtain⟨p,xs,i,z,rfl,rfl,bp,he,q⟩:=h;cases bC;obtain⟨t,rfl⟩:=bW;obtain⟨its,r,pl,hz⟩:=I.tuple bp;obtain⟨j,ag,af,aV,bU,dq⟩:=Rj he;obtain⟨w,Fe,m8⟩:=r.get af;have aq:=r.length;have aD:=vz;have fin:hG X pins σ Q w s:=⟨z,H,I,m8,q⟩
 exact aoN (x:=w) pl.typeIs slot_tuple_getitem.lookup
  (getItem_tuple (j:=j) (Q:=λr s'=>r=w/\hG X pins σ Q r s') pl (by omega) (by omega) (by rw[ek,<-aq];exact ag) (by simpa using Fe) ⟨rfl,fin⟩) hs
theorem ae7:wD X ahk:=by
 intro value slice pins s σ H x y v u Q I bC bW h hs;obtain⟨z,i,c,rfl,rfl,hz,he,q⟩:=h;obtain⟨t,rfl⟩:=bC;obtain⟨t',rfl⟩:=bW;obtain⟨j,ag,af,aV,bU,dq⟩:=Rj he;have aq:z.cps.toList.length=z.length:=by simp[Str.length]
 rw[aq]at ag bU dq;have aD:=vz;exact tail_any (typeIs_str s z t) slot_str_getitem.lookup (getItem_str (c:=c) (by
  have ax:decide (i < -(2 ^ 63:Int))=false:=eM (by omega);have az:decide (i≥2 ^ 63)=false:=eM (by omega);rw[ax,az,Ċ]) (by rw[ag];simpa using af) ⟨.str ⟨#[c]⟩,H,I.tok _,⟨_,rfl⟩,q⟩) hs
theorem ę(its:b_)(n j:Nat)(u:Value):jI (·.setIfInBounds j u) {cls:=.type "list",data:=.seq its.toArray n}={cls:=.type "list",data:=.seq (its.set j u).toArray n}:=by simp[jI]
theorem Inv.lst{pins:cG}{σ:St}{H:aa}{s:aF}{p:Addr}{xs:a'}(I:Inv X pins σ H s)(h:H p=some (.lst xs)):
  ∃(its:b_)(n:Nat),cp xs its/\s.heap.get? p=some {cls:=.type "list",data:=.seq its.toArray n}/\xs.length<=sizeLine:=by obtain⟨z,its,n,r,e⟩:=I.bo p _ h;exact⟨its,n,r,e,z⟩
theorem Inv.am2{pins:cG}{σ:St}{H:aa}{s:aF}{p:Addr}{xs ys:a'}{its its':b_}{n lB:Nat}{f:Obj->Obj}(I:Inv X pins σ H s)(h:H p=some (.lst xs))(aR:s.heap.get? p=some {cls:=.type "list",data:=.seq its.toArray n})(hf:f {cls:=.type "list",data:=.seq its.toArray n}={cls:=.type "list",data:=.seq its'.toArray lB})(r:cp ys its')(hz:ys.length<=sizeLine)(t:Nat):
  Inv X pins σ (upd H p (.lst ys)) {s with heap:=s.heap.update p f,toks:=t}:=by
 have e:(s.heap.update p f).get? p=some {cls:=.type "list",data:=.seq its'.toArray lB}:=by rw[mu f aR (by rw[hf]<;>rfl),hf]
 refine I.write (x:=p) (e:=p) (by rw[h];trivial) (.inl rfl) (λb u U q=>(ox _ _ (d8 U)).trans q) ⟨_,e⟩ ?_;exact⟨hz,its',lB,r,e⟩
inductive ae8(o:V)(i:V)(v:V)(H:aa)(Q:((aa->Prop))):Prop where
 |mk (p:_) (xs:_) (k:_) (j:_) (b0:o=.ref p) (bH:i=.int k) (cu:H p=some (.lst xs)) (cS:mW xs.length k=some j) (dw:Q (upd H p (.lst (xs.set j v))))
noncomputable def agC:V->V->V->aa->(aa->Prop)->Prop:=λo i v H Q=>ae8 o i v H Q
theorem set_list:V3 X agC:=by
 intro pins s σ H o i v eH jZ u Q I tD aom cg h;obtain⟨p,xs,k,j,rfl,rfl,aP,aQ,q⟩:=h;cases tD;obtain⟨t,rfl⟩:=aom;obtain⟨its,n,r,aR,hz⟩:=I.lst aP;obtain⟨ag,af,aV,bU⟩:=S3 aQ;have aq:=r.length;have aD:=vz;have oy:Inv X pins σ (upd H p (.lst (xs.set j v))) {s with heap:=s.heap.update p (jI (·.setIfInBounds j u))}:=
  I.am2 aP aR (ę its n j u) (r.set cg j) (by rw[abK];exact hz) s.toks
 by_cases h0:0<=k
 .have aE:k.toNat=j:=by rw[Z0 h0 bU]at ag;exact gZ ag
  exact PySem.W.ki_setAt aR h0 (by omega) (by rw[ek,<-aq];exact bU) (by rw[aE];exact⟨_,oy,q⟩)
 .have aE:(k+(its.toArray.size:Int)).toNat=j:=by rw[ZZ (by omega) aV]at ag;rw[ek,<-aq];exact gZ ag
  exact PySem.W.ki_setBack aR (by omega) (by rw[ek,<-aq];exact aV) (by omega) (by rw[aE];exact⟨_,oy,q⟩)
theorem apY(lo ai:Option Int)(n:Nat):(mm lo ai none n).1=((hW.iQ n 0 lo:Nat):Int)/\(mm lo ai none n).2.1=((hW.iQ n n ai:Nat):Int)/\(mm lo ai none n).2.2=1:=by
 refine⟨?_,?_,rfl⟩
 .cases lo with
  |none=>simp[mm,hW.iQ]
  |some i=>
   simp only[mm,hW.iQ,ac2,show(1:Int)>0 by decide,if_true];by_cases h:i<0
   .simp only[h,if_true]<;>omega
   .simp only[h,if_false]<;>omega
 .cases ai with
  |none=>simp[mm,hW.iQ]
  |some i=>
   simp only[mm,hW.iQ,ac2,show(1:Int)>0 by decide,if_true];by_cases h:i<0
   .simp only[h,if_true]<;>omega
   .simp only[h,if_false]<;>omega
theorem apr(its:b_)(lo ai:Option Int):Qc its.toArray lo ai none=((its.drop (hW.iQ its.length 0 lo)).take (hW.iQ its.length its.length ai-hW.iQ its.length 0 lo)).toArray:=by obtain⟨ag,af,aV⟩:=apY lo ai its.toArray.size;unfold Qc;rw[ag,af,aV];simp only[sliceRange_one,pick_run,ek]<;>rfl
inductive age(K:aY)(x:V)(lo:(Option Int))(ai:(Option Int))(H:aa)(Q:bl):Prop where
 |mk (a:_) (xs:_) (b0:x=.ref a) (bH:aS K H a xs) (cu:∀p,H p=none->Q (.ref p) (upd H p (.lst (wz xs lo ai))))
noncomputable def aib(K:aY):V->Option Int->Option Int->aa->bl->Prop:=λx lo ai H Q=>age K x lo ai H Q
theorem ac1:VP X (aib X.K):=by intro pins s σ H x v kN oq lo ai sl Q I bC hs pl pu h;obtain⟨a,xs,rfl,ao,q⟩:=h;cases bC;obtain⟨its,r,cO,hz⟩:=I.list ao;have hlen:=r.length;refine⟨"list",_,Z5.lookup,cO.isList.typeIs,?_⟩;refine apE cO.isList hs pl pu .none (by simp) ?_ (by rw[ek]<;>omega);rw[apr,<-hlen];refine⟨.ref s.heap.objs.size,_,I.laid (t':=s.toks) (o:=.lst (wz xs lo ai)) (λb ob q=>c6 _ q) (b1 _) ?_,rfl,q _ (I.bo.fresh (b1 _))⟩;exact⟨hc (aql xs lo ai) hz,_,0,(r.drop (hW.iQ xs.length 0 lo)).take (hW.iQ xs.length xs.length ai-hW.iQ xs.length 0 lo),ff _ rfl⟩
noncomputable def qw:V->Bool
 |.bV=>true
 |.bf _=>true
 |.int _=>true
 |.str _=>true
 |_=>false
noncomputable def sL:V->V->Bool
 |.bV,.bV=>true
 |.bf a,.bf b=>a==b
 |.bf a,.int b=>(if a then 1 else 0)==b
 |.int a,.bf b=>a==(if b then 1 else 0)
 |.int a,.int b=>a==b
 |.str a,.str b=>a==b
 |_,_=>false
theorem ae9{A:cU}{s:aF}{y x:V}{u v:Value}(bW:RelV y u)(bC:RelV x v)(alb:qw y=true)(mO:qw x=true):ae3 A s u v (sL y x):=by
 cases y with
 |bV=>
  cases bW;cases x with
  |bV=>cases bC;exact SeqAt.EqAt.same _
  |bf b=>cases bC;exact SeqAt.EqAt.none_bool b
  |int b=>obtain⟨t,rfl⟩:=bC;exact SeqAt.EqAt.none_int b t
  |str b=>obtain⟨t,rfl⟩:=bC;exact SeqAt.EqAt.none_str b t
  |_=>exact bE (show false=true from mO) fz
 |bf a=>
  cases bW;cases x with
  |bV=>cases bC;exact SeqAt.EqAt.bool_none a
  |bf b=>cases bC;exact SeqAt.EqAt.bool_bool a b
  |int b=>obtain⟨t,rfl⟩:=bC;exact SeqAt.EqAt.bool_int a b t
  |str b=>obtain⟨t,rfl⟩:=bC;exact SeqAt.EqAt.bool_str a b t
  |_=>exact bE (show false=true from mO) fz
 |int a=>
  obtain⟨t',rfl⟩:=bW;cases x with
  |bV=>cases bC;exact SeqAt.EqAt.int_none a t'
  |bf b=>cases bC;exact SeqAt.EqAt.int_bool a t' b
  |int b=>obtain⟨t,rfl⟩:=bC;exact SeqAt.EqAt.int_int a t' b t
  |str b=>obtain⟨t,rfl⟩:=bC;exact ae4 a t' b t
  |_=>exact bE (show false=true from mO) fz
 |str a=>
  obtain⟨t',rfl⟩:=bW;cases x with
  |bV=>cases bC;exact SeqAt.EqAt.str_none a t'
  |bf b=>cases bC;exact SeqAt.EqAt.str_bool a t' b
  |int b=>obtain⟨t,rfl⟩:=bC;exact ae5 a t' b t
  |str b=>obtain⟨t,rfl⟩:=bC;exact SeqAt.EqAt.str_str a t' b t
  |_=>exact bE (show false=true from mO) fz
 |_=>exact bE (show false=true from alb) fz
noncomputable def ll(x:V)(u:Value):Bool:=match u with
 |.none=>sL .bV x
 |.bool b=>sL (.bf b) x
 |.int i _=>sL (.int i) x
 |.str z _=>sL (.str z) x
 |_=>false
theorem TR{x y:V}{u:Value}(r:RelV y u)(f:qw y=true):ll x u=sL y x:=by
 cases y with
 |bV=>cases r;rfl
 |bf b=>cases r;rfl
 |int i=>obtain⟨t,rfl⟩:=r;rfl
 |str z=>obtain⟨t,rfl⟩:=r;rfl
 |_=>exact bE (show false=true from f) fz
theorem CH{x:V}:∀{xs:a'}{us:b_},cp xs us->xs.all qw=true->us.any (ll x)=xs.any λy=>sL y x
 |_,_,.nil,_=>rfl
 |y::xs,u::us,.cons r t,f=>by rw[abw,kR]at f;rw[Ep,Ep,TR r f.1,CH t f.2]
theorem Co{A:cU}{s:aF}{x:V}{v:Value}(bC:RelV x v)(mO:qw x=true):∀{xs:a'}{us:b_},cp xs us->xs.all qw=true->∀u∈us,ae3 A s u v (ll x u)
 |_,_,.nil,_=>λu cJ=>by cases cJ
 |y::xs,u::us,.cons r t,f=>λu' cJ=>by
  rw[abw,kR]at f;rcases fp.mp cJ with rfl|cJ
  .rw[TR r f.1];exact ae9 r bC f.1 mO
  .exact Co bC mO t f.2 u' cJ
noncomputable def qr(x:V)(xs:a'):Bool:=xs.any λy=>sL y x
inductive aic(K:aY)(neg:Bool)(x:ar.V)(y:ar.V)(H:aa)(Q:bl):Prop where
 |mk (p:_) (xs:_) (b0:y=.ref p) (bH:(aS K H p xs\/b2 K H p xs)) (cu:qw x=true) (cS:xs.all qw=true) (dw:Q (.bf (if neg then !qr x xs else qr x xs)) H)
noncomputable def ZN(K:aY)(neg:Bool):gQ:=λx y H Q=>aic K neg x y H Q
theorem Pt:fZ X (hN .In) (ZN X.K false):=by
 intro pins s σ H x y v u Q I bC bW h;obtain⟨p,xs,rfl,bp,mO,fs,q⟩:=h;cases bW;rcases bp with bp|bp
 .obtain⟨its,r,pl,hz⟩:=I.list bp;refine SeqAt.in_listAt (ll x) pl.isList (λw hw=>Co bC mO r fs w (by simpa using hw)) ⟨.bf _,H,I,rfl,?_⟩;rw[show its.toArray.any (ll x)=its.any (ll x) by simp,CH r fs];exact q
 .obtain⟨its,r,pl,hz⟩:=I.tuple bp;refine SeqAt.in_tupleAt (ll x) pl (λw hw=>Co bC mO r fs w (by simpa using hw)) ⟨.bf _,H,I,rfl,?_⟩;rw[show its.toArray.any (ll x)=its.any (ll x) by simp,CH r fs];exact q
theorem Zz:fZ X (hN .NotIn) (ZN X.K true):=by
 intro pins s σ H x y v u Q I bC bW h;obtain⟨p,xs,rfl,bp,mO,fs,q⟩:=h;cases bW;rcases bp with bp|bp
 .obtain⟨its,r,pl,hz⟩:=I.list bp;refine SeqAt.notIn_listAt (ll x) pl.isList (λw hw=>Co bC mO r fs w (by simpa using hw)) ⟨.bf _,H,I,rfl,?_⟩;rw[show its.toArray.any (ll x)=its.any (ll x) by simp,CH r fs];exact q
 .obtain⟨its,r,pl,hz⟩:=I.tuple bp;refine SeqAt.notIn_tupleAt (ll x) pl (λw hw=>Co bC mO r fs w (by simpa using hw)) ⟨.bf _,H,I,rfl,?_⟩;rw[show its.toArray.any (ll x)=its.any (ll x) by simp,CH r fs];exact q
inductive aid(K:aY)(xs:a')(H:aa)(Q:bl):Prop where
 |mk (p:_) (ys:_) (b0:xs=[.ref p]) (bH:(aS K H p ys\/b2 K H p ys)) (cu:Q (.int ys.length) H)
theorem ke:iF X (.builtin "len") (aid X.K):=by
 intro pins s σ H xs us Q I r h;obtain⟨p,ys,rfl,bp,q⟩:=h;obtain⟨u,rfl,bC⟩:=vals1 r;cases bC;have aD:=vz;rcases bp with bp|bp
 .obtain⟨its,cB,pl,hz⟩:=I.list bp;have hlen:=cB.length;exact Calls.call_len_list pl.isList (by simp only[ek]<;>omega) ⟨.int ys.length,H,I.tok _,⟨s.toks+1,by rw[ek,hlen]⟩,q⟩
 .obtain⟨its,cB,pl,hz⟩:=I.tuple bp;have hlen:=cB.length;exact len_tuple pl (by simp only[ek]<;>omega) ⟨.int ys.length,H,I.tok _,⟨s.toks+1,by rw[ek,hlen]⟩,q⟩
theorem apZ:iF X (.builtin "len") (λxs H Q=>∃z,xs=[.str z]/\z.length<=sizeLine/\Q (.int z.length) H):=by intro pins s σ H xs us Q I r h;obtain⟨z,rfl,hz,q⟩:=h;obtain⟨u,rfl,t,rfl⟩:=vals1 r;have aD:=vz;exact len_str (by omega) ⟨.int z.length,H,I.tok _,⟨_,rfl⟩,q⟩
theorem sG:iF X (.type "list") (λxs H Q=>∃p ys,xs=[.ref p]/\(aS X.K H p ys\/b2 X.K H p ys)/\∀l,H l=none->Q (.ref l) (upd H l (.lst ys))):=by
 intro pins s σ H xs us Q I r h;obtain⟨p,ys,rfl,bp,q⟩:=h;obtain⟨u,rfl,bC⟩:=vals1 r;cases bC;have fin:∀(its:b_),cp ys its->ys.length<=sizeLine->∀(h':Heap)(gz:Nat),(∀b cQ,s.heap.get? b=some cQ->h'.get? b=some cQ)->
   h'.get? s.heap.objs.size=some {cls:=.type "list",dict:=none,data:=.seq its.toArray gz,slots:=#[]}->hG X pins σ Q (.ref s.heap.objs.size) {s with heap:=h'}:=λits cB hz h' gz cT e=>
  ⟨.ref s.heap.objs.size,_,I.laid (t':=s.toks) cT (b1 _) (show er X.prog X.w _ h' _ (.lst ys)from⟨hz,its,gz,cB,e⟩),rfl,q _ (I.bo.fresh (b1 _))⟩
 rcases bp with bp|bp
 .obtain⟨its,cB,pl,hz⟩:=I.list bp;have hlen:=cB.length;obtain⟨o,aR,aC,n,hd⟩:=pl.isList;exact call_list_seq p (.inl rfl) aR aC hd (λh' gz cT e=>fin its cB hz h' gz cT e) (by simp only[ek]<;>omega)
 .obtain⟨its,cB,pl,hz⟩:=I.tuple bp;have hlen:=cB.length;obtain⟨o,aR,aC,n,hd⟩:=pl;exact call_list_seq p (.inr rfl) aR aC hd (λh' gz cT e=>fin its cB hz h' gz cT e) (by simp only[ek]<;>omega)
theorem aps:iF X (.type "tuple") (λxs H Q=>∃p ys,xs=[.ref p]/\((aS X.K H p ys/\∀l,H l=none->Q (.ref l) (upd H l (.tup ys)))\/(b2 X.K H p ys/\Q (.ref p) H))):=by
 intro pins s σ H xs us Q I r h;obtain⟨p,ys,rfl,h⟩:=h;obtain⟨u,rfl,bC⟩:=vals1 r;cases bC;rcases h with⟨bp,q⟩|⟨bp,q⟩
 .obtain⟨its,cB,pl,hz⟩:=I.list bp;have hlen:=cB.length;refine call_tuple_list pl.isList (λh' cT=>?_) (by simp only[ek]<;>omega);have aX:Inv X pins σ H {s with heap:=h'}:=I.kept (t':=s.toks) cT;have bT:Inv X pins σ (upd H h'.objs.size (.tup ys)) {s with heap:=h'.push {cls:=.type "tuple",data:=.seq its.toArray}}:=
   aX.laid (t':=s.toks) (λb o e=>c6 _ e) (b1 _) (show er X.prog X.w _ _ _ (.tup ys)from⟨hz,its,cB,IsTup.new _ _⟩)
  exact⟨.ref h'.objs.size,_,bT,rfl,q _ (aX.bo.fresh (b1 _))⟩
 .obtain⟨its,cB,pl,hz⟩:=I.tuple bp;exact call_tuple_same pl ⟨.ref p,H,I,rfl,q⟩
noncomputable def ρ(K:aY)(T:String)(x:V)(H:aa):Prop:=match x with
 |.str _=>T="str"
 |.int _=>T="int"
 |.ref p=>(T="list"/\∃xs,aS K H p xs)\/(T="tuple"/\∃o,K.lookup p=some o/\o.cls=.type "tuple"/\o.dict=none)\/
   (T="dict"/\((∃kvs,H p=some (.cD kvs))\/∃kvs,H p=some (.c4 kvs)))\/(T="set"/\∃S n,H p=some (.set S n))
 |_=>False
theorem afa{pins:cG}{σ:St}{H:aa}{s:aF}{T:String}{x:V}{v:Value}(I:Inv X pins σ H s)(r:RelV x v)(ty:ρ X.K T x H):
  s.TypeIs v T/\∀a,v=.ref a->∃ob,s.heap.get? a=some ob/\ob.dict=none:=by
 cases x with
 |str z=>
  obtain⟨t,rfl⟩:=r;cases(show T="str" from ty);exact⟨typeIs_str s z t,λ_ e=>nomatch e⟩
 |int i=>
  obtain⟨t,rfl⟩:=r;cases(show T="int" from ty);exact⟨typeIs_int s i t,λ_ e=>nomatch e⟩
 |ref p=>
  cases r;rcases ty with⟨rfl,xs,bp⟩|⟨rfl,o,aE,aC,hd⟩|⟨rfl,aE⟩|⟨rfl,S,n,aE⟩
  .obtain⟨its,_,pl,_⟩:=I.list bp;refine⟨pl.isList.typeIs,λa e=>?_⟩;cases e;obtain⟨o,n,e,c,hd,_⟩:=pl;exact⟨o,e,hd⟩
  .refine⟨⟨o,I.fb p o aE,aC⟩,λa e=>?_⟩;cases e;exact⟨o,I.fb _ o aE,hd⟩
  .have z:∃o,s.heap.get? p=some o/\o.ExactDict:=by
    rcases aE with⟨kvs,aE⟩|⟨kvs,aE⟩
    .obtain⟨_,_,_,_,o,_,_,e,ex,_⟩:=I.bo p _ aE;exact⟨o,e,ex⟩
    .obtain⟨_,_,_,_,o,_,_,e,ex,_⟩:=I.bo p _ aE;exact⟨o,e,ex⟩
   obtain⟨o,e,ex⟩:=z;refine⟨⟨o,e,ex.1⟩,λa az=>?_⟩;cases az;exact⟨o,e,ex.2.1⟩
  .obtain⟨o,_,_,_,e,ex,_⟩:=I.bo p _ aE;refine⟨⟨o,e,ex.1⟩,λa az=>?_⟩;cases az;exact⟨o,e,ex.2.1⟩
 |_=>exact h7 ty
noncomputable def aoP(K:aY)(T:String)(r:V->List V->aa->bl->Prop)(to:TE)(t:gF):TE:=λσ H Q=>to σ H λx H1=>ρ K T x H1/\t σ H1 λxs aj=>r x xs aj Q
variable{o e:Expr}{es:gm}{to:TE}{t:gF}{name:Str}{fE fF:Pos}{T id:String}{r:V->List V->aa->bl->Prop}
theorem n4(jc:PlainAttrs T)(slot:Slot T name id)(u7:typeOf (.builtin id)=pure (.type "method_descriptor"))(hm:aco X id r)(aR:bN X o to)(aH:ht X (e::es) t)(MH:AA o name X.env (eval o X.env)=eval o X.env:=by rfl)(alS:((hL fF (eb (e::es) X.env)).all (λx=>!x.1)&&(sE fF (tg [] X.env)).all (λx=>x.1.isSome)
   && decide ((e::es).length+([]:List zS).length+(if([]:List zS).isEmpty then 0 else 1)<30))=true:=by rfl)(M7:(fE.endLine==fF.line)=true:=by rfl)(hs:eb (e::es) X.env=(false,eval e X.env)::eb es X.env:=by rfl)(amv:(hL fF (eb es X.env)).any (·.1)=false:=by rfl):
  bN X (.Call (.Attribute o name fE) (e::es) [] fF) (aoP X.K T r to t):=by intro pins s σ H Q I h;refine wpAny_Call_method_late MH alS M7 rfl (bS (aR pins s σ H _ I h) λv s1⟨x,H1,aX,b',ty,bq⟩=>?_);obtain⟨ag,af⟩:=afa aX b' ty;refine⟨T,id,jc,slot,u7,ag,af,?_⟩;have qi:=aH fF pins s1 σ H1 _ aX bq;rw[hs]at qi⊢;refine IA (by show(false||(hL fF (eb es X.env)).any (·.1))=false;rw[amv]<;>rfl) (IB ?_);exact bS qi λus s2⟨vs,aj,bT,df,cj⟩=>hm pins s2 σ aj x vs v us Q bT b' df cj
end
noncomputable def UI(X:bB)(id:String)(r:V->List V->aa->bl->Prop):Prop:=
 ∀(pins:cG)(s:aF)(σ:St)(H:aa)(x:V)(xs:a')(v:Value)(us:b_)(Q:bl),Inv X pins σ H s->RelV x v->cp xs us->r x xs H Q->
  aM (ba X.prog X.w) X.A (call (.builtin id) (v::us)) (hG X pins σ Q) X.dD s
theorem cp.one:∀{x:V}{us:b_},cp [x] us->∃u,us=[u]/\RelV x u
 |_,_,.cons r .nil=>⟨_,rfl,r⟩
section
variable{X:bB}{pins:cG}{σ:St}{H:aa}{s:aF}{l b:Addr}{xs ys zs:a'}
theorem Inv.Y0{its its':b_}{n:Nat}{f:Array Value->Array Value}{t':Nat}(I:Inv X pins σ H s)(i5:H l=some (.lst xs))(e:s.heap.get? l=some {cls:=.type "list",data:=.seq its.toArray n})(hf:f its.toArray=its'.toArray)(bI:cp ys its')(hz:ys.length<=sizeLine):
  Inv X pins σ (upd H l (.lst ys)) {s with heap:=s.heap.update l (jI f),toks:=t'}:=by have q:=PySem.IsL.update e f;rw[hf]at q;refine I.write (x:=l) (e:=l) (by rw[i5];exact trivial) (.inl rfl) (λa7 u U cJ=>(ox s.heap (jI f) (d8 U)).trans cJ) ⟨_,q⟩ ?_;exact⟨hz,its',_,bI,q⟩
theorem Inv.YY{its:b_}{t':Nat}(I:Inv X pins σ H s)(bI:cp ys its)(hz:ys.length<=sizeLine):
  Inv X pins σ (upd H s.heap.objs.size (.lst ys)) {s with heap:=s.heap.push {cls:=.type "list",data:=.seq its.toArray},toks:=t'}:=
 I.laid (λ_ _ q=>c6 _ q) (b1 _) ⟨hz,its,0,bI,ff _ rfl⟩
theorem Inv.fresh(I:Inv X pins σ H s):H s.heap.objs.size=none:=I.bo.fresh (b1 _)
theorem Inv.Ci(I:Inv X pins σ H s)(i5:H l=some (.lst xs)):xs.length<=sizeLine/\∃(its:b_)(n:Nat),cp xs its/\xs.length=its.length/\s.heap.get? l=some {cls:=.type "list",data:=.seq its.toArray n}:=by obtain⟨z,its,n,r,e⟩:=I.bo l _ i5;exact⟨z,its,n,r,r.length,e⟩
theorem aaA{n:Nat}(h:n<=sizeLine):SA n=false:=by unfold SA;exact eM (by omega)
end
section
variable{X:bB}
inductive aaB(x:V)(vs:a')(H:aa)(Q:bl):Prop where
 |mk (l:_) (xs:_) (y:_) (b0:x=.ref l) (bH:vs=[y]) (cu:H l=some (.lst xs)) (cS:xs.length<sizeLine) (dw:Q .bV (upd H l (.lst (xs++[y]))))
noncomputable def ac5:V->List V->aa->bl->Prop:=λx vs H Q=>aaB x vs H Q
theorem mJ:UI X "list.append" ac5:=by intro pins s σ H x vs v us Q I bC cg h;obtain⟨l,xs,y,rfl,rfl,i5,hz,q⟩:=h;cases bC;obtain⟨u,rfl,eA⟩:=cg.one;obtain⟨z,its,n,r,aq,e⟩:=I.Ci i5;refine call_meets F.slot_list_append ⟨_,e,rfl⟩ F.entry_list_append (F.args_list_append_2 _ _) (PySem.list_append l its.toArray n u (by rw[ek];omega)) ⟨e,?_⟩;refine⟨.bV,_,I.Y0 (its':=its++[u]) i5 e (by simp) (r.append (.cons eA .nil)) ?_,rfl,q⟩;rw[e8,List.length_singleton];omega
inductive aaE(x:V)(vs:a')(H:aa)(Q:bl):Prop where
 |mk (l:_) (b:_) (xs:_) (zs:_) (b0:x=.ref l) (bH:vs=[.ref b]) (cu:H l=some (.lst xs)) (cS:H b=some (.lst zs)) (dw:xs.length+zs.length<=sizeLine) (en:Q .bV (upd H l (.lst (xs++zs))))
noncomputable def ac6:V->List V->aa->bl->Prop:=λx vs H Q=>aaE x vs H Q
theorem ara:UI X "list.extend" ac6:=by
 intro pins s σ H x vs v us Q I bC cg h;obtain⟨l,b,xs,zs,rfl,rfl,i5,Bt,hz,q⟩:=h;cases bC;obtain⟨u,rfl,eA⟩:=cg.one;cases eA;obtain⟨z,its,n,r,aq,e⟩:=I.Ci i5;obtain⟨bH,tb,ew,df,sZ,az⟩:=I.Ci Bt;have hsz:its.toArray.size+tb.toArray.size<=sizeLine:=by rw[ek,ek];omega
 have al9:¬(!its.toArray.isEmpty&&SA (its.toArray.size+tb.toArray.size))=true:=by rw[aaA hsz,Bool.and_false];exact fz
 refine call_meets F.slot_list_extend ⟨_,e,rfl⟩ F.entry_list_extend (F.args_list_extend_2 _ _)
  (AutoSeq1.list_extend_list_list_0 l its.toArray n b tb.toArray ew al9 (by rw[ek];omega) (by omega)) ⟨e,az,?_⟩
 refine⟨.bV,_,I.Y0 (its':=its++tb) i5 e (by simp) (r.append df) ?_,rfl,q⟩;rw[e8];omega
inductive agf(x:ar.V)(y:ar.V)(H:aa)(Q:bl):Prop where
 |mk (l:_) (b:_) (xs:_) (zs:_) (b0:x=.ref l) (bH:y=.ref b) (cu:H l=some (.lst xs)) (cS:H b=some (.lst zs)) (dw:xs.length+zs.length<=sizeLine) (en:∀p,H p=none->Q (.ref p) (upd H p (.lst (xs++zs))))
noncomputable def aie:gQ:=λx y H Q=>agf x y H Q
theorem afb:fZ X (p6 .Add) aie:=by
 intro pins s σ H x y v u Q I bC bW h;obtain⟨l,b,xs,zs,rfl,rfl,i5,Bt,hz,q⟩:=h;cases bC;cases bW;obtain⟨z,its,n,r,aq,e⟩:=I.Ci i5;obtain⟨bH,tb,ew,df,sZ,az⟩:=I.Ci Bt;refine PySem.P.add_list e az ?_ (by rw[ek,ek];omega);have bw:its.toArray++tb.toArray=(its++tb).toArray:=by simp
 rw[bw];exact⟨.ref _,_,I.YY (t':=s.toks) (r.append df) (by rw[e8];omega),rfl,q _ I.fresh⟩
end
end ar
namespace Sb
open PySem PySem.W PySem.Calls PyProof.Rows
theorem aoj{P:Params}{h:Heap}:∀(ns:fh)(vs:b_),WellAll P h vs (ns.map WData.int)->Ek vs ns:=by
 intro ns
 induction ns with
 |nil=>
  intro vs w;rw[Jw]at w;cases w;exact .nil
 |cons n ns bk=>
  intro vs w;rw[gk]at w;cases w with
  |cons a b=>
   cases a;exact .cons _ _ (bk _ b)
theorem Ŗ{l:OpenLaw}{n:Nat}(aD:l.most=some n){P:Params}{h:Heap}{args:List WData}{vals:b_}(Gf:l.row.toRowW.claim.pre args=true)(Nv:WellAll P h vals args):
  ∃a vs ns,vals=[dA a]/\args=[WData.list (ns.map WData.int)]/\h.get? a=some {cls:=.type "list",data:=.seq vs.toArray}/\Ek vs ns/\ns.length<=n:=by
 have mS:WShape.hasAll [] args [.list .int]=true:=(pre_splitW Gf).1;have aC:l.pre.holds [] {args:=args}=true:=(pre_splitW Gf).2;obtain⟨d,r,rfl,ag,af⟩:=hasAllW_cons mS;obtain rfl:=hasAllW_nil af;obtain⟨xs,rfl,aV⟩:=hasW_list ag;obtain⟨ns,rfl⟩:=items_int aV;have hlen:ns.length<=n:=by
  unfold OpenLaw.pre at aC;have bU:(WTm.not (.lt (.lit (.int (n:Int))) (.len (.arg 0)))).holds [] {args:=[.list (ns.map .int)]}=true:=by have bU:=(holds_andW aC).1;rw[aD]at bU;exact bU
  have dq:=condW_of bU (w_not (w_lt w_lit (w_len_list (w_arg rfl))));rw[bh]at dq;refine Nat.le_of_not_lt λq=>?_;have dj:(n:Int)<((ns.length:Nat):Int):=by omega
  first
   | (rw[dU dj]at dq;exact bE dq (by decide))
   | (simp at dq;omega)
 cases Nv with
 |cons gO hV=>
  cases hV;cases gO with
  |list aR MD=>exact⟨_,_,ns,rfl,rfl,aR,aoj ns _ MD,hlen⟩
theorem ŗ(l:OpenLaw)(args:List WData):l.row.toRowW.claim.post args (.bool true) args=true:=
 postW_of (r:=l.row.toRowW) (X:=(true==true))
  (show WShape.has [] (.bool true) .bool=true by first|rfl|decide|simp[WShape.has,WShape.arms,WShape.armsAll])
  (show(WTm.eq .res (.lit (.bool true))).value [] {args:=args,res:=some (.bool true),after:=args}=some (.bool (true==true))from w_eq_bool (w_res rfl) w_lit) rfl
theorem aiQ{l:OpenLaw}{n:Nat}{q:bP}{loose:bR}{w1:cN->Heap->Prop}{sx:bt->Heap->Prop}{d:DefRec}(aD:l.most=some n)(BA:d.params.defaults=[])(call:∀(w:bt)(h4 dH:aF)(ae n7:cN)(g7:Addr)(o:Obj)(pm cd doc:Value)(a:Addr)(vs:b_)(ns:fh),
   Ground q loose [] w1 w h4 ae n7 dH.heap->sx w dH.heap->
   dH.heap.get? g7=some o->o.data=.func (docDef d.name d.params d.body d.scope pm cd doc)->dH.heap.CodeRec cd d.name->ae d.name=some (.ref g7)->
   dH.heap.get? a=some {cls:=.type "list",data:=.seq vs.toArray}->Ek vs ns->ns.length<=n->dH.gens=#[]->
   k9 (ba l.prog w) w8 (.call (.ref g7) ⟨[.ref a],[]⟩) (λr s'=>r=.ok (.ret (.bool true))/\OldK dH.heap s'.heap/\s'.os=dH.os/\qW s'.gens) dH):
  WalkO q loose w1 sx l.row.toRowW d [] (λf vs=>Vp f vs):=by intro w h4 dH ae n7 G Y g7 o pm cd doc E9 di aR hd lr ck BM bx args vals as Gf arx Gg Nv ary;obtain rfl:E9=.none:=Dflts.none ck BA;obtain rfl:di=.none:=Dflts.noKw ck;obtain⟨a,vs,ns,rfl,rfl,Nb,hints,hlen⟩:=Ŗ aD Gf Nv;refine enter_call (qa (call w h4 dH ae n7 g7 o pm cd doc a vs ns G Y aR (fd_plain hd) lr BM Nb hints hlen bx) λr s' bp=>?_);obtain⟨rfl,af,aV,bU⟩:=bp;exact⟨.inl ⟨.bool true,.bool true,[],rfl,λ_=>rfl,.bool true,ŗ l _,λ_=>⟨Jq,λ_ hm=>(nomatch hm)⟩⟩,af,aV,bU⟩
end Sb
namespace ar
open PySem PySem.Spec PyProof.Rows
theorem Ρ:∀{vs:b_}{ns:fh},Ek vs ns->cp (ns.map V.int) vs
 |_,_,.nil=>.nil
 |_,_,.cons n t h=>.cons ⟨t,rfl⟩ (Ρ h)
noncomputable def JN(H:aa):Prop:=∀b,H b=none\/∃o xs,H b=some (.ee o (.lst xs))
theorem aaF{P:bP}{w:bt}{K:aY}{ae n7:cN}{CX:lT}{k:Nat}{g7 a:Addr}{fd:c1}{x:Str}{sp:c9}{dH:aF}{vs:b_}{ns:fh}(pM:K.In dH.heap)(M':dH.heap.Ns dc ae)(U:dH.heap.Ns Wk n7)(MI:∀x:Str,x≠"__name__"->n7 x=jn x)(al8:dH.heap.NoLimit)(bx:dH.gens=#[])(aH:dH.heap.get? a=some {cls:=.type "list",data:=.seq vs.toArray})(ai:Ek vs ns)(aq:ns.length<=sizeLine)(ay:gf k w8)(F:∀base:Heap,K.In base->base.Ns dc ae->a4 P w K ae base CX k g7 fd [x] sp)(alF:∀(s:aF)(u:Value),ze s fd ⟨[u],[]⟩ [(x,u)])(nW:∀H:aa,JN H->aS K H a (ns.map V.int)->sp [.ref a] H (λv _=>v=.bf true) λ_ _ _=>False)(Mp:∀H e s',CX [] H dH (λ_ _ _=>False) e s'->False):
  k9 (ba P w) w8 (.call (.ref g7) ⟨[.ref a],[]⟩) (λr s'=>r=.ok (.ret (.bool true))/\OldK dH.heap s'.heap/\s'.os=dH.os/\qW s'.gens) dH:=by
 have cg:=Ρ ai;have amY:=ai.length;have core:∀H:aa,JN H->aS K H a (ns.map V.int)->fC P w H dH.heap->(∀b,H b≠none->b=a)->(H a≠none->K.lookup a=none)->
   k9 (ba P w) w8 (.call (.ref g7) ⟨[.ref a],[]⟩) (λr s'=>r=.ok (.ret (.bool true))/\OldK dH.heap s'.heap/\s'.os=dH.os/\qW s'.gens) dH:=by
  intro H FY cP bo qi fa;have Wj:∀{b:Addr}{o:Obj},dH.heap.get? b=some o->H b=none->(rZ dH.heap H).get? b=some o:=λe n=>aaW e n;have CC:∀{b:Addr}{o:Obj}{es:Array r_}{ep:Nat},dH.heap.get? b=some o->o.data=.dict es ep->H b=none:=λ{b o es ep}e d=>by
   cases q:H b with
   |none=>rfl
   |some u=>
    have b9:b=a:=qi b (by rw[q];simp);subst b9;rw[aH]at e;cases e;have d':Data.seq vs.toArray _=Data.dict es ep:=d;cases d'
  have GX:∀{b:Addr}{m:cN},dH.heap.Ns b m->(rZ dH.heap H).Ns b m:=λ{b m}⟨o,es,ep,e,d,r⟩=>⟨o,es,ep,Wj e (CC e d),d,r⟩
  have XI:K.In (rZ dH.heap H):=λb o e=>Wj (pM b o e) (by
   cases q:H b with
   |none=>rfl
   |some u=>
    have b9:b=a:=qi b (by rw[q];simp);subst b9;rw[fa (by rw[q];simp)]at e;cases e)
  have alw:Mod K ae (rZ dH.heap H):=⟨XI,GX M',⟨n7,GX U,MI⟩,let⟨am7,ag,af⟩:=al8;⟨am7,GX ag,af⟩⟩
  have cI:tX P w K ae (rZ dH.heap H) w8 [] dH H:=⟨rfl,alw,λb o e=>acp e,JI (ū _ _),trivial,λb U=>bE (show b∈([]:b4)from U) (by simp),bo,.of_eq bx⟩
  refine qa ((F _ XI (GX M')).run w8 [] dH H ⟨[.ref a],[]⟩ [.ref a] [.ref a] _ _ ay cI (alF dH (.ref a)) (.cons rfl .nil) (nW H FY cP)) λr s' h=>?_;cases r with
  |error e=>exact(Mp H e s' h).elim
  |ok fI=>
   cases fI with
   |next=>exact h7 h
   |brk=>exact h7 h
   |cont=>exact h7 h
   |ret u=>
    obtain⟨v,H',os,bare,un,amk,cB,q⟩:=h;have dj:v=.bf true:=q;subst dj;obtain rfl:u=Km true:=cB;refine⟨rfl,OldK.of_keep λb o e=>?_,os,bare⟩;cases q:H b with
    |none=>exact un.keep b o e q (by intro z;exact bE (show b∈([]:b4)from z) (by simp)) (by simp)
    |some u=>
     rcases FY b with z|⟨ob,xs,z⟩
     .rw[q]at z;cases z
     .have bH:=un.jt b ob _ z;obtain⟨ax,_⟩:=bo b _ z;obtain⟨az,_⟩:=amk b _ bH;rw[e]at ax;cases ax;exact az
 cases aE:K.lookup a with
 |some o=>
  have e:=pM a o aE;rw[aH]at e;cases e;refine core (λ_=>none) (λ_=>.inl rfl) (.inr ⟨_,vs.toArray,_,aE,rfl,rfl,rfl,by rw[ek,amY];exact aq,by simpa using cg⟩) (λb u z=>by have dz:(none:Option d4)=some u:=z;cases dz) (λb z=>bE rfl z) λz=>bE rfl z
 |none=>
  refine core (λb=>if b=a then some (.ee {cls:=.type "list",data:=.seq vs.toArray} (.lst (ns.map V.int)))else none) (λb=>?_) (.inl (.inr ⟨{cls:=.type "list",data:=.seq vs.toArray},aO rfl⟩)) (λb u z=>?_) (λb z=>?_) λ_=>aE
  .by_cases U:b=a
   .exact .inr ⟨_,_,aO U⟩
   .exact .inl (aJ U)
  .by_cases U:b=a
   .have dz:=(aO U).symm.trans z;cases dz;subst U;exact⟨aH,by rw[bh];exact aq,vs,_,cg,aH⟩
   .have dz:=(aJ U).symm.trans z;cases dz
  .by_cases U:b=a
   .exact U
   .exact bE (aJ U) z
noncomputable abbrev aqH{K:aY}{h:Heap}(_:K.In h):aY:=K
theorem apw{l:Ve}{n k:Nat}{q:bP}{loose:bR}{w1:cN->Heap->Prop}{sx:bt->Heap->Prop}{d:DefRec}{K:Params->aY}{CX:bt->lT}{sp:bt->c9}{x:Str}(aD:l.most=some n)(BN:n<=sizeLine)(BA:d.params.defaults=[])(ay:gf k w8)(MA:∀(w:bt)(h:Heap),sx w h->(K w.params).In h)(F:∀(w:bt)(ae:cN)(g7:Addr)(h:Heap),(K w.params).In h->h.Ns dc ae->ae d.name=some (.ref g7)->
   ∃fd:c1,(∀(s:aF)(u:Value),ze s fd ⟨[u],[]⟩ [(x,u)])/\
    ∀base:Heap,(K w.params).In base->base.Ns dc ae->a4 l.prog w (K w.params) ae base (CX w) k g7 fd [x] (sp w))(nW:∀(w:bt)(H:aa)(a:Addr)(ns:fh),ns.length<=n->JN H->aS (K w.params) H a (ns.map V.int)->sp w [.ref a] H (λv _=>v=.bf true) λ_ _ _=>False)(Mp:∀(w:bt)(H:aa)(s:aF)(e:Value)(s':aF),CX w [] H s (λ_ _ _=>False) e s'->False):
  adL q loose w1 sx l.row.toRowW d [] (λf vs=>Vp f vs):=by refine Sb.aiQ aD BA λw h4 dH ae n7 g7 o pm cd doc a vs ns G Y aR hd lr BM Nb hints hlen bx=>?_;have pM:=MA w _ Y;obtain⟨fd,U,uW⟩:=F w ae g7 _ pM G.T.g BM;exact aaF pM G.T.g G.T.b G.T.builtins G.T.nolimit bx Nb hints (hc hlen BN) ay uW U (λH FY cP=>nW w H a ns hlen FY cP) λH e s'=>Mp w H dH e s'
noncomputable def i8(s:Stmt)(j:Nat):Stmt:=match s with
 |.ClassDef _ _ _ body _ _ _ _ _ _ _=>body.getD j (.Pass ⟨0,0,0,0⟩)
 |_=>.Pass ⟨0,0,0,0⟩
noncomputable def CI(s:Stmt):Arguments:=match s with
 |.FunctionDef _ a _ _ _ _ _ _ _ _=>a
 |_=>{posonlyargs:=[],args:=[],vararg:=none,kwonlyargs:=[],kw_defaults:=[],kwarg:=none,defaults:=[]}
noncomputable def tc(s:Stmt):List Stmt:=match s with
 |.FunctionDef _ _ b _ _ _ _ _ _ _=>b
 |_=>[]
noncomputable def dx(s:Stmt):Scope:=match s with
 |.FunctionDef _ _ _ _ _ _ sc _ _ _=>sc
 |_=>{kind:=.function,names:=[],isGenerator:=false,isCoroutine:=false}
noncomputable abbrev bu:lT:=λ_ _ _ _ _ _=>False
noncomputable abbrev v9:cE:=λ_ _ _=>False
theorem dQ{X:bB}:qs bu X v9:=λ_ _ _ _ _ _ _ h=>h.elim
structure b6(K:aY)(x cn:Str)(st:Stmt)(f:Addr)(fd:c1):Prop where
 ex:∃(lF:Value)(cR:Option Addr)(di doc pm:Value)(an:Option Addr)(bK fU:Value)(oc:ka),
  fd=wX x cn (CI st) (tc st) (dx st) .none di doc pm an bK fU/\K.lookup f=some ⟨lF,cR,.func fd,oc⟩/\Vf K bK cn=true
 cT:pX K (.ref f)=true
section
variable{P:bP}{w:bt}{K:aY}{ae:cN}{base:Heap}
theorem b6.ok{x cn:Str}{st:Stmt}{f:Addr}{fd:c1}{N ps:bR}{k:Nat}{sp:c9}(F:b6 K x cn st f fd)(S:d0 N ps (dx st))(len:∀vs H Q E,sp vs H Q E->vs.length=ps.length)(uZ:∀(bK:Value)(A:cU)(outer:List Env)(s:aF)(H:aa)(vs:a')(Q:bl)(E:cE),gf k (A.deeper (qd cn (dx st) s.heap.objs.size f bK))->sp vs H Q E->
   ∃t,hI (j0 bu P w K ae base N cn (dx st) f bK A outer s H E).vr (tc st) t/\t {cy:=λ_ H'=>Q .bV H',rt:=Q} (start N vs) H):a4 P w K ae base bu (k+1) f fd ps sp:=by obtain⟨lF,cR,di,doc,pm,an,bK,fU,oc,rfl,lk,lr⟩:=F.ex;refine Jj lk lr S len λA outer s H vs Q E ay nW=>?_;obtain⟨t,h,q⟩:=uZ bK A outer s H vs Q E ay nW;exact⟨t,h.vr,q⟩
theorem b6.binds{x cn:Str}{st:Stmt}{f:Addr}{fd:c1}{ps:bR}(F:b6 K x cn st f fd)(h:∀(di doc pm:Value)(an:Option Addr)(bK fU:Value)(us:b_),us.length=ps.length->bindArgs (wX x cn (CI st) (tc st) (dx st) .none di doc pm an bK fU) ⟨us,[]⟩=pure (ps.zip us)):Binds K fd ps []:=by obtain⟨lF,cR,di,doc,pm,an,bK,fU,oc,rfl,lk,lr⟩:=F.ex;exact .all (h di doc pm an bK fU)
theorem ej{x cn:Str}{st:Stmt}{f:Addr}{lF:Value}{cR an:Option Addr}{oc:ka}{di doc pm bK fU:Value}(l:K.lookup f=some ⟨lF,cR,.func (wX x cn (CI st) (tc st) (dx st) .none di doc pm an bK fU),oc⟩)(c:Vf K bK cn=true)(k:pX K (.ref f)=true):b6 K x cn st f (wX x cn (CI st) (tc st) (dx st) .none di doc pm an bK fU):=⟨⟨lF,cR,di,doc,pm,an,bK,fU,oc,rfl,l,c⟩,k⟩
theorem ju{A:cU}{k:Nat}(ay:gf k A):A.units+1<cLine:=mx (Nat.add_le_add_left (by decide:1<=64) _) ay.units
theorem e1{n:Nat}(h:n<=1000):n<sizeLine:=mx h (by decide)
end
section
variable{X:bB}
theorem ah(i:Nat){x:Str}{pos:Pos}(fJ:X.N[i]?=some x:=by rfl)(bI:Ko X.env.scope x:=by first|exact cY rfl|exact nv (cY rfl)|exact nv (nv rfl))(hd:(x==("__debug__":Str))=false:=by decide)(lr:(x==("__classdict__":Str))=false:=by decide):bN X (.Name x pos) (V1 i):=aeI fJ bI hd lr
theorem lD{A B:Prop}(h:B):if false=true then A else B:=by rw[aJ fz];exact h
theorem kH{A B:Prop}(h:A):if true=true then A else B:=by rw[aO rfl];exact h
theorem J9{c A B:Prop}[Decidable c](ag:c->A)(af:¬c->B):if c then A else B:=by
 by_cases h:c
 .rw[aO h];exact ag h
 .rw[aJ h];exact af h
theorem Jk{c A B:Prop}[Decidable c](aC:c)(h:B):if(!decide c)=true then A else B:=by rw[dU aC];exact lD h
noncomputable def aT(H H':aa):Prop:=∀b o,H b=some o->H' b=some o
theorem aT.refl(H:aa):aT H H:=λ_ _ h=>h
theorem aT.trans{H H1 aj:aa}(a:aT H H1)(b:aT H1 aj):aT H aj:=λc o h=>b c o (a c o h)
theorem aT.free{H H':aa}(e:aT H H'){l:Addr}(h:H' l=ac4):H l=ac4:=by
 cases q:H l with
 |none=>rfl
 |some o=>
  rw[e l o q]at h;cases h
theorem aT.seq{K:aY}{H H':aa}{a:Addr}{xs:a'}(e:aT H H')(h:aS K H a xs):aS K H' a xs:=by
 rcases h with(h|⟨o,h⟩)|h
 .exact .inl (.inl (e _ _ h))
 .exact .inl (.inr ⟨o,e _ _ h⟩)
 .exact .inr h
set_option maxHeartbeats 4000000
end
end ar
namespace cK
open PySem PySem.Spec PyProof.Rows ar
noncomputable abbrev St:=ar.St
noncomputable abbrev V:=ar.V
noncomputable abbrev pU:Value->aF->Prop:=λ_ _=>False
theorem ac7{α:Type}{M:oD}{A:cU}{t:Sem α}{Q:α->aF->Prop}{E:cx}{s:aF}(h:aM M A t Q pU s):aM M A t Q E s:=
 e6 h (λ_ _ q=>q) λ_ _ z=>h7 z
theorem ě{prog:bP}{w:bt}{A:cU}{R:q7->aF->Prop}{s:aF}{elt dI iter:Expr}{ifs:gm}{scope:Scope}{pos:Pos}{it acc:Value}{env:Env}(I:Nat->aF->Prop)(turn:∀n s,I n s->aM (ba prog w) A (iP it) (λr s1=>match r with
   |none=>R (.ok .next) s1
   |some v=>aM (ba prog w) A (Oq dI it v) (λ_ s2=>aM (ba prog w) A (w3 dI env v) (λ_ s3=>
     aM (ba prog w) A (forIn ifs true λc r=>if r=true then do let ok <-BZ c env (eval c env);pure (I7 ok)else pure (I7 r)) (λok s4=>
      if ok=true then aM (ba prog w) A (eval elt env) (λx s5=>aM (ba prog w) A (call (.builtin "list.append") [acc,x]) (λ_ ip=>∃m,m<n/\I m ip) pU s5) pU s4
      else∃m,m<n/\I m s4) pU s3) pU s2) pU s1) pU s)(n:Nat)(h:I n s):k9 (ba prog w) A (.compLoop (.ListComp elt [⟨dI,iter,ifs,0⟩] scope pos) 0 it acc env) R s:=by
 refine codeAny_loop rfl I (λn s FV=>?_) n h;show aM _ A ((compTurn (.ListComp elt [⟨dI,iter,ifs,0⟩] scope pos) 0 it acc env).onRaise (λx=>do OZ x env;theTreesLotGoes x)) _ _ s;refine wpAny_noted (ac7 ?_);rw[compTurn_list];refine au (H8 (au (e6 (turn n s FV) (λr s1 ag=>?_) λ_ _ z=>z)));cases r with
 |none=>exact a9 ag
 |some v=>
  refine au (e6 ag (λ_ s2 af=>au (e6 af (λ_ s3 aV=>au (e6 aV (λok s4 bU=>?_) λ_ _ z=>z)) λ_ _ z=>z)) λ_ _ z=>z);cases ok with
  |false=>exact a9 ⟨rfl,bU⟩
  |true=>exact au (au (e6 bU (λx s5 dq=>au (e6 dq (λ_ ip rk=>a9 (a9 ⟨rfl,rk⟩)) λ_ _ z=>z)) λ_ _ z=>z))
noncomputable def gW(cs:jj)(σ:St):St:=cs.map λo=>o.bind λj=>(σ[j]?).bind id
noncomputable def n0(X:bB)(N':bR)(scope:Scope)(cl:List (Str×Addr))(C:Addr)(s3:aF)(bL:aa)(cw:b4)(d_:cG):bB:=
 {X with N:=N',h4:=s3,lV:=bL,env:=compEnvC scope cl C X.env,outer:=X.stack,stack:=X.stack,ex:=cw,fn:=λ_=>false,d_:=d_,dD:=λ_ _=>False}
noncomputable def DW(k:Option uk):Prop:=k=some .cell\/k=some .free
inductive oe(X:bB)(scope:Scope)(cl:List (Str×Addr)):List Str->List (Option Nat)->Prop
 |nil:oe X scope cl [] []
 |own {x N cs}:oe X scope cl N cs->oe X scope cl (x::N) (none::cs)
 |jO {x j N cs} (ag:X.N[j]?=some x) (af:DW (X.env.kindOf x)) (aV:DW ((Hk scope X.env).names.lookup x)) (bU:cl.lookup x=X.env.cells.lookup x):
   oe X scope cl N cs->oe X scope cl (x::N) (some j::cs)
theorem oe.len{X:bB}{scope:Scope}{cl:List (Str×Addr)}{N cs}(h:oe X scope cl N cs):cs.length=N.length:=by
 induction h with
 |nil=>rfl
 |own _ bk=>simp[bk]
 |jO _ _ _ _ _ bk=>simp[bk]
theorem oe.get{X:bB}{scope:Scope}{cl:List (Str×Addr)}{N cs}(h:oe X scope cl N cs){σ:St}:∀{i:Nat}{x:Str}{v:V},N[i]?=some x->(gW cs σ)[i]?=some (some v)->
  ∃j:Nat,X.N[j]?=some x/\σ[j]?=some (some v)/\DW (X.env.kindOf x)/\DW ((Hk scope X.env).names.lookup x)/\cl.lookup x=X.env.cells.lookup x:=by
 induction h with
 |nil=>intro i x v ag af;simp at ag
 |own _ bk=>
  intro i x v ag af;cases i with
  |zero=>simp[gW]at af
  |succ i=>exact bk (i:=i) (by simpa using ag) (by simpa[gW]using af)
 |@jO y j N cs a1 a2 gn iZ _ bk=>
  intro i x v ag af;cases i with
  |zero=>
   simp at ag;subst ag;refine⟨j,a1,?_,a2,gn,iZ⟩;simp[gW]at af;cases q:σ[j]? with
   |none=>rw[q]at af;simp at af
   |some o=>
    rw[q]at af;simp at af;rw[af]
  |succ i=>exact bk (i:=i) (by simpa using ag) (by simpa[gW]using af)
noncomputable def ED(cl:List (Str×Addr))(names:List (Str×uk)):Bool:=names.all λy=>(y.2 !=.cell&&y.2 !=.free)||(cl.lookup y.1).isSome
theorem aaG{cl:List (Str×Addr)}{names:List (Str×uk)}(h:ED cl names=true){x:Str}(k:DW (names.lookup x)):∃c,cl.lookup x=some c:=by
 have key:∀q:uk,names.lookup x=some q->(q=.cell\/q=.free)->∃c,cl.lookup x=some c:=λq e bp=>by
  have m:=Eo.mp h (x,q) (Ap e);rcases bp with rfl|rfl
  .exact Ag.mp (by simpa using m)
  .exact Ag.mp (by simpa using m)
 rcases k with k|k
 .exact key _ k (.inl rfl)
 .exact key _ k (.inr rfl)
noncomputable def zP(X:bB)(ifs:gm)(t:TT):Prop:=
 ∀(pins:cG)(s:aF)(σ:St)(H:aa)(Q:Bool->aa->Prop),Inv X pins σ H s->t σ H Q->
  aM (ba X.prog X.w) X.A (forIn ifs true λc r=>if r=true then do let ok <-BZ c X.env (eval c X.env);pure (I7 ok)else pure (I7 r)) (EZ X pins σ Q) X.dD s
noncomputable def px:TT:=λ_ H Q=>Q true H
theorem mK{X:bB}:zP X [] px:=λ_ _ _ H _ I h=>wpAny_tests_nil ⟨H,I,h⟩
theorem ve{X:bB}{c:Expr}{t:TT}(h:kW X c t):zP X [c] t:=λpins s σ H Q I q=>wpAny_tests_one (h pins s σ H Q I q)
noncomputable def kM(wi:TI)(cs:jj)(g:eK)(tt:TT)(b3:TE):TE:=λσ H Q=>wi σ H λJ H1=>∀D,H1 D=none->
 ∃W:Nat->Nat->List V->St->aa->Prop,(∃m,W 0 m [] (gW cs σ) (upd H1 D (.lst [])))/\∀i m ys a_ H',W i m ys a_ H'->H' D=some (.lst ys)/\ys.length<sizeLine/\
  ((J.stop i H'/\Q (.ref D) H')\/(J.go i H'/\∀x aj,J.ni i H' x aj->g x a_ aj λgr bL=>tt gr bL λb eP=>
   if b=true then b3 gr eP λy bY=>bY D=some (.lst ys)/\∃c5,c5<m/\W (i+1) c5 (ys++[y]) gr (upd bY D (.lst (ys++[y])))
   else∃c5,c5<m/\W (i+1) c5 ys gr eP))
section
variable{X:bB}{elt dI iter:Expr}{ifs:gm}{scope:Scope}{pos:Pos}{N':bR}{cs:jj}{cl:List (Str×Addr)}{wi:TI}{g:eK}{tt:TT}{b3:TE}
theorem TL{use:Option (Value->Sem Unit)}{QQ:cx}{pins:cG}{s:aF}{σ:St}{H:aa}{Q:bl}{ak6:Pos}(aC:X.calm=true)(ai:my X dI iter wi)(Bx:Wo scope X.env=pure cl)(sW:∀y∈scope.names,y.2≠.cell)(ro:scope.kind=.function)(BO:∀y∈scope.names,y.2=.local->scope.names.lookup y.1=some .local)(nX:∀x c,cl.lookup x=some c->X.env.cells.lookup x=some c)(bo:ED cl (Hk scope X.env).names=true)(xC:oe X scope cl N' cs)(U:∀(C:Addr)(s3:aF)(bL:aa)(cw:b4)(d_:cG),pV (n0 X N' scope cl C s3 bL cw d_) dI g/\zP (n0 X N' scope cl C s3 bL cw d_) ifs tt/\bN (n0 X N' scope cl C s3 bL cw d_) elt b3)(hs:∀x,Mb iter X.env x=pure x:=by intro _;rfl)(I:Inv X pins σ H s)(h:kM wi cs g tt b3 σ H Q)(post:∀(D C:Addr)(s4:aF)(H':aa)(m:cN),Inv X pins σ H' s4->s4.heap.Ns C m->tS X pins H' C->Q (.ref D) H'->compPost (ba X.prog X.w) X.A X.dD use QQ (.ref D) C (.ok .next) s4):
  aM (ba X.prog X.w) X.A (comprehension (.ListComp elt [⟨dI,iter,ifs,0⟩] scope pos) scope X.env ak6 (newList []) false (eval iter X.env) use) QQ X.dD s:=by
 refine wpAny_comprehension_free (use:=use) rfl hs Bx ro BO (bS (ai pins s σ H _ I h) λv s1 ag=>bS ag λN3 s2 af=>?_);obtain⟨it,cw,hU,J,aj,rfl,bT,T,HJ,f2,cj⟩:=af;refine nh (wpAny_newFunctionEnv sW (by intro y aZ;simp at aZ) (λag M_ Nl=>?_) ro);dsimp only at M_ Nl⊢;have c_:Inv X pins σ (upd aj s2.heap.objs.size (.lst [])) {s2 with heap:=s2.heap.push {cls:=.type "list",data:=.seq ([]:b_).toArray},toks:=s2.toks}:=bT.YY (its:=[]) (ys:=[]) .nil (dM _);have alq:aj s2.heap.objs.size=none:=bT.fresh;obtain⟨W,⟨m0,DB⟩,turn⟩:=cj _ alq;generalize XH:s2.heap.push {cls:=.type "list",dict:=none,data:=.seq ([]:b_).toArray}=aV at M_ Nl c_⊢;have YB:aV.objs.size=s2.heap.objs.size+1:=by rw[<-XH,t6]
 generalize ck:s2.heap.objs.size=D at *;have kept:∀b o,aV.get? b=some o->ag.get? b=some o:=λb o e=>Nl.extBut b o (dP (dm e)) (c6 _ e);have old:∀b o,s2.heap.get? b=some o->aV.get? b=some o:=λb o e=>by rw[<-XH];exact c6 _ e
 have FI:∀b∈cw,b<D:=λb c2=>by obtain⟨o,e,_⟩:=T.obj 0 _ HJ b c2;rw[<-ck];exact dm e
 have Xi:∀b∈cw,b∉f9 X.stack:=λb c2 z=>by
  obtain⟨_,f1,dB,_⟩:=f2 b c2;rcases fp.mp (bT.Dg b z)with e|e
  .exact f1 e
  .exact dB e
 generalize nR:n0 X N' scope cl aV.objs.size {s2 with heap:=aV,toks:=s2.toks} (upd aj D (.lst [])) cw (X.d_++pins)=jL;obtain⟨bx,Yf,he⟩:=U aV.objs.size {s2 with heap:=aV,toks:=s2.toks} (upd aj D (.lst [])) cw (X.d_++pins);rw[nR]at bx Yf he;have uM:jL.prog=X.prog:=by rw[<-nR];rfl
 have uO:jL.w=X.w:=by rw[<-nR];rfl
 have Wu:jL.K=X.K:=by rw[<-nR];rfl
 have Wt:jL.calm=X.calm:=by rw[<-nR];rfl
 have j7:Inv jL [] (gW cs σ) (upd aj D (.lst [])) {s2 with heap:=ag,toks:=s2.toks+0}:=by
  rw[<-nR];refine⟨⟨c_.ok.mod,ro,c_.ok.glob,c_.ok.blt,b1 _,λx y c ax az=>c_.ok.inj x y c (nX _ _ ax) (nX _ _ az),λx ao=>aaG bo ao,λx c z _=>bE (show false=true from z) fz,c_.ok.hd,c_.ok.frames,.inl rfl,
   λb c2=>⟨λe=>?_,λx c e=>(f2 b c2).2.2.2.2.1 x c (nX _ _ e)⟩,c_.bs,hc c_.ok.p8 c_.jD,λb o e c2=>?_,Xi,c_.stack,c_.HK⟩,rfl,c_.bare,hJ.kept kept,⟨_,M_,λi x v ax az cq=>?_⟩,λx c e=>?_,c_.bo.fresh (b1 _),λx c e=>c_.l9 x c (nX _ _ e),
   λp aP=>?_,c_.bo.kept kept,?_⟩
  .have l:=FI b c2;rw[show b=aV.objs.size from e,YB]at l;exact q5 _ (UQ l)
  .have l:=FI b c2;rcases(f2 b c2).2.2.2.1 with z|z
   .exact bT.ok.vq b o e z
   .exact bE (iz (dm (bT.ok.bs b o e).1) z) (q5 _)
  .obtain⟨j,a1,a2,gn,iZ,aiL⟩:=xC.get ax az;obtain⟨m,aD,aq⟩:=c_.loc;obtain⟨u,eA,l⟩:=aq j x v a1 a2 (by rcases gn with z|z;exact .inr (.inl z);exact .inr (.inr z));refine⟨u,eA,.inr ⟨iZ,?_⟩⟩;rcases l with⟨k,_⟩|⟨k,c,e,z⟩
   .rcases gn with q|q<;>(rw[k]at q;cases q)
   .obtain⟨o,aR,hd⟩:=z;exact⟨c,aiL.trans e,o,kept c o aR,hd⟩
  .obtain⟨v,o,aR,hd⟩:=c_.cell x c (nX _ _ e);exact⟨v,o,kept c o aR,hd⟩
  .have amn:p∈X.d_++pins:=by simpa[n0]using aP
   obtain⟨e,n,ne,gY,d⟩:=c_.pin p amn;refine⟨kept _ _ e,n,dP (dm e),λz=>?_,d⟩;rcases fp.mp (c_.Dg p.1 z)with q|q
   .exact ne q
   .exact gY q
  .show(gW cs σ).length=N'.length;rw[gW,bh];exact xC.len
 have μ:hU 0 ag:=T.keep 0 _ _ HJ λb c2 o e=>kept b o (old b o e);have vN:∀{H':aa},(∀b∈cw,H' b=none)->∀b∈cw,tS jL [] H' b:=λ{H'}aD b c2=>by rw[<-nR];refine⟨aD b c2,λe=>?_,Xi b c2,.inl c2,λx c e=>(f2 b c2).2.2.2.2.1 x c (nX _ _ e),λp aP=>(f2 b c2).2.2.2.2.2 p (by simpa[n0]using aP)⟩;have l:=FI b c2;rw[show b=aV.objs.size from e,YB]at l;exact q5 _ (UQ l)
 have xk:∀b∈cw,(upd aj D (.lst [])) b=none:=λb c2=>by rw[aL (dP (FI b c2))];exact(f2 b c2).1
 have y5:jL.A=X.A:=by rw[<-nR];rfl
 have H_:jL.env=compEnvC scope cl aV.objs.size X.env:=by rw[<-nR];rfl
 have Ie:jL.dD=pU:=by rw[<-nR];rfl
 have loop:k9 (ba X.prog X.w) X.A (.compLoop (.ListComp elt [⟨dI,iter,ifs,0⟩] scope pos) 0 (.ref it) (.ref D) (compEnvC scope cl aV.objs.size X.env))
   (compPost (ba X.prog X.w) X.A X.dD use QQ (.ref D) aV.objs.size) {s2 with heap:=ag,toks:=s2.toks+0}:=by
  refine ě (λn s'=>∃i ys a_ H',Inv jL [] a_ H' s'/\hU i s'.heap/\(∀b∈cw,H' b=none)/\W i n ys a_ H') ?_ m0 ⟨0,[],_,_,j7,μ,xk,DB⟩;rintro n s' ⟨i,ys,a_,H',oy,aN,Xj,gN⟩;obtain⟨eG,amN,mR⟩:=turn i n ys a_ H' gN;rcases mR with⟨stop,q⟩|⟨go,step⟩
  .have hd:=T.done jL uM uO Wu (Wt.trans aC) i [] s' a_ H' pU oy (vN Xj) aN stop;rw[y5]at hd;refine bS hd λr s4 ay=>?_;obtain⟨rfl,je⟩:=ay;obtain⟨m,aD,_⟩:=id je.loc;have l8:jL.env.locals=aV.objs.size:=by rw[H_];rfl
   have F5:H' aV.objs.size=none:=by rw[<-l8];exact je.free
   have sF:=je.base;rw[<-nR]at sF;have amm:s4.os=s2.os:=by have z:=je.os;rw[<-nR]at z;exact z
   have Yi:=je.bo;rw[uM,uO]at Yi;have aaj:Inv X pins σ H' s4:=c_.LC (s':=s4) (ch:=cw) amm ⟨sF.keep,sF.slot,sF.free,sF.there,sF.ir,sF.jt,sF.j5⟩ Yi je.bare λb c2=>by obtain⟨_,g1,_,g3,uU,alc⟩:=f2 b c2;exact⟨g3,g1,uU,alc⟩
   exact post D aV.objs.size s4 H' m aaj (by rw[l8]at aD;exact aD) (c_.rf (b1 _) F5) q
  .have hit:=T.item jL uM uO Wu (Wt.trans aC) i [] s' a_ H' pU oy (vN Xj) aN go;rw[y5]at hit;refine bS hit λr s4 ay=>?_;obtain⟨u,rfl,bU⟩:=ay;refine bS bU λ_ s5 dq=>?_;obtain⟨x,bY,je,CS,Rl,vM,Mc⟩:=dq;have Je:=je.pinned (vN Mc) (T.obj _ _ vM);have aH:=bx _ s5 a_ bY x u _ Je CS (step x bY Rl);rw[y5,H_,Ie,uM,uO]at aH;refine bS aH λ_ ip rk=>?_;obtain⟨DX,lU,t8,Pq⟩:=rk;have cO:=Yf _ ip DX lU _ t8 Pq;rw[y5,H_,Ie,uM,uO]at cO;refine bS cO λok qF i4=>?_;obtain⟨fB,lW,m3⟩:=i4;have back:∀{ou:St}{iw:aa}{pn:aF}{RE:a'}{c5:Nat},Inv jL ([]++Dm cw s5.heap) ou iw pn->c5<n->W (i+1) c5 RE ou iw->
     ∃m,m<n/\∃i ys a_ H',Inv jL [] a_ H' pn/\hU i pn.heap/\(∀b∈cw,H' b=none)/\W i m ys a_ H':=λ{ou iw pn RE c5}mv hm QW=>by refine⟨c5,hm,i+1,RE,ou,iw,mv.HY,T.keep _ _ _ vM λb c2 o e=>(mv.pin (b,o) (q4 _ (q4 _ (Gw c2 e)))).1,λb c2=>?_,QW⟩;obtain⟨o,e,d⟩:=T.obj _ _ vM b c2;exact(mv.pin (b,o) (q4 _ (q4 _ (Gw c2 e)))).2.1
   cases ok with
   |false=>
    rw[aJ fz]at m3⊢;obtain⟨c5,hm,QV⟩:=m3;exact back lW hm QV
   |true=>
    rw[aO rfl]at m3⊢;have BD:=he _ qF DX fB _ lW m3;rw[y5,H_,Ie,uM,uO]at BD;refine bS BD λaqf pn Mn=>?_;obtain⟨y,iw,mv,PI,alp,c5,hm,QW⟩:=Mn;have XS:=mJ (X:=jL) _ pn DX iw (.ref D) [y] (.ref D) [aqf] (λ_ wy=>wy=upd iw D (.lst (ys++[y]))) mv rfl (.cons PI .nil) ⟨D,ys,y,rfl,rfl,alp,amN,rfl⟩;rw[y5,Ie,uM,uO]at XS;refine bS XS λ_ asm qh=>?_;obtain⟨_,wy,Ŵ,_,rfl⟩:=qh;exact back Ŵ hm QW
 exact codeAny_compStart_list loop (T.self _ 0 _ _ _ μ loop)
theorem pb(aC:X.calm=true)(ai:my X dI iter wi)(Bx:Wo scope X.env=pure cl)(sW:∀y∈scope.names,y.2≠.cell)(ro:scope.kind=.function)(BO:∀y∈scope.names,y.2=.local->scope.names.lookup y.1=some .local)(nX:∀x c,cl.lookup x=some c->X.env.cells.lookup x=some c)(bo:ED cl (Hk scope X.env).names=true)(xC:oe X scope cl N' cs)(U:∀(C:Addr)(s3:aF)(bL:aa)(cw:b4)(d_:cG),pV (n0 X N' scope cl C s3 bL cw d_) dI g/\zP (n0 X N' scope cl C s3 bL cw d_) ifs tt/\bN (n0 X N' scope cl C s3 bL cw d_) elt b3)(hs:∀x,Mb iter X.env x=pure x:=by intro _;rfl):bN X (.ListComp elt [⟨dI,iter,ifs,0⟩] scope pos) (kM wi cs g tt b3):=by
 intro pins s σ H Q I h;rw[eval_ListComp];refine TL aC ai Bx sW ro BO nX bo xC U hs I h λD C s4 H' m j7 aD L6 q=>⟨m,aD,λh' s_=>⟨.ref D,H',?_,rfl,q⟩⟩
 obtain⟨f0,f1,f2,dB,f4,e_⟩:=L6;exact j7.turned (t':=s4.toks) (λb o U e=>(s_.2 b U).trans e) f0 f1 dB f4 e_
theorem rh{i:Nat}{y:Str}{py Z8:Pos}(fJ:X.N.Nodup)(al2:X.N[i]?=some y)(Yn:X.env.scope.names.lookup y=some .local)(amH:yS (.ListComp elt [⟨dI,iter,ifs,0⟩] scope pos) (some (.Name y py)) Z8.line X.env=pure true)(aC:X.calm=true)(ai:my X dI iter wi)(Bx:Wo scope X.env=pure cl)(sW:∀y∈scope.names,y.2≠.cell)(ro:scope.kind=.function)(BO:∀y∈scope.names,y.2=.local->scope.names.lookup y.1=some .local)(nX:∀x c,cl.lookup x=some c->X.env.cells.lookup x=some c)(bo:ED cl (Hk scope X.env).names=true)(xC:oe X scope cl N' cs)(U:∀(C:Addr)(s3:aF)(bL:aa)(cw:b4)(d_:cG),pV (n0 X N' scope cl C s3 bL cw d_) dI g/\zP (n0 X N' scope cl C s3 bL cw d_) ifs tt/\bN (n0 X N' scope cl C s3 bL cw d_) elt b3)(hs:∀x,Mb iter X.env x=pure x:=by intro _;rfl):g0 X (.Assign [.Name y py] (.ListComp elt [⟨dI,iter,ifs,0⟩] scope pos) Z8) (tZ (kM wi cs g tt b3) (g5 i)):=by
 intro pins s σ H Ħ I h;rw[exec_Assign_Name_used _ _ _ _ amH];refine au (H8 (au ?_));show aM _ X.A (do let _ <-comprehension (.ListComp elt [⟨dI,iter,ifs,0⟩] scope pos) scope X.env _ (newList []) false (eval iter X.env) (some (w3 (.Name y py) X.env))) _ _ s;refine au (e6 (TL (use:=some (w3 (.Name y py) X.env)) (QQ:=λ_ s'=>uA X pins Ħ .next s') aC ai Bx sW ro BO nX bo xC U hs I h ?_) (λ_ s' bp=>a9 (a9 bp)) λ_ _ e=>e);intro D C s4 H' m j7 aD L6 q;obtain⟨f0,f1,f2,dB,f4,e_⟩:=L6;refine apD (Κ j7 fJ al2 (.inl Yn) (v:=.ref D) rfl (λip t8⟨a,b5,aH⟩=>?_) (.inr Yn));have alm:C≠a:=by
  rcases aH with rfl|aH
  .exact f1
  .exactλe=>f4 _ _ aH e.symm
 refine⟨m,aD.sameBut b5 alm,λh' s_=>⟨_,H',?_,q⟩⟩;exact t8.turned (t':=ip.toks) (λb o U e=>(s_.2 b U).trans e) f0 f1 dB f4 e_
noncomputable def l3(J:e7)(H1:aa)(xs:a'):Prop:=∀H',aT H1 H'->J.stop xs.length H'/\(∀i,i<xs.length->J.go i H')/\∀i x aj,i<xs.length->J.ni i H' x aj->aj=H'/\xs[i]?=some x
end
theorem oU{K:aY}{a:Addr}{xs:a'}{H1:aa}(h:aS K H1 a xs):l3 (jG K a) H1 xs:=λH' aI=>
 ⟨⟨xs,aI.seq h,b1 _⟩,λi ai=>⟨xs,xs[i],aI.seq h,by simp[ai]⟩,λi x aj _ y=>⟨y.1,y.2 xs (aI.seq h)⟩⟩
theorem aap{H1:aa}(lo:Int)(n:Nat):l3 (sd lo n) H1 ((da n).map λi:Nat=>V.int (lo+i)):=λH' _=>
 ⟨by show n<=_;simp,λi ai=>(by simpa using ai:i<n),λi x aj ai y=>by
  obtain⟨ax,az⟩:=y;have jy:i<n:=by simpa using ai
  refine⟨ax,?_⟩;rw[az];simp[jy]⟩
theorem arb{J:e7}{xs:a'}{g:eK}{c0:e0}{D:Ends}{σ:St}{H:aa}(Pv:Nat->St->aa->Prop)(jF:l3 J H xs)(h0:Pv 0 σ H)(hm:∀i a_ H',Pv i a_ H'->aT H H')(hs:∀i x a_ H',xs[i]?=some x->Pv i a_ H'->g x a_ H' λhn aj=>c0 {D with cy:=Pv (i+1),fU:=Pv (i+1),gU:=D.cy} hn aj)(hd:∀a_ H',Pv xs.length a_ H'->D.cy a_ H'):
  ∃W:Nat->Nat->St->aa->Prop,(∃m,W 0 m σ H)/\∀i m σ H,W i m σ H->
   (J.stop i H/\D.cy σ H)\/(J.go i H/\∃N:St->aa->Prop,(∀a_ H',N a_ H'->∃c5,c5<m/\W (i+1) c5 a_ H')/\∀x H',J.ni i H x H'->g x σ H' λhn aj=>c0 {D with cy:=N,fU:=N,gU:=D.cy} hn aj):=by
 refine⟨λi m a_ H'=>m=xs.length-i/\i<=xs.length/\Pv i a_ H',⟨xs.length,by simp,dM _,h0⟩,?_⟩;rintro i m a_ H' ⟨rfl,ai,p⟩;obtain⟨gO,hV,iu⟩:=jF H' (hm i a_ H' p);by_cases bZ:i<xs.length
 .refine .inr ⟨hV i bZ,Pv (i+1),λhn aj iO=>⟨xs.length-(i+1),by omega,rfl,bZ,iO⟩,λx aj y=>?_⟩;obtain⟨rfl,ex⟩:=iu i x aj bZ y;exact hs i x a_ _ ex p
 .have e:i=xs.length:=by omega
  subst e;exact .inl ⟨gO,hd a_ H' p⟩
theorem Jh{J:e7}{xs:a'}{cs:jj}{σ rest:St}{tt:TT}{b3:TE}{Q:bl}{H1:aa}(gp:gW cs σ=none::rest)(jF:l3 J H1 xs)(aq:xs.length<sizeLine)(p:V->Bool)(f:V->V)(test:∀(i:Nat)(x:V)(aj:aa)(R:Bool->aa->Prop),xs[i]?=some x->aT H1 aj->(∀bY,aT aj bY->R (p x) bY)->tt (some x::rest) aj R)(elt:∀(i:Nat)(x:V)(aj:aa)(R:bl),xs[i]?=some x->p x=true->aT H1 aj->(∀bY,aT aj bY->R (f x) bY)->b3 (some x::rest) aj R)(fin:∀(D:Addr)(H':aa),H1 D=none->H' D=some (.lst ((xs.filter p).map f))->aT H1 H'->Q (.ref D) H'):
  ∀D,H1 D=none->∃W:Nat->Nat->List V->St->aa->Prop,(∃m,W 0 m [] (gW cs σ) (upd H1 D (.lst [])))/\∀i m ys a_ H',W i m ys a_ H'->H' D=some (.lst ys)/\ys.length<sizeLine/\
   ((J.stop i H'/\Q (.ref D) H')\/(J.go i H'/\∀x aj,J.ni i H' x aj->g5 0 x a_ aj λgr bL=>tt gr bL λb eP=>
    if b=true then b3 gr eP λy bY=>bY D=some (.lst ys)/\∃c5,c5<m/\W (i+1) c5 (ys++[y]) gr (upd bY D (.lst (ys++[y])))
    else∃c5,c5<m/\W (i+1) c5 ys gr eP)):=by
 intro D ck;refine⟨λi m ys a_ H'=>m=xs.length-i/\i<=xs.length/\ys=((xs.take i).filter p).map f/\(∃o,a_=o::rest)/\aT H1 H'/\H' D=some (.lst ys),⟨xs.length,by simp,dM _,by simp,⟨none,gp⟩,λb o e=>?_,a8⟩,?_⟩
 .rw[aL (dn e ck)];exact e
 .rintro i m ys a_ H' ⟨rfl,ai,rfl,⟨o,rfl⟩,aI,eG⟩;obtain⟨gO,hV,iu⟩:=jF H' aI;refine⟨eG,mx ?_ aq,?_⟩
  .rw[bh];refine hc (si _ _) ?_;rw[f_];exact UT _ _
  by_cases bZ:i<xs.length
  .refine .inr ⟨hV i bZ,λx aj y=>?_⟩;obtain⟨rfl,ex⟩:=iu i x aj bZ y;show tt (some x::rest) aj _;refine test i x aj _ ex aI λeP s4=>?_;have aG:xs.take (i+1)=xs.take i++[x]:=by rw[mw,ex];rfl
   cases aP:p x with
   |true=>
    refine kH ?_;refine elt i x eP _ ex aP (aI.trans s4) λbY s5=>⟨s5 _ _ (s4 _ _ eG),xs.length-(i+1),by omega,rfl,bZ,?_,⟨_,rfl⟩,λb ob e=>?_,a8⟩
    .rw[aG,pO,fo];simp[aP]
    .rw[aL (dn e ck)];exact s5 _ _ (s4 _ _ (aI _ _ e))
   |false=>
    refine lD ⟨xs.length-(i+1),by omega,rfl,bZ,?_,⟨_,rfl⟩,aI.trans s4,s4 _ _ eG⟩;rw[aG,pO,fo];simp[aP]
  .have e:i=xs.length:=by omega
   subst e;exact .inl ⟨gO,fin D H' ck (by rw[eG,lY]) aI⟩
theorem afc{J:e7}{xs:a'}{cs:jj}{σ rest:St}{b3:TE}{Q:bl}{H1:aa}(gp:gW cs σ=none::rest)(jF:l3 J H1 xs)(aq:xs.length<sizeLine)(f:V->V)(elt:∀(i:Nat)(x:V)(aj:aa)(R:bl),xs[i]?=some x->aT H1 aj->(∀bY,aT aj bY->R (f x) bY)->b3 (some x::rest) aj R)(fin:∀(D:Addr)(H':aa),H1 D=none->H' D=some (.lst (xs.map f))->aT H1 H'->Q (.ref D) H'):
  ∀D,H1 D=none->∃W:Nat->Nat->List V->St->aa->Prop,(∃m,W 0 m [] (gW cs σ) (upd H1 D (.lst [])))/\∀i m ys a_ H',W i m ys a_ H'->H' D=some (.lst ys)/\ys.length<sizeLine/\
   ((J.stop i H'/\Q (.ref D) H')\/(J.go i H'/\∀x aj,J.ni i H' x aj->g5 0 x a_ aj λgr bL=>px gr bL λb eP=>
    if b=true then b3 gr eP λy bY=>bY D=some (.lst ys)/\∃c5,c5<m/\W (i+1) c5 (ys++[y]) gr (upd bY D (.lst (ys++[y])))
    else∃c5,c5<m/\W (i+1) c5 ys gr eP)):=
 Jh gp jF aq (λ_=>true) f (λi x aj R _ _ h=>h aj (aT.refl _)) (λi x aj R ex _ aI h=>elt i x aj R ex aI h) λD H' ag af aV=>fin D H' ag (by rw[af,Ue.mpr λ_ _=>rfl]) aV
noncomputable def signs(x:Str):List V:=x.cps.toList.map λc=>V.str ⟨#[c]⟩
noncomputable def Em(x:Str):e7:=⟨λi _=>i<x.cps.size,λi H v H'=>H'=H/\∃c,x.cps[i]?=some c/\v=.str ⟨#[c]⟩,λi _=>i=x.cps.size⟩
theorem afd{H1:aa}(x:Str):l3 (Em x) H1 (signs x):=λH' _=>by
 have aq:(signs x).length=x.cps.size:=by simp[signs]
 refine⟨aq,λi ai=>by rw[aq]at ai;exact ai,λi v aj ai y=>?_⟩;obtain⟨ax,c,az,cq⟩:=y;refine⟨ax,?_⟩;subst cq;have et:x.cps.toList[i]?=some c:=by simpa using az
 simp[signs,et]
theorem aaq{P:bP}{w:bt}{K:aY}{dI:Expr}(it:Addr)(x:Str)(t:Tok){ty:String}(u7:ty="str_ascii_iterator"\/ty="str_iterator"):Turn P w K dI (Em x) [it] it (λi h=>h.IsStrIter it ty x t i)where
 mem:=by simp
 obj:=λi h st b U=>by
  have e:b=it:=by simpa using U
  subst e;obtain⟨o,e,c,d⟩:=st;exact⟨o,e,λv z=>by rw[d]at z;cases z⟩
 keep:=λi h h' st k=>by obtain⟨o,e,r⟩:=st;exact⟨o,k it (by simp) o e,r⟩
 item:=by
  intro X f' hw fa aC i pins s σ H E I hf st bx;subst f' hw fa;obtain⟨f0,f1,f2,dB,f4,e_⟩:=hf it (by simp);have ai:i<x.cps.size:=bx;have mL:x.cps[i]?=some x.cps[i]:=by simp[ai]
  rcases u7 with rfl|rfl
  .refine wpAny_pyNext_ascii_item st mL λh' aN b5=>?_;have aX:Inv X pins σ H {s with heap:=h',toks:=s.toks+1}:=I.turned (λb o U e=>(b5.2 b U).trans e) f0 f1 dB f4 e_;obtain⟨o,e,c,d⟩:=id aN;exact⟨_,rfl,yU (s:={s with heap:=h',toks:=s.toks+1}) e c d (by decide) ⟨.str ⟨#[x.cps[i]]⟩,H,aX,⟨_,rfl⟩,⟨rfl,_,mL,rfl⟩,aN,λb U=>(hf b U).1⟩⟩
  .refine wpAny_pyNext_wide_item st mL λh' aN b5=>?_;have aX:Inv X pins σ H {s with heap:=h',toks:=s.toks+1}:=I.turned (λb o U e=>(b5.2 b U).trans e) f0 f1 dB f4 e_;obtain⟨o,e,c,d⟩:=id aN;exact⟨_,rfl,yU (s:={s with heap:=h',toks:=s.toks+1}) e c d (by decide) ⟨.str ⟨#[x.cps[i]]⟩,H,aX,⟨_,rfl⟩,⟨rfl,_,mL,rfl⟩,aN,λb U=>(hf b U).1⟩⟩
 done:=by
  intro X f' hw fa aC i pins s σ H E I hf st bx;subst f' hw fa;obtain⟨f0,f1,f2,dB,f4,e_⟩:=hf it (by simp);have mL:x.cps[i]?=none:=by have e:i=x.cps.size:=bx;simp[e]
  rcases u7 with rfl|rfl
  .exact wpAny_pyNext_ascii_end (I.ok.hd aC) st mL λh' dN=>⟨rfl,I.turned (t':=s.toks) (λb o U e=>dN b o U e) f0 f1 dB f4 e_⟩
  .exact wpAny_pyNext_wide_end (I.ok.hd aC) st mL λh' dN=>⟨rfl,I.turned (t':=s.toks) (λb o U e=>dN b o U e) f0 f1 dB f4 e_⟩
 self:=λ_ _ _ _ _ st h=>by
  rcases u7 with rfl|rfl
  .exact wpAny_pyIter_striter_ascii st h
  .exact wpAny_pyIter_striter_wide st h
section
variable{X:bB}{dI:Expr}
noncomputable def aif(c3:TE):TI:=λσ H R=>c3 σ H λx H1=>∃z,x=.str z/\R (Em z) H1
theorem afe{l:Expr}{c3:TE}(aq:bN X l c3):my X dI l (aif c3):=by
 intro pins s σ H R I h;refine bS (aq pins s σ H _ I h) λv s1⟨x,H1,aX,b',bq⟩=>?_;obtain⟨z,e,q⟩:=bq;subst e;obtain⟨t,rfl⟩:=b';have fin:∀(ty:String)(_:ty="str_ascii_iterator"\/ty="str_iterator"),JQ X pins σ dI R (.ref s1.heap.objs.size) {s1 with heap:=s1.heap.push {cls:=.type ty,data:=.fields #[.str z t,.int 0 0]}}:=λty u7=>by
  refine⟨s1.heap.objs.size,[s1.heap.objs.size],_,_,H1,rfl,aX.kept (t':=s1.toks) λb o e=>c6 _ e,aaq _ z t u7,⟨_,ff _ rfl,rfl,rfl⟩,λb U=>?_,q⟩;have e:b=s1.heap.objs.size:=by simpa using U
  subst e;exact aX.rf (b1 _) (aX.bo.fresh (b1 _))
 cases aH:z.cps.all (·<128)with
 |true=>exact wpAny_pyIter_ascii aH (fin _ (.inl rfl))
 |false=>exact wpAny_pyIter_wide aH (fin _ (.inr rfl))
end
section
variable{X:bB}{e:Expr}{b3:TE}{lo ai:Option Expr}{c3 qK:sv}{pos ey:Pos}
theorem v4:fZ X (hN .LtE) (λx y H Q=>∃i j,x=.str i/\y=.str j/\Q (.bf (!decide (j.cps.toList<i.cps.toList))) H):=by intro pins s σ H x y v u Q I bC bW h;obtain⟨i,j,rfl,rfl,q⟩:=h;obtain⟨t,rfl⟩:=bC;obtain⟨t',rfl⟩:=bW;exact PySem.P.le_str (fT I q rfl)
theorem TM(c a:Nat):(!decide ((⟨#[c]⟩:Str).cps.toList<(⟨#[a]⟩:Str).cps.toList))=decide (a<=c):=by
 have h:((⟨#[c]⟩:Str).cps.toList<(⟨#[a]⟩:Str).cps.toList)↔c<a:=by show([c]:bj) < [a]↔c<a;simp[List.cons_lt_cons_iff]
 by_cases q:c<a
 .rw[dU (h.mpr q),eM (by omega)];rfl
 .rw[eM λz=>q (h.mp z),dU (by omega)];rfl
theorem G7(aC:X.calm=true):iF X (.builtin "all") (λxs H Q=>∃(p:Addr)(bs:List Bool),xs=[.ref p]/\aS X.K H p (bs.map V.bf)/\Q (.bf (bs.all id)) H):=by
 intro pins s σ H xs us Q I r h;obtain⟨p,bs,rfl,bp,q⟩:=h;obtain⟨u,rfl,eA⟩:=vals1 r;cases eA;obtain⟨its,cg,pl,hz⟩:=I.list bp;have hlen:bs.length=its.length:=by have:=cg.length;rwa [bh]at this
 obtain⟨o,n,AZ,_⟩:=id pl;have nT:p≠s.heap.objs.size:=dP (dm AZ);have dy:X.A.in1.handled=none:=I.ok.hd aC;refine call_all_walk (Q1 pl.isList ?_);refine⟨s.heap.objs.size,[s.heap.objs.size,p],[s.heap.objs.size],its.toArray.size,_,_,λi=>bs.getD i false,rfl,V_ dy _ p nT its.toArray,⟨⟨_,ff _ rfl,rfl,rfl⟩,pl.isList.push _⟩,?_,λh' aG k=>?_⟩
 .intro i v s' kX SP f' dk;have XJ:its[i]?=some v:=by simpa using f'
  have ai:i<its.length:=(gj.mp XJ).1;have U:(bs.map V.bf)[i]?=some (V.bf (bs.getD i false)):=by rw[cM,ct (by omega:i<bs.length)];simp[dr,hlen▸ai]
  obtain⟨u',b9,cB⟩:=cg.get U;rw[XJ]at b9;cases b9;cases cB;exact pF dk
 .have e:(da its.toArray.size).all (λi=>bs.getD i false)=bs.all id:=by
   rw[ek,<-hlen,DZ];simp only[Eo,jH];constructor
   .intro a b U;obtain⟨i,ai,rfl⟩:=Un.mp U;have:=a i ai;simpa[dr,ai]using this
   .intro a i ai;have:=a bs[i] (eY ai);simpa[dr,ai]using this
  rw[e];exact⟨.bf (bs.all id),H,I.kept λb ob z=>k b ob (by simpa using dP (dm z)) (c6 _ z),rfl,q⟩
inductive VW(K:aY)(xs:a')(H:aa)(Q:bl):Prop where
 |mk (x c:V) (LJ:String) (t:Value) (b:Bool) (b0:xs=[x,c]) (bH:c=.ty LJ/\m5 K H x t/\Am K t (.type LJ)=some b) (cu:Q (.bf b) H)
theorem oP:iF X (.builtin "isinstance") (VW X.K):=by intro pins s σ H xs us Q I r h;obtain⟨x,c,LJ,t,b,rfl,⟨rfl,ty,e⟩,q⟩:=h;obtain⟨u,gN,rfl,eA,m8⟩:=vals2 r;cases m8;exact ų I eA ty e λaG=>⟨.bf b,H,I.tok aG,rfl,q⟩
mutual
inductive kT(K:aY)(H:aa):V->PyData->Prop
 |bV:kT K H .bV .none
 |bf (b:Bool):kT K H (.bf b) (.bool b)
 |int (i:Int):kT K H (.int i) (.int i)
 |str (x:Str):kT K H (.str x) (.str x)
 |lst {a:Addr} {xs:a'} {ds:iY}:aS K H a xs->nk K H xs ds->kT K H (.ref a) (.list ds)
 |tup {a:Addr} {xs:a'} {ds:iY}:b2 K H a xs->nk K H xs ds->kT K H (.ref a) (.tuple ds)
inductive nk(K:aY)(H:aa):List V->List PyData->Prop
 |nil:nk K H [] []
 |cons {v:V} {d:PyData} {vs:a'} {ds:iY}:kT K H v d->nk K H vs ds->nk K H (v::vs) (d::ds)
end
end
section
variable{X:bB}{pins:cG}{σ:St}{H:aa}{s:aF}
mutual
theorem vb(I:Inv X pins σ H s):∀{v:V}{d:PyData}{u:Value},kT X.K H v d->RelV v u->∃as,Reads s.heap u d as
 |_,_,_,.bV,r=>by cases r;exact⟨_,.none⟩
 |_,_,_,.bf b,r=>by cases r;exact⟨_,.bool b⟩
 |_,_,_,.int i,r=>by obtain⟨t,rfl⟩:=r;exact⟨_,.int i t⟩
 |_,_,_,.str x,r=>by obtain⟨t,rfl⟩:=r;exact⟨_,.str x t⟩
 |_,_,_,.lst h ds,r=>by cases r;obtain⟨its,cg,⟨o,n,e,c,_,d⟩,_⟩:=I.list h;obtain⟨as,q⟩:=Pu I ds cg;exact⟨_,.list e c d (by simpa using q)⟩
 |_,_,_,.tup h ds,r=>by cases r;obtain⟨its,cg,⟨o,e,c,n,d⟩,_⟩:=I.tuple h;obtain⟨as,q⟩:=Pu I ds cg;exact⟨_,.tuple e c d (by simpa using q)⟩
theorem Pu(I:Inv X pins σ H s):∀{vs:a'}{ds:iY}{us:b_},nk X.K H vs ds->cp vs us->∃as,ReadsAll s.heap us ds as
 |_,_,_,.nil,.nil=>⟨_,.nil⟩
 |_,_,_,.cons a b,.cons r t=>by obtain⟨as,q⟩:=vb I a r;obtain⟨bs,dj⟩:=Pu I b t;exact⟨_,.cons q dj⟩
end
end
section
variable{X:bB}
inductive agg(K:aY)(neg:Bool)(x:ar.V)(y:ar.V)(H:aa)(Q:bl):Prop where
 |mk (d:_) (e:_) (b0:kT K H x d) (bH:kT K H y e) (cu:mB d=true) (cS:mB e=true) (dw:Q (.bf (if neg then !g4 d e else g4 d e)) H)
noncomputable def VX(K:aY)(neg:Bool):gQ:=λx y H Q=>agg K neg x y H Q
theorem Iy(cJ:X.A.units+64<cLine):fZ X (hN .Eq) (VX X.K false):=by intro pins s σ H x y v u Q I bC bW h;obtain⟨d,e,hd,he,cX,hT,q⟩:=h;obtain⟨as,gq⟩:=vb I hd bC;obtain⟨bs,lK⟩:=vb I he bW;exact eq_dataH gq lK cX hT cJ ⟨.bf _,H,I,rfl,q⟩
theorem Dr(cJ:X.A.units+64<cLine):fZ X (hN .NotEq) (VX X.K true):=by intro pins s σ H x y v u Q I bC bW h;obtain⟨d,e,hd,he,cX,hT,q⟩:=h;obtain⟨as,gq⟩:=vb I hd bC;obtain⟨bs,lK⟩:=vb I he bW;exact ne_dataH gq lK cX hT cJ ⟨.bf _,H,I,rfl,q⟩
mutual
theorem Cp:∀d:PyData,d.canLay0=true->g4 d d=true
 |.none,_=>rfl
 |.bool b,_=>by simp[g4]
 |.int i,_=>by simp[g4]
 |.str x,_=>by simp[g4]
 |.list xs,h=>by simp only[g4];exact Oy xs h
 |.tuple xs,h=>by simp only[g4];exact Oy xs h
 |.dict _,h=>by cases h
theorem Oy:∀ds:List PyData,pW ds=true->PyData.eqvAll ds ds=true
 |[],_=>rfl
 |d::r,h=>by simp only[pW,kR]at h;simp only[PyData.eqvAll,Cp d h.1,Oy r h.2,Bool.and_self]
end
noncomputable def qQ(val:Nat->Str):Nat->Str->Bool
 |0=>λ_=>false
 |i+1=>λk=>qQ val i k||decide (k=val i)
noncomputable def m6(val:Nat->Str):Nat->Nat
 |0=>0
 |i+1=>if qQ val i (val i)then m6 val i else m6 val i+1
theorem S4(val:Nat->Str):∀i,m6 val i<=i
 |0=>b1 _
 |i+1=>by have:=S4 val i;unfold m6;split<;>omega
theorem ô(val:Nat->Str)(k:Str):∀i,qQ val i k=true↔∃j,j<i/\val j=k
 |0=>by simp[qQ]
 |i+1=>by
  simp only[qQ,Bool.or_eq_true,ô val k i,decide_eq_true_eq];constructor
  .rintro(⟨j,aQ,e⟩|e)
   .exact⟨j,by omega,e⟩
   .exact⟨i,by omega,e.symm⟩
  .rintro⟨j,aQ,e⟩;by_cases h:j=i
   .subst h;exact .inr e.symm
   .exact .inl ⟨j,by omega,e⟩
theorem õ(val:Nat->Str):∀n,(∀i j,i<j->j<n->val i≠val j)->m6 val n=n
 |0,_=>rfl
 |n+1,h=>by
  have bk:=õ val n λi j a b=>h i j a (by omega);have hm:¬qQ val n (val n)=true:=λz=>by obtain⟨j,aQ,e⟩:=(ô val (val n) n).mp z;exact h j n aQ (by omega) e
  unfold m6;rw[aJ hm,bk]
theorem YL(x:Str)(t:Tok):Kn x (.str x t)=true:=by simp[Kn]
theorem Ř{prog:bP}{w:bt}{A:cU}{R:q7->aF->Prop}{I:Addr}{cw wr:b4}{n:Nat}{Pv:Nat->Value->Prop}{As:Nat->Heap->Prop}(W:Walks prog w A.in1 I cw wr n Pv As)(S:Addr)(qk:S∉cw)(val:Nat->Str)(Nt:∀i v,Pv i v->∃t,v=.str (val i) t)(U:n+1<scanBound):∀(k i:Nat)(s:aF),n-i=k->i<=n->As i s.heap->s.heap.SetOf (strKind prog w) S (qQ val i) (m6 val i)->
   (∀h' aG,(∀b o,b≠S->b∉wr->s.heap.get? b=some o->h'.get? b=some o)->h'.SetOf (strKind prog w) S (qQ val n) (m6 val n)->R (.ok (.ret .none)) {s with heap:=h',toks:=aG})->
   k9 (ba prog w) A (.builtin "set.update.loop" ⟨[.ref S,.ref I],[]⟩) R s:=by
 have Bw:S∉wr:=λz=>qk (W.sub _ z);have stays:∀{h h':Heap}{EW:Str->Bool}{m:Nat},(∀o,h.get? S=some o->h'.get? S=some o)->h.SetOf (strKind prog w) S EW m->h'.SetOf (strKind prog w) S EW m:=λcm⟨o,es,ep,t,aR,r⟩=>⟨o,es,ep,t,cm o aR,r⟩
 intro k
 induction k with
 |zero=>
  intro i s aE ai st cP cF;obtain rfl:i=n:=by omega
  refine oM JT ?_;rw[qX Ai _];show aM _ A.in1 (iP (.ref I) >>=_) _ _ s;refine au (W.done s _ _ st λh' aG cm=>?_);show aM _ A.in1 (ret dY) _ _ _;exact a9 (cF h' aG (λb o _ U e=>cm b o U e) (stays (λo e=>cm S o Bw e) cP))
 |succ k bk=>
  intro i s aE ai st cP cF;have bZ:i<n:=by omega
  refine oM JT ?_;rw[qX Ai _];show aM _ A.in1 (iP (.ref I) >>=_) _ _ s;refine au (W.item i s _ _ bZ st λv ag aG f' Qh cm=>?_);obtain⟨t,rfl⟩:=Nt i v f';have qj:=stays (λo e=>cm S o Bw e) cP;show aM _ A.in1 (nV [Ax (val i) t] (setAdd S (.str (val i) t)) >>=_) _ _ _;refine au (iv ?_);unfold setAdd;refine iv (au ((strKind prog w).pyHash (k:=val i) (YL (val i) t) ?_));have amC:m6 val i+1<scanBound:=by have:=S4 val i;omega
  refine wpAny_setAddHashed_of (knd:=strKind prog w) (YL (val i) t) rfl qj amC λaf b5 sT=>?_;refine a9 ⟨rJ Ai _,bk (i+1) _ (by omega) bZ (W.frame _ _ _ Qh λb c2 o e=>(b5.2 b λz=>qk (z▸c2)).trans e) sT λaV Qo Od xx=>?_⟩;exact cF aV Qo (λb o hC gK e=>Od b o hC gK ((b5.2 b hC).trans (cm b o gK e))) xx
set_option maxHeartbeats 8000000 in
theorem ap0{prog:bP}{w:bt}{A:cU}{E:cx}{s:aF}{l:Addr}{items:iA}{val:Nat->Str}{Q:cx}(dy:A.handled=none)(aq:s.heap.IsList l items)(Nt:∀(i:Nat)(v:Value),items[i]?=some v->∃t,v=.str (val i) t)(U:items.size+1<scanBound)(h:∀(h':Heap)(aG:Nat),h'.SetOf (strKind prog w) s.heap.objs.size (qQ val items.size) (m6 val items.size)->(∀b o,s.heap.get? b=some o->h'.get? b=some o)->Q (.ref s.heap.objs.size) {s with heap:=h',toks:=aG}):
  aM (ba prog w) A (call (.type "set") [.ref l]) Q E s:=by
 obtain⟨c,c3,amc⟩:=F.called_set.mro;have eO:=F.called_set.made;have hD:=F.called_set.sub;have vk:=F.called_set.notType;have Ck:=F.called_set.canCreate;have Cm:=F.typeCall_set_1 (.ref l);refine rV (LH ?_);show aM _ _ (callAny (.type "set") _) _ _ _;refine a9 ⟨IF _ (by decide+kernel),oM F.entry_type_call ?_⟩;rw[ü (apy "set" [.ref l] []) rfl]
 repeat (any_goals (first|assumption|wp_step))
 generalize oY:s.heap.objs.size=S at *;refine qa (code_set_new_1 (.ref l) (E:=E) (Q₁:=λob s1=>∃led:Bool,ob=.ref S/\s1={s with heap:=s.heap.push {cls:=.type "set",dict:=none,data:=.set #[] 0 (.fresh 0 0 led)}}) λled=>⟨led,by rw[oY],rfl⟩) λr s1 ay=>?_;cases r with
 |error e=>exact ay
 |ok fI=>
  cases fI with
  |ret ob=>
   obtain⟨led,rfl,rfl⟩:=ay;have qm:(s.heap.push {cls:=.type "set",dict:=none,data:=.set #[] 0 (.fresh 0 0 led)}).get? S=some {cls:=.type "set",dict:=none,data:=.set #[] 0 (.fresh 0 0 led)}:=by rw[<-oY];exact ff _ rfl
   have i6:J6 {s with heap:=s.heap.push {cls:=.type "set",dict:=none,data:=.set #[] 0 (.fresh 0 0 led)}} (.ref S) "set":=⟨_,qm,rfl⟩
   have gB:=F.called_set.init.lookup;have ew:=F.called_set.init.bind (.ref S)
   repeat (any_goals (first|assumption|wp_step))
   refine qa (E7 (R:=wants (λr s2=>r=.none/\∃h' aG,s2={s with heap:=h',toks:=aG}/\h'.SetOf (strKind prog w) S (qQ val items.size) (m6 val items.size)/\(∀b o,s.heap.get? b=some o->h'.get? b=some o)) E)
    F.called_set.init.plain F.entry_set_init (ajM i6 ?_)) λdf s2 lx=>?_
   .obtain⟨⟨lF,cR,anV,oc⟩,rr,sX,nl,rm⟩:=id aq;simp only at sX rm;subst sX rm;have aml:=c6 (h:=s.heap) {cls:=.type "set",dict:=none,data:=.set #[] 0 (.fresh 0 0 led)} rr;have dW:=F.sub_list_set;have ey:=F.sub_list_frozenset;have il:(mF "list"==mF "dict")=false:=by decide
    have qo:=aq.push (o:={cls:=.type "set",dict:=none,data:=.set #[] 0 (.fresh 0 0 led)});unfold Builtin.«set.__init__» noKeywords đ;generalize Mu:vF=my
    wp_walk
    subst Mu;refine Q1 qo (au (Þ ?_));have BL:l<S:=by rw[<-oY];exact dm rr
    have hsz:(s.heap.push {cls:=.type "set",dict:=none,data:=.set #[] 0 (.fresh 0 0 led)}).objs.size=S+1:=by rw[t6,oY]
    refine Ř (V_ (A:=A.in1.in1.in1) (by simp[dy]) _ l (by rw[hsz];exact dP (uo BL)) items) S ?_ val Nt U (items.size-0) 0 _ (by omega) (dM _) ⟨⟨_,ff _ rfl,rfl,rfl⟩,qo.push _⟩ ?_ ?_
    .rw[hsz];simp only[fp,eZ,or_false,not_or];exact⟨dP (sq _),uq BL⟩
    .have alW:=c6 (h:=s.heap.push {cls:=.type "set",dict:=none,data:=.set #[] 0 (.fresh 0 0 led)}) {cls:=.type "list_iterator",data:=.fields #[.ref l,.int 0 0]} qm;exact(aqK (knd:=strKind prog w) led).setOf alW (by unfold scanBound;omega)
    .intro h' aG cm rl;show aM _ _ _ _ _ _;refine a9 ?_;show aM _ _ (ret dY) _ _ _;refine a9 ⟨rfl,h',aG,rfl,rl,λb o e=>?_⟩;have sV:b<S:=by rw[<-oY];exact dm e
     exact cm b o (dP sV) (λz=>dP (uo sV) (by rw[hsz]at z;simpa using z)) (c6 _ (c6 _ e))
   .cases df with
    |error e=>exact lx
    |ok L_=>
     cases L_ with
     |ret r=>
      obtain⟨rfl,h',aG,rfl,rl,cm⟩:=lx
      repeat (any_goals (first|assumption|wp_step))
      exact h _ _ rl cm
     |_=>exact lx.elim
  |_=>exact ay.elim
noncomputable def EE(P:bP)(w:bt)(a:Addr)(n:Nat):d4:=.ext λh=>∃S,h.SetOf (strKind P w) a S n
theorem aar(aC:X.calm=true):iF X (.type "set") (λxs H Q=>∃(p:Addr)(ys:bR),xs=[.ref p]/\aS X.K H p (ys.map V.str)/\ys.length<1000/\∀q,H q=none->Q (.ref q) (upd H q (EE X.prog X.w q (m6 (λi=>ys.getD i kZ) ys.length)))):=by
 intro pins s σ H xs us Q I r h;obtain⟨p,ys,rfl,bp,aq,q⟩:=h;obtain⟨u,rfl,eA⟩:=vals1 r;cases eA;obtain⟨its,cg,pl,hz⟩:=I.list bp;have hlen:ys.length=its.length:=by have:=cg.length;rwa [bh]at this
 have hsz:its.toArray.size=ys.length:=by rw[hlen];rfl
 refine ap0 (val:=λi=>ys.getD i kZ) (I.ok.hd aC) pl.isList (λi v e=>?_) (by rw[hsz];unfold scanBound;omega) λh' aG cP cm=>?_
 .have b9:its[i]?=some v:=by simpa using e
  have ai:i<ys.length:=by rw[hlen];exact(gj.mp b9).1
  have U:(ys.map V.str)[i]?=some (V.str (ys.getD i kZ)):=by rw[cM,ct ai];simp[dr,ai]
  obtain⟨u',az,cB⟩:=cg.get U;rw[b9]at az;cases az;exact cB
 .rw[hsz]at cP;refine⟨.ref s.heap.objs.size,_,I.laid cm (b1 _) ?_,rfl,q _ (I.bo.fresh (b1 _))⟩;obtain⟨o,es,ep,t,aR,cB⟩:=id cP;exact⟨⟨_,cP⟩,⟨o,aR⟩,λag af⟨EW,cQ,js,ra,t',jz,df⟩amT=>⟨EW,cQ,js,ra,t',amT _ jz,df⟩⟩
theorem apv:iF X (.builtin "len") (λxs H Q=>∃q n,xs=[.ref q]/\H q=some (EE X.prog X.w q n)/\Q (.int n) H):=by
 intro pins s σ H xs us Q I r h;obtain⟨a,n,rfl,bp,q⟩:=h;obtain⟨u,rfl,eA⟩:=vals1 r;cases eA;obtain⟨⟨S,o,es,ep,t,aR,hex,hd,_,_,U,hf,aD⟩,_,_⟩:=(show er X.prog X.w H s.heap a (EE X.prog X.w a n)from I.bo a _ bp)
 subst aD;have alT:(es.size:Int)<2 ^ 63:=by unfold scanBound at U;omega
 exact call_len_set aR hex hd hf alT ⟨.int es.size,H,I.tok _,⟨_,rfl⟩,q⟩
theorem aeX{P:bP}{w:bt}{H:aa}{h:Heap}{a:Addr}{o:d4}(x:er P w H h a o):∃ob,h.get? a=some ob:=by
 cases o with
 |lst xs=>obtain⟨_,_,_,_,e⟩:=x;exact⟨_,e⟩
 |tup xs=>obtain⟨_,_,_,ob,e,_⟩:=x;exact⟨ob,e⟩
 |cD kvs=>obtain⟨_,_,_,_,ob,_,_,e,_⟩:=x;exact⟨ob,e⟩
 |c4 kvs=>obtain⟨_,_,_,_,ob,_,_,e,_⟩:=x;exact⟨ob,e⟩
 |set S n=>obtain⟨ob,_,_,_,e,_⟩:=x;exact⟨ob,e⟩
 |ins C av fs=>obtain⟨_,_,_,e,_⟩:=x;exact⟨_,e⟩
 |own y=>obtain⟨ob,e⟩:=x;exact⟨ob,e⟩
 |Ih fs=>obtain⟨_,⟨ob,_,_,e,_⟩,_⟩:=x;exact⟨ob,e⟩
 |Hm lo ai=>obtain⟨_,_,_,e⟩:=x;exact⟨_,e⟩
 |ee ob u=>obtain⟨e,_⟩:=x;exact⟨_,e⟩
 |pz ps=>exact⟨_,(show h.get? a=some _ from x)⟩
 |met f y=>exact⟨_,(show h.get? a=some _ from x)⟩
 |ext qU=>obtain⟨_,⟨ob,e⟩,_⟩:=x;exact⟨ob,e⟩
theorem aas{P:bP}{w:bt}{H:aa}{h:Heap}{a:Addr}(ok:fC P w H h)(e:h.get? a=none):H a=none:=by
 cases q:H a with
 |none=>rfl
 |some o=>
  obtain⟨ob,z⟩:=aeX (ok a o q);rw[e]at z;cases z
structure n1(P:bP)(w:bt)(fr:List Env)(H:aa)(s:aF)(bw:Addr)(cls a0:Value)(H':aa)(B:Heap)(s':aF):Prop where
 fI:sb B fr bw cls a0 s'.heap
 os:s'.os=s.os
 bare:qW s'.gens
 ok:fC P w H' B
 un:hJ (f9 fr) [] H H' s.heap s'.heap
 kF:∀b o,s.heap.get? b=some o->b∉f9 fr->∃cQ,B.get? b=some cQ/\(H b=none->cQ=o)
noncomputable def gP(P:bP)(w:bt):lT:=λfr H s E e s'=>∃(bw:Addr)(cls a0:Value)(H':aa)(B:Heap),e=.ref bw/\n1 P w fr H s bw cls a0 H' B s'/\E cls none H'
end
section
variable{P:bP}{w:bt}{fr:List Env}{H H':aa}{s s':aF}{bw:Addr}{cls a0:Value}{B:Heap}
theorem n1.move(T:n1 P w fr H s bw cls a0 H' B s'){af:Heap}(fI:sb B fr bw cls a0 af)(up:s'.heap.UpToSlots af):n1 P w fr H s bw cls a0 H' B {s' with heap:=af}:=by
 refine⟨fI,T.os,T.bare,T.ok,⟨λb o e n U ao=>?_,λb o e n U ao=>?_,T.un.free,λb o e ao=>?_,T.un.ir,T.un.jt,T.un.j5⟩,T.kF⟩
 .obtain⟨cQ,z,q⟩:=T.kF b o e U;rw[q n]at z;exact fI.1 b o z
 .obtain⟨sl,z⟩:=T.un.slot b o e n U ao;obtain⟨_,ob,b9,gY⟩:=T.fI.2.2.1.mem U;rw[z]at b9;cases b9;obtain⟨pw,dz⟩:=up b _ z gY;exact⟨pw,dz⟩
 .by_cases U:b∈f9 fr
  .obtain⟨_,ob,b9,gY⟩:=T.fI.2.2.1.mem U;obtain⟨pw,dz⟩:=up b _ b9 gY;exact⟨_,dz⟩
  .obtain⟨cQ,z,_⟩:=T.kF b o e U;exact⟨cQ,fI.1 b cQ z⟩
theorem n1.bo(T:n1 P w fr H s bw cls a0 H' B s'):fC P w H' s'.heap:=T.ok.kept λb u e=>T.fI.1 b u e
theorem n1.new(T:n1 P w fr H s bw cls a0 H' B s'):H' bw=none:=aas T.ok T.fI.2.1
theorem n1.anG(T:n1 P w fr H s bw cls a0 H' B s'){b:Addr}{o:Obj}(e:s.heap.get? b=some o):b≠bw:=by
 rintro rfl;by_cases U:b∈f9 fr
 .obtain⟨_,ob,b9,gY⟩:=T.fI.2.2.1.mem U;obtain⟨rF,vs,he,_,hd,_⟩:=T.fI.first;rw[he]at b9;cases b9;exact gY vs hd
 .obtain⟨cQ,z,_⟩:=T.kF b o e U;rw[T.fI.2.1]at z;cases z
end
section
variable{P:bP}{w:bt}{K:aY}{ae:cN}{base:Heap}{N:bR}{cn:Str}{scope:Scope}{f:Addr}{bK:Value}{A:cU}{outer:List Env}{s:aF}{H:aa}{E:cE}
noncomputable abbrev gG(P:bP)(w:bt)(K:aY)(ae:cN)(base:Heap)(N:bR)(cn:Str)(scope:Scope)(f:Addr)(bK:Value)(A:cU)(outer:List Env)(s:aF)(H:aa)(E:cE):bB:=
 j0 (gP P w) P w K ae base N cn scope f bK A outer s H E
theorem CJ{pins:cG}{σ:St}{H1:aa}{s1:aF}(I:Inv (gG P w K ae base N cn scope f bK A outer s H E) pins σ H1 s1){b:Addr}{o:Obj}(e:s.heap.get? b=some o)(U:b∉f9 outer):
  b∉f9 (gG P w K ae base N cn scope f bK A outer s H E).stack:=λz=>by
 rcases fp.mp (I.Dg b z)with q|q
 .have l:=dm e;have fy:s.heap.objs.size<=b:=by have:=I.ok.above;rw[<-q]at this;exact this
  exact q5 _ (iz l fy)
 .exact U q
theorem aqm{pins:cG}{σ:St}{H1:aa}{s1:aF}{h':Heap}{bw:Addr}{cls:Value}{vs:b_}(I:Inv (gG P w K ae base N cn scope f bK A outer s H E) pins σ H1 s1)(ao:TF s1.heap h' bw cls vs)(mP:E cls none H1):(gG P w K ae base N cn scope f bK A outer s H E).dD (.ref bw) {s1 with heap:=h'}:=by
 have BE:=I.ok.frames;have iK:∀env∈(gG P w K ae base N cn scope f bK A outer s H E).stack,∀b,env.frame=some b->b∈f9 (gG P w K ae base N cn scope f bK A outer s H E).stack:=λenv he b U=>Jx.mpr ⟨env,he,U⟩;have BP:∀b o,H1 b=some o->b∉f9 (gG P w K ae base N cn scope f bK A outer s H E).stack:=λb o e z=>by rw[I.HK b z]at e;cases e
 refine wpAny_leaves_madeW (base:=ux s1.heap (f9 (gG P w K ae base N cn scope f bK A outer s H E).stack)) BE rfl (λb o q=>Vj _ q) (adP I.stack iK) ao λaf t fX dJ pG vY=>?_;have kF:∀b o,s1.heap.get? b=some o->b∉f9 (gG P w K ae base N cn scope f bK A outer s H E).stack->(ux s1.heap (f9 (gG P w K ae base N cn scope f bK A outer s H E).stack)).get? b=some o:=λb o e n=>Vh _ e n;refine⟨bw,cls,.ref t,H1,_,rfl,⟨fX,I.os,I.bare,λb ob e=>(I.bo b ob e).oj (λc u aC q=>kF c u q ?_) (λ_ q=>q) λ_ _ q=>q,⟨λb o e n U e2=>?_,λb o e n U e2=>?_,I.base.free,λb o e e2=>?_,I.base.ir,I.base.jt,I.base.j5⟩,λb o e U=>?_⟩,mP⟩
 .rcases aC with rfl|aC
  .exact BP c _ e
  .exact BP c _ aC
 .exact fX.1 b o (kF b o (I.base.keep b o e n U e2) (CJ I e U))
 .obtain⟨sl,z⟩:=I.base.slot b o e n U e2;obtain⟨_,ob,b9,gY⟩:=I.jT.mem U;rw[z]at b9;cases b9;obtain⟨pw,dz⟩:=vY b _ (ao.keeps _ _ z) gY;exact⟨pw,dz⟩
 .obtain⟨cQ,z⟩:=I.base.there b o e e2;by_cases U:b∈f9 outer
  .obtain⟨_,ob,b9,gY⟩:=I.jT.mem U;obtain⟨pw,dz⟩:=vY b _ (ao.keeps _ _ b9) gY;exact⟨_,dz⟩
  .exact⟨cQ,fX.1 b cQ (kF b cQ z (CJ I e U))⟩
 .obtain⟨cQ,z⟩:=I.base.there b o e (by simp[gG,j0]);refine⟨cQ,kF b cQ z (CJ I e U),λn=>?_⟩;have bH:=I.base.keep b o e n U (by simp[gG,j0]);rw[z]at bH;exact gZ bH
theorem CK:qs (gP P w) (gG P w K ae base N cn scope f bK A outer s H E) E:=by
 rintro pins σ bJ sc e s' I ⟨bw,cls,a0,H',B,rfl,T,mP⟩;refine wpAny_leaves_onW I.ok.frames rfl T.fI λaf fX dJ=>?_;have VR:hJ (f9 (gG P w K ae base N cn scope f bK A outer s H E).stack) [] bJ H' sc.heap s'.heap:=T.un;have Pg:∀b o,s.heap.get? b=some o->b∉f9 outer->∃cQ,B.get? b=some cQ/\(H b=none->cQ=o):=λb o e U=>by obtain⟨kI,z⟩:=I.base.there b o e (by simp[gG,j0]);obtain⟨cQ,dz,q⟩:=T.kF b kI z (CJ I e U);refine⟨cQ,dz,λn=>?_⟩;have bH:=I.base.keep b o e n U (by simp[gG,j0]);rw[z]at bH;cases bH;exact q (I.base.free b _ e n (by simp[gG,j0]))
 refine⟨bw,cls,a0,H',B,rfl,⟨fX,T.os.trans I.os,T.bare,T.ok,⟨λb o e n U e2=>?_,λb o e n U e2=>?_,λb o e n e2=>?_,λb o e e2=>?_,λb xs q=>T.un.ir b xs (I.base.ir b xs q),λb o u q=>T.un.jt b o u (I.base.jt b o u q),λb ps q=>?_⟩,Pg⟩,mP⟩
 .obtain⟨cQ,z,q⟩:=Pg b o e U;rw[q n]at z;exact fX.1 b o z
 .obtain⟨sl,z⟩:=I.base.slot b o e n U e2;have c2:b∈f9 (gG P w K ae base N cn scope f bK A outer s H E).stack:=by show b∈f9 (_::outer);unfold f9;rw[Eu];exact oz _ U
  obtain⟨Dd,bH⟩:=VR.slot b _ z (I.base.free b o e n e2) c2 (by simp);obtain⟨_,ob,b9,gY⟩:=T.fI.2.2.1.mem c2;rw[bH]at b9;cases b9;obtain⟨pw,dz⟩:=dJ b _ bH gY;exact⟨pw,dz⟩
 .obtain⟨kI,z⟩:=I.base.there b o e e2;exact VR.free b kI z (I.base.free b o e n e2) (by simp)
 .by_cases U:b∈f9 outer
  .obtain⟨_,ob,b9,gY⟩:=fX.2.2.1.mem U;exact⟨ob,b9⟩
  .obtain⟨cQ,z,_⟩:=Pg b o e U;exact⟨cQ,fX.1 b cQ z⟩
 .obtain⟨eO,ax⟩:=I.base.j5 b ps q;obtain⟨hD,az⟩:=T.un.j5 b _ ax;exact⟨eO++hD,by rw[az,ý]⟩
structure Exc(K:aY)(ae:cN)(x:Str)(C:Addr)(bm:b_)(fM:String):Prop where
 bound:ae x=some (.ref C)
 obj:Al K C bm fM=true
theorem Exc.own{x:Str}{C:Addr}{bm:b_}{fM:String}{h:Heap}(e:Exc K ae x C bm fM)(X:K.In h):OwnCls x C bm fM ae h:=by
 refine⟨e.bound,?_⟩;have q:=e.obj;unfold Al at q;split at q
 .rename_i dd cd sl aR;split at q
  .rename_i zg Ls k0 k1 k2 k3 n k5 hm hs;simp only[kR,oK,Su]at q;obtain⟨⟨⟨⟨⟨rfl,rfl⟩,Bz⟩,cO⟩,bo⟩,xG⟩:=q;obtain⟨nm,bs,mro,ns,kK,hd,sn,sub,ab,col,del⟩:=cd;dsimp only at hm Bz bo xG;subst hm Bz;obtain⟨Z4⟩:=sl;simp only at hs;subst hs;exact⟨Ls,ns,nm,kK,bs,hd,sn,sub,ab,col,dd,k0,k1,k2,k3,k5,_,X _ _ aR,.of_isNs (PySem.W.isNs_of_in X bo),PySem.W.nsMap_none_of_in X bo xG,PySem.W.tail_of_in X cO⟩
  .cases q
 .cases q
noncomputable def aeY(C:Addr)(E:cE)(cb:gF):e0:=λ_ σ H=>cb σ H λvs H1=>vs.length<=sizeLine/\E (.ref C) none H1
theorem G8{x:Str}{C:Addr}{B fM mV:String}{bm:b_}{np fF pos:Pos}{cI:Expr}{es:gm}{cb:gF}(F:v' B fM mV bm)(O:Exc K ae x C bm fM)(bx:kv (gG P w K ae base N cn scope f bK A outer s H E) x)(aH:ht (gG P w K ae base N cn scope f bK A outer s H E) (cI::es) cb)(kj:(x==("__debug__":Str))=false:=by decide)(he:eb (cI::es) (gG P w K ae base N cn scope f bK A outer s H E).env=(false,eval cI (gG P w K ae base N cn scope f bK A outer s H E).env)::eb es (gG P w K ae base N cn scope f bK A outer s H E).env:=by rfl)(fW:(hL fF (eb es (gG P w K ae base N cn scope f bK A outer s H E).env)).any (·.1)=false:=by rfl):
  g0 (gG P w K ae base N cn scope f bK A outer s H E) (.Raise (some (.Call (.Name x np) (cI::es) [] fF)) none pos) (aeY C E cb):=by
 intro pins s1 σ H1 D I h;obtain⟨c3,U3,nm,q,bs,hdct,sn,sub,ab,col,dd,k0,k1,k2,k3,k5,mN,dV,fJ,xG,T⟩:=(O.own I.mod.th).obj;have sX:Al K C bm fM=true:=O.obj;refine wpAny_Raise_call_subT (C:=C) (nm:=nm) (q:=q) (N:=U3) (bs:=bs) (bm:=c3) (hdct:=hdct) (sn:=sn) (sub:=sub) (ab:=ab) (col:=col) (dd:=dd) (k0:=k0) (k1:=k1) (k2:=k2) (k3:=k3) (k5:=k5)
  F (mN:=mN) (T.hasType F.hasBase) (I.ok.hd rfl) ?_ xG (lw I bx O.bound ⟨rfl,?_⟩ kj)
 .rw[he];show(false||(hL fF (eb es (gG P w K ae base N cn scope f bK A outer s H E).env)).any (·.1))=false;rw[fW];rfl
 .have qi:=aH fF pins s1 σ H1 _ I h;rw[he]at qi⊢;refine IB (bS qi λus s2⟨vs,aj,bT,df,z,mP⟩=>⟨rfl,by rw[<-df.length];exact z,bT.gU _ _ dV,fJ.keeps bT.gU,T.keeps bT.gU,λh' bw hm=>aqm bT hm mP⟩)
theorem yt{x:Str}{st:Stmt}{fd:c1}{ps:bR}{k:Nat}{sp:c9}(F:b6 K x cn st f fd)(S:d0 N ps (dx st))(len:∀vs H Q E,sp vs H Q E->vs.length=ps.length)(uZ:∀(bK:Value)(A:cU)(outer:List Env)(s:aF)(H:aa)(vs:a')(Q:bl)(E:cE),gf k (A.deeper (qd cn (dx st) s.heap.objs.size f bK))->sp vs H Q E->
   ∃t,hI (gG P w K ae base N cn (dx st) f bK A outer s H E) (tc st) t/\t {cy:=λ_ H'=>Q .bV H',rt:=Q} (start N vs) H):a4 P w K ae base (gP P w) (k+1) f fd ps sp:=by obtain⟨lF,cR,di,doc,pm,an,bK,fU,oc,rfl,lk,lr⟩:=F.ex;exact Jj lk lr S len λA outer s H vs Q E ay nW=>uZ bK A outer s H vs Q E ay nW
noncomputable abbrev EY:=cE->TE
noncomputable abbrev E0:=Ends->(St->cE)->St->aa->Prop
end
section
variable{X:bB}{e o:Expr}{es:gm}{pos fE p:Pos}{k:Nat}{f C:Addr}{fd:c1}{ps:bR}{sp:c9}{cb:TE}{t:gF}{m x:Str}
theorem Zk{α:Type}{X:bB}{pins:cG}{M:oD}{A:cU}{c:Sem α}{Q:α->aF->Prop}{E:cx}{s:aF}(h:aM M A c Q (λ_ _=>False) s):aM M A c Q E s:=
 e6 h (λ_ _ q=>q) λ_ _ z=>h7 z
noncomputable def aeZ(C:Addr)(m:Str)(sp:c9)(cb:TE)(t:gF):EY:=λE=>Ji C m sp [] E cb t
noncomputable def ae0(b3:EY):E0:=λD E σ H=>b3 (E σ) σ H λ_ H1=>D.cy σ H1
end
noncomputable def rC(K:aY)(C R:Addr):Bool:=match K.lookup C with
 |some ⟨.type "type",_,.cls cd,sl⟩=>(match cd.mro,sl.toList with
  |.ref zg::bm,[_,_,_,_,some (.builtin _),_]=>zg==C&&!cd.hasDel&&bm.contains (.type "BaseException")&&(dA C::bm).contains (.ref R)
  |_,_=>false)
 |_=>false
theorem ζ{K:aY}{h:Heap}{C R:Addr}(X:K.In h)(q:rC K C R=true):∃nm kK N bs bm hdct sn sub ab col dd k0 k1 k2 k3 k5 fM,
  h.get? C=some (xc nm kK C N bs bm hdct sn sub ab col dd k0 k1 k2 k3 k5 fM)/\bm.contains (.type "BaseException")=true/\(dA C::bm).contains (.ref R)=true:=by
 unfold rC at q;split at q
 .rename_i dd cd sl aR;split at q
  .rename_i zg bm k0 k1 k2 k3 n k5 hm hs;simp only[kR,Su]at q;obtain⟨⟨⟨bq,Bz⟩,U⟩,ay⟩:=q;have bq:=oK.mp bq;subst bq;obtain⟨nm,bs,mro,ns,kK,hd,sn,sub,ab,col,del⟩:=cd;dsimp only at hm Bz;subst hm Bz;obtain⟨Z4⟩:=sl;simp only at hs;subst hs;exact⟨nm,kK,ns,bs,bm,hd,sn,sub,ab,col,dd,k0,k1,k2,k3,k5,n,X _ _ aR,U,ay⟩
  .cases q
 .cases q
theorem ac8{M:oD}{A:cU}{E:cx}{K:aY}{C R bw:Addr}{s:aF}{rF:Obj}{Q:Bool->aF->Prop}(X:K.In s.heap)(aC:rC K C R=true)(ay:rC K R R=true)(he:s.heap.get? bw=some rF)(MP:rF.cls=.ref C)(bp:Q true s):aM M A (excMatches (.ref bw) (.ref R)) Q E s:=by
 obtain⟨nm,kK,N,bs,bm,hdct,sn,sub,ab,col,dd,k0,k1,k2,k3,k5,fM,dV,U,alk⟩:=ζ X aC;obtain⟨anA,aod,N',ajE,Ls,arw,aoK,aoM,aiN,ajN,oN,arG,arH,arI,arJ,arK,ar5,cF,c2,arv⟩:=ζ X ay;have MN:(dA R::Ls).contains (.type "BaseException")=true:=by rw[abx,c2,ċ]
 have f:=tc_notTuple;obtain⟨aP,g,d,t,os⟩:=s;unfold excMatches
 repeat (first|(with_reducible refine j6 he ?_;rw[MP])|with_reducible refine j6 cF ?_|(with_reducible refine QZ cF ?_;rw[MN])|(with_reducible refine QZ dV ?_;rw[alk])|wp_step)
 exact bp
noncomputable abbrev Ht(X:bB)(bw:Addr):bB:={X with A:=X.A.mark (some (.ref bw)),calm:=false,dD:=λ_ _=>False}
section
variable{X:bB}{pins:cG}{σ:St}{H:aa}{s:aF}
theorem Inv.Di(I:Inv X pins σ H s)(bw:Addr):Inv (Ht X bw) pins σ H s:=
 ⟨⟨I.ok.mod,I.ok.kind,I.ok.glob,I.ok.blt,I.ok.above,I.ok.inj,I.ok.has,I.ok.uH,λz=>bE (show false=true from z) fz,I.ok.frames,I.ok.qH,I.ok.Ff,I.ok.bs,I.ok.p8,I.ok.vq,I.ok.xd,I.ok.jT,I.ok.rg⟩,I.os,I.bare,I.base,I.loc,I.cell,I.free,I.l9,I.pin,I.bo,I.len⟩
theorem Inv.HZ{bw:Addr}(hd:X.calm=true->X.A.handled=none)(I:Inv (Ht X bw) pins σ H s):Inv X pins σ H s:=
 ⟨⟨I.ok.mod,I.ok.kind,I.ok.glob,I.ok.blt,I.ok.above,I.ok.inj,I.ok.has,I.ok.uH,hd,I.ok.frames,I.ok.qH,I.ok.Ff,I.ok.bs,I.ok.p8,I.ok.vq,I.ok.xd,I.ok.jT,I.ok.rg⟩,I.os,I.bare,I.base,I.loc,I.cell,I.free,I.l9,I.pin,I.bo,I.len⟩
theorem ap2:jn "enumerate"=some (.type "enumerate"):=by decide+kernel
end
noncomputable def q0(K:aY)(a:Addr):e7:=
 ⟨λi H=>∃xs x,aS K H a xs/\xs[i]?=some x,λi H v H'=>∃p x,H p=none/\v=.ref p/\(∀xs,aS K H a xs->xs[i]?=some x)/\H'=upd H p (.tup [.int i,x]),λi H=>∃xs,aS K H a xs/\xs.length<=i⟩
theorem ř{P:bP}{w:bt}{K:aY}{elts:gm}{k:Nat}{pos:Pos}(a e it:Addr)(X9:e≠it):
  Turn P w K (.Tuple elts k pos) (q0 K a) [e,it] e (λi h=>(∃old,IsEnum h e it ((i:Nat):Int) old)/\h.IsListIter it a i)where
 mem:=by simp
 obj:=λi h st b U=>by
  obtain⟨⟨old,he⟩,o,aR,c,d⟩:=st;rcases fp.mp U with rfl|U
  .exact⟨_,he,λv z=>by
    have dz:SO _=SN v:=z;cases dz⟩
  .have q:b=it:=by simpa using U
   subst q;exact⟨o,aR,λv z=>by rw[d]at z;cases z⟩
 keep:=λi h h' st cm=>by obtain⟨⟨old,he⟩,hit⟩:=st;exact⟨⟨old,cm e (by simp) _ he⟩,hit.at λo q=>cm it (by simp) o q⟩
 item:=by
  intro X f' hw fa aC i pins s σ H E I hf st bx;subst f' hw fa;obtain⟨⟨old,he⟩,hit⟩:=st;obtain⟨xs,x,bp,ao⟩:=bx;obtain⟨its,cg,p,hz⟩:=I.list bp;obtain⟨u,cJ,eA⟩:=cg.get ao;obtain⟨cI,ax,az,cq,et,g6⟩:=hf e (by simp);obtain⟨f0,f1,f2,dB,f4,e_⟩:=hf it (by simp);refine wpAny_pyNext_enum_item he hit p.isList (x:=u) (by simpa using cJ) X9 λag aR al1 i6 hsz aE=>⟨_,rfl,?_⟩
  refine wpAny_letOwnedTupleGo_enum aR λaf BC km=>?_;have km:kx e ag af:=km;have aD:H s.heap.objs.size=none:=I.fresh;have ph:∀b o,b∉[e,it]->s.heap.get? b=some o->af.get? b=some o:=λb o U q=>by have jw:b≠e:=λz=>U (by simp[z]);have alE:b≠it:=λz=>U (by simp[z]);exact(km.2 b jw).trans (aE b o jw alE q)
  have X':e<s.heap.objs.size:=dm he;have Mz:af.get? s.heap.objs.size=some {cls:=.type "tuple",data:=.seq #[.int i s.toks,u]}:=(km.2 _ (uq X')).trans i6;have pf:∀b q,H b=some q->b∉[e,it]:=λb q U z=>by
   rcases fp.mp z with rfl|z
   .rw[cI]at U;cases U
   .have dz:b=it:=by simpa using z
    subst dz;rw[f0]at U;cases U
  refine⟨.ref s.heap.objs.size,upd H s.heap.objs.size (.tup [.int i,x]),?_,rfl,⟨s.heap.objs.size,x,aD,rfl,λys aZ=>by rw[I.YX aZ bp];exact ao,rfl⟩,⟨⟨u,?_⟩,al1.at λo q=>(km.2 it X9.symm).trans q⟩,λb U=>?_⟩
  .show Inv X pins σ (upd H s.heap.objs.size (.tup [.int i,x])) {s with heap:=af,gens:=s.gens,drawn:=s.drawn,toks:=s.toks+1};refine I.step (g':=s.gens) (d':=s.drawn) (t':=s.toks+1) (h':=af) (ch:=[e,it]) (λb U=>?_) (λb o _ _ aC q _=>ph b o aC q) (λb o _ _ aC q _=>⟨o.slots,ph b o aC q⟩) (λb o aC q n=>?_)
    (λb o aC q=>⟨o,ph b o aC q⟩) (λb ys q=>?_) (λb o v q=>?_) (λb ps q=>⟨#[],?_⟩) (λm hm=>?_) (λb v q=>?_) I.bare
   .rcases fp.mp U with rfl|U
    .exact⟨cq,ax,et,g6⟩
    .have dz:b=it:=by simpa using U
     subst dz;exact⟨dB,f1,f4,e_⟩
   .rw[aL (dP (dm q))];exact n
   .rw[aL (dn q aD)];exact q
   .rw[aL (dn q aD)];exact q
   .rw[aL (dn q aD),q];simp
   .obtain⟨o,es,ep,jz,r⟩:=hm;refine⟨o,es,ep,ph _ o (λz=>?_) jz,r⟩;rcases fp.mp z with z|z
    .exact ax z.symm
    .exact f1 (by simpa using z:X.env.locals=it).symm
   .by_cases U:b=s.heap.objs.size
    .subst U;rw[a8]at q;cases q;exact⟨(by show 2<=sizeLine;decide),[.int i s.toks,u],.cons ⟨_,rfl⟩ (.cons eA .nil),_,Mz,rfl,_,rfl⟩
    .rw[aL U]at q;refine(I.bo b v q).oj (λc y aC z=>ph c y ?_ z) (λc z=>by rw[aL (dn z aD)];exact z) λc ys z=>by rw[aL (dn z aD)];exact z
     rcases aC with rfl|aC
     .exact pf _ _ q
     .exact pf _ _ aC
  .have:(((i+1:Nat):Nat):Int)=(i:Int)+1:=by omega
   rw[this];exact BC
  .rcases fp.mp U with rfl|U
   .rw[aL (dP X')];exact cI
   .have dz:b=it:=by simpa using U
    subst dz;obtain⟨_,z,_⟩:=hit;rw[aL (dP (dm z))];exact f0
 done:=by intro X f' hw fa aC i pins s σ H E I hf st bx;subst f' hw fa;obtain⟨⟨old,he⟩,hit⟩:=st;obtain⟨xs,bp,ao⟩:=bx;obtain⟨its,cg,p,hz⟩:=I.list bp;obtain⟨f0,f1,f2,dB,f4,e_⟩:=hf it (by simp);have aq:=cg.length;exact wpAny_pyNext_enum_end (I.ok.hd aC) he hit p.isList (by simp;omega) λh' dN=>⟨rfl,I.turned (t':=s.toks) (λb o U e=>dN b o U e) f0 f1 dB f4 e_⟩
 self:=λ_ _ _ _ _ st h=>by obtain⟨⟨old,he⟩,_⟩:=st;exact apJ he h
section
variable{X:bB}{elts:gm}{k:Nat}{Dv:Pos}
inductive agh(K:aY)(vs:a')(H:aa)(R:e7->aa->Prop):Prop where
 |mk (a:Addr) (b0:vs=[.ref a]) (bH:∃xs,aS K H a xs) (cu:R (q0 K a) H)
noncomputable def agi(K:aY)(cb:gF):TI:=λσ H R=>cb σ H λvs H1=>agh K vs H1 R
theorem vf{l:Expr}{cb:gF}{p pos:Pos}(bx:kv X "enumerate")(hm:X.ae "enumerate"=none)(aH:ht X [l] cb)(hs:eb [l] X.env=[(false,eval l X.env)]:=by rfl):my X (.Tuple elts k Dv) (.Call (.Name "enumerate" p) [l] [] pos) (agi X.K cb):=by
 intro pins s σ H R I h;refine Call_ (Dl I bx hm ap2 (Va (bS (aH pos pins s σ H _ I h) λus s1⟨vs,H1,aX,b',bq⟩=>?_) hs rfl));obtain⟨a,e,⟨xs,bp⟩,q⟩:=bq;subst e;cases b' with
 |cons r qD=>
  cases qD;cases r;obtain⟨its,cg,p,hz⟩:=aX.list bp;refine call_enumerate_list p.isList λh' he hit hsz cm=>?_;refine apJ he ?_;have ne:s1.heap.objs.size+1≠s1.heap.objs.size:=acB _;refine⟨s1.heap.objs.size+1,[s1.heap.objs.size+1,s1.heap.objs.size],_,_,H1,rfl,aX.kept (t':=s1.toks) λb o e=>cm b o e,ř a _ _ ne,⟨⟨_,he⟩,hit⟩,λb U=>?_,q⟩;rcases fp.mp U with rfl|U
  .exact aX.rf (wO _) (aX.bo.fresh (wO _))
  .have z:b=s1.heap.objs.size:=by simpa using U
   subst z;exact aX.rf (b1 _) (aX.bo.fresh (b1 _))
end
section
variable{X:bB}{K:aY}(fa:X.K=K)
include fa
theorem ö:wD X (V7 K):=by subst fa;exact gS
theorem td:wD X (V8 K):=by subst fa;exact d5
theorem x'{pos:Pos}{es:gm}{k:Nat}{t:p0}{n:Nat}(aC:X.calm=true)(h:Ah X es t)(aD:(uB es X.env).length=n:=by rfl)(mT:(uB es X.env).findIdx? (·.1)=none:=by rfl):pV X (.Tuple es k pos) (wA K n t):=by subst fa;exact yx aC h aD mT
theorem Ó:iF X (.builtin "isinstance") (VW K):=by subst fa;exact oP
end
theorem SQ{K:aY}{a:Addr}{xs:a'}{cs:jj}{σ rest:ar.St}{tt:TT}{b3:TE}{Q:bl}{H1:aa}(gp:gW cs σ=none::none::rest)(aH:aS K H1 a xs)(aq:xs.length<sizeLine)(p:Nat->V->Bool)(f:Nat->V->V)(test:∀(i:Nat)(x:V)(aj:aa)(R:Bool->aa->Prop),xs[i]?=some x->aT H1 aj->(∀bY,aT aj bY->R (p i x) bY)->tt (some (.int i)::some x::rest) aj R)(elt:∀(i:Nat)(x:V)(aj:aa)(R:bl),xs[i]?=some x->p i x=true->aT H1 aj->(∀bY,aT aj bY->R (f i x) bY)->b3 (some (.int i)::some x::rest) aj R)(fin:∀(D:Addr)(H':aa),H1 D=none->H' D=some (.lst ((xs.zipIdx.filter λz=>p z.2 z.1).map λz=>f z.2 z.1))->aT H1 H'->Q (.ref D) H'):
  ∀D,H1 D=none->∃W:Nat->Nat->List V->ar.St->aa->Prop,(∃m,W 0 m [] (gW cs σ) (upd H1 D (.lst [])))/\∀i m ys a_ H',W i m ys a_ H'->H' D=some (.lst ys)/\ys.length<sizeLine/\
   (((q0 K a).stop i H'/\Q (.ref D) H')\/((q0 K a).go i H'/\∀x aj,(q0 K a).ni i H' x aj->wA K 2 (rI (g5 0) (rI (g5 1) zR)) x a_ aj λgr bL=>tt gr bL λb eP=>
    if b=true then b3 gr eP λy bY=>bY D=some (.lst ys)/\∃c5,c5<m/\W (i+1) c5 (ys++[y]) gr (upd bY D (.lst (ys++[y])))
    else∃c5,c5<m/\W (i+1) c5 ys gr eP)):=by
 intro D ck;have DV:xs.zipIdx.length=xs.length:=by simp
 refine⟨λi m ys a_ H'=>m=xs.length-i/\i<=xs.length/\ys=((xs.zipIdx.take i).filter λz=>p z.2 z.1).map (λz=>f z.2 z.1)/\(∃o cQ,a_=o::cQ::rest)/\aT H1 H'/\H' D=some (.lst ys),
  ⟨xs.length,by simp,dM _,by simp,⟨none,none,gp⟩,λb o e=>?_,a8⟩,?_⟩
 .rw[aL (dn e ck)];exact e
 .rintro i m ys a_ H' ⟨rfl,ai,rfl,⟨o,cQ,rfl⟩,aI,eG⟩;have gJ:aS K H' a xs:=aI.seq aH;refine⟨eG,mx ?_ aq,?_⟩
  .rw[bh];refine hc (si _ _) ?_;rw[f_,DV];exact UT _ _
  by_cases bZ:i<xs.length
  .have ex:xs[i]?=some xs[i]:=ct bZ;refine .inr ⟨⟨xs,_,gJ,ex⟩,λx aj y=>?_⟩;obtain⟨q,qS,bp,rfl,e2,rfl⟩:=y;have L4:=e2 xs gJ;have rR:aT H' (upd H' q (.tup [.int i,qS])):=λb u e=>by rw[aL (dn e bp)];exact e
   refine⟨q,_,rfl,b2.of a8,rfl,⟨_,_,rfl,⟨_,_,rfl,rfl,?_⟩⟩⟩;show tt (some (.int i)::some qS::rest) _ _;refine test i qS _ _ L4 (aI.trans rR) λeP s4=>?_;have aG:xs.zipIdx.take (i+1)=xs.zipIdx.take i++[(qS,i)]:=by rw[mw,List.getElem?_zipIdx,L4];simp
   have XB:=s4 _ _ (rR _ _ eG);cases aP:p i qS with
   |true=>
    refine kH ?_;refine elt i qS eP _ L4 aP ((aI.trans rR).trans s4) λbY s5=>⟨s5 _ _ XB,xs.length-(i+1),by omega,rfl,bZ,?_,⟨_,_,rfl⟩,λb ob e=>?_,a8⟩
    .rw[aG,pO,fo];simp[aP]
    .rw[aL (dn e ck)];exact s5 _ _ (s4 _ _ (rR _ _ (aI _ _ e)))
   |false=>
    refine lD ⟨xs.length-(i+1),by omega,rfl,bZ,?_,⟨_,_,rfl⟩,(aI.trans rR).trans s4,XB⟩;rw[aG,pO,fo];simp[aP]
  .have e:i=xs.length:=by omega
   subst e;refine .inl ⟨⟨xs,gJ,b1 _⟩,fin D H' ck ?_ aI⟩;rw[eG,<-DV,lY]
end cK
namespace ar
open PySem PySem.Spec PyProof.Rows
section
variable{κ:Type}[DecidableEq κ]
noncomputable def cW(kvs:List (κ×V))(k:κ):Option V:=(kvs.find? λcA=>decide (cA.1=k)).map (·.2)
noncomputable def ez(kvs:List (κ×V))(k:κ)(v:V):List (κ×V):=
 if(kvs.any λcA=>decide (cA.1=k))=true then kvs.map (λcA=>if cA.1=k then(cA.1,v)else cA)else kvs++[(k,v)]
theorem l5{p:κ×V}{r:List (κ×V)}{k:κ}(e:p.1=k):cW (p::r) k=some p.2:=by simp[cW,z1,e]
theorem k8{p:κ×V}{r:List (κ×V)}{k:κ}(e:¬p.1=k):cW (p::r) k=cW r k:=by simp[cW,z1,e]
theorem oQ(k:κ):∀kvs:List (κ×V),(kvs.any λcA=>decide (cA.1=k))=(cW kvs k).isSome
 |[]=>rfl
 |p::r=>by
  rw[Ep];by_cases e:p.1=k
  .simp only[l5 e,dU e,Bool.true_or,Option.isSome_some]
  .rw[k8 e,eM e,Bool.false_or];exact oQ k r
theorem å(k j:κ)(y:V):∀kvs:List (κ×V),cW (kvs.map λcA=>if cA.1=k then(cA.1,y)else cA) j=(cW kvs j).map λx=>if j=k then y else x
 |[]=>rfl
 |p::r=>by
  have bk:=å k j y r;rw[gk];by_cases h:p.1=k
  .rw[aO h];by_cases e:p.1=j
   .rw[l5 (p:=(p.1,y)) e,l5 e,JO,aO (e.symm.trans h)]
   .rw[k8 (p:=(p.1,y)) e,k8 e,bk]
  .rw[aJ h];by_cases e:p.1=j
   .rw[l5 (p:=p) e,l5 e,JO,aJ (λz=>h (e.trans z))]
   .rw[k8 (p:=p) e,k8 e,bk]
theorem Õ(k j:κ)(y:V):∀kvs:List (κ×V),cW kvs k=none->cW (kvs++[(k,y)]) j=if j=k then some y else cW kvs j
 |[],_=>by
  by_cases e:k=j
  .rw[aO e.symm];exact l5 (p:=(k,y)) e
  .rw[aJ (λz=>e z.symm)];exact k8 (p:=(k,y)) e
 |p::r,aD=>by
  rw[List.cons_append];have aE:¬p.1=k:=λz=>by rw[l5 z]at aD;cases aD
  rw[k8 aE]at aD;have bk:=Õ k j y r aD;by_cases e:p.1=j
  .rw[l5 e,l5 e,aJ (λz=>aE (e.trans z))]
  .rw[k8 e,k8 e,bk]
theorem Cq(kvs:List (κ×V))(k j:κ)(y:V):cW (ez kvs k y) j=if j=k then some y else cW kvs j:=by
 unfold ez;by_cases a:(kvs.any λcA=>decide (cA.1=k))=true
 .rw[aO a,å];rw[oQ]at a;by_cases e:j=k
  .obtain⟨x,ao⟩:=Ag.mp a;rw[aO e,e,ao,JO,aO rfl]
  .rw[aJ e];cases cW kvs j with
   |none=>rfl
   |some x=>rw[JO,aJ e]
 .rw[aJ a];refine Õ k j y kvs ?_;rw[oQ]at a;cases q:cW kvs k with
  |none=>rfl
  |some x=>rw[q]at a;exact(a rfl).elim
theorem BU(kvs:List (κ×V))(k:κ)(v:V):(ez kvs k v).length<=kvs.length+1:=by
 unfold ez;split
 .rw[bh];omega
 .rw[e8,hH,sj];omega
theorem xS{kvs:List (κ×V)}{k:κ}(v:V)(h:cW kvs k=none):ez kvs k v=kvs++[(k,v)]:=by unfold ez;rw[oQ,h];exact aJ (by decide)
theorem i'.N2{o:Option V}{u:Aw}(r:i' o u):o.isSome=u.isSome:=by
 cases o with
 |none=>cases u with
  |none=>rfl
  |some _=>exact(show False from r).elim
 |some _=>cases u with
  |none=>exact(show False from r).elim
  |some _=>rfl
theorem i'.getD{o:Option V}{u:Aw}{d:V}{d':Value}(r:i' o u)(bG:RelV d d'):RelV (o.getD d) (u.getD d'):=by
 cases o with
 |none=>cases u with
  |none=>exact bG
  |some _=>exact(show False from r).elim
 |some _=>cases u with
  |none=>exact(show False from r).elim
  |some _=>exact r
theorem gv.val{kvs:List (κ×V)}{vs:List (κ×Value)}(r:gv kvs vs)(k:κ):i' (cW kvs k) (yW vs k):=by
 unfold gv at r
 induction r with
 |nil=>exact mD
 |@cons p q ps ml h t bk=>
  obtain⟨ag,af⟩:=h;by_cases e:p.1=k
  .have b9:q.1=k:=ag.symm.trans e;have b:yW (q::ml) k=some q.2:=by simp[yW,z1,b9]
   rw[l5 e,b];exact af
  .have b9:¬q.1=k:=λz=>e (ag.trans z);have b:yW (q::ml) k=yW ml k:=by simp[yW,z1,b9]
   rw[k8 e,b];exact bk
theorem gv.any{kvs:List (κ×V)}{vs:List (κ×Value)}(r:gv kvs vs)(k:κ):(kvs.any λcA=>decide (cA.1=k))=vs.any λcA=>decide (cA.1=k):=by
 unfold gv at r
 induction r with
 |nil=>rfl
 |cons h t bk=>rw[Ep,Ep,bk,h.1]
theorem gv.PR{kvs:List (κ×V)}{vs:List (κ×Value)}(r:gv kvs vs)(k:κ){y:V}{u:Value}(bW:RelV y u):
  gv (kvs.map λcA=>if cA.1=k then(cA.1,y)else cA) (vs.map λcA=>if cA.1=k then(cA.1,u)else cA):=by
 unfold gv at r⊢
 induction r with
 |nil=>exact .nil
 |@cons p q ps ml h t bk=>
  rw[gk,gk];refine .cons ?_ bk;obtain⟨ag,af⟩:=h;by_cases e:p.1=k
  .rw[aO e,aO (ag.symm.trans e)];exact⟨ag,bW⟩
  .rw[aJ e,aJ (λz=>e (ag.trans z))];exact⟨ag,af⟩
theorem gv.put{kvs:List (κ×V)}{vs:List (κ×Value)}(r:gv kvs vs)(k:κ){y:V}{u:Value}(bW:RelV y u):gv (ez kvs k y) (stored vs k u):=by
 unfold ez stored;rw[r.any k];by_cases e:(vs.any λcA=>decide (cA.1=k))=true
 .rw[aO e,aO e];exact r.PR k bW
 .rw[aJ e,aJ e];exact Paired.snoc r ⟨rfl,bW⟩
theorem gv.length{kvs:List (κ×V)}{vs:List (κ×Value)}(r:gv kvs vs):kvs.length=vs.length:=h8 r
theorem vR{P:bP}{w:bt}{k:br}{u:Value}(r:RelV (di k) u):(hx P w).is k u=true:=by
 cases k with
 |inl i=>obtain⟨t,e⟩:=(show∃t,u=mE i t from r);subst e;exact aqb P w i t
 |inr x=>obtain⟨t,e⟩:=(show∃t,u=Ax x t from r);subst e;exact aqc P w x t
theorem á{P:bP}{w:bt}:∀{ks:List br}{us:b_},cp (ks.map di) us->ItemsAre (hx P w) ks us
 |[],_,r=>by rw[Jw]at r;cases r;exact .nil
 |k::ks,_,r=>by
  rw[gk]at r;cases r with
  |cons h t=>exact .cons (vR h) (á t)
noncomputable abbrev KT(H:aa):List (List br×V)->List (List br×Addr×Value)->Prop:=bX λp q=>p.1=q.1/\H q.2.1=some (.tup (p.1.map di))/\RelV p.2 q.2.2
theorem KT.val{H:aa}{kvs:List (List br×V)}{xs:List (List br×Addr×Value)}(r:KT H kvs xs)(k:List br):i' (cW kvs k) ((sy xs k).map (·.2)):=by
 induction r with
 |nil=>exact mD
 |@cons p q ps ml h t bk=>
  obtain⟨ag,_,af⟩:=h;by_cases e:p.1=k
  .have b9:q.1=k:=ag.symm.trans e;have b:sy (q::ml) k=some q.2:=by simp[sy,z1,b9]
   rw[l5 e,b];exact af
  .have b9:¬q.1=k:=λz=>e (ag.trans z);have b:sy (q::ml) k=sy ml k:=by simp[sy,z1,b9]
   rw[k8 e,b];exact bk
theorem KT.PR{H:aa}{kvs:List (List br×V)}{xs:List (List br×Addr×Value)}(r:KT H kvs xs)(k:List br){y:V}{u:Value}(bW:RelV y u):
  KT H (kvs.map λcA=>if cA.1=k then(cA.1,y)else cA) (xs.map (putAt k u)):=by
 induction r with
 |nil=>exact .nil
 |@cons p q ps ml h t bk=>
  rw[gk,gk];refine .cons ?_ bk;obtain⟨ag,af,aV⟩:=h;unfold putAt;by_cases e:p.1=k
  .rw[aO e,aO (ag.symm.trans e)];exact⟨ag,af,bW⟩
  .rw[aJ e,aJ (λz=>e (ag.trans z))];exact⟨ag,af,aV⟩
theorem KT.put{H:aa}{kvs:List (List br×V)}{xs:List (List br×Addr×Value)}(r:KT H kvs xs)(k:List br){b:Addr}{y:V}{u:Value}(U:H b=some (.tup (k.map di)))(bW:RelV y u):
  KT H (ez kvs k y) (storedH xs k b u):=by
 have e:(kvs.any λcA=>decide (cA.1=k))=(sy xs k).isSome:=by rw[oQ,(r.val k).N2,ac3]
 unfold ez storedH;rw[e];by_cases q:(sy xs k).isSome=true
 .rw[aO q,aO q];exact r.PR k bW
 .rw[aJ q,aJ q];exact Paired.snoc r ⟨rfl,U,bW⟩
theorem KT.keeps{H H':aa}{kvs:List (List br×V)}{xs:List (List br×Addr×Value)}(r:KT H kvs xs)(cO:∀b ys,H b=some (.tup ys)->H' b=some (.tup ys)):KT H' kvs xs:=
 bX.iN r λ_ _ z=>⟨z.1,cO _ _ z.2.1,z.2.2⟩
end
section
variable{P:bP}{w:bt}{H:aa}{h:Heap}{a:Addr}
theorem Vx{u:d4}(ok:fC P w H h)(e:fv H a u):er P w H h a u:=e.ok ok
theorem ww{kvs:List (br×V)}(ok:fC P w H h)(e:fv H a (.cD kvs)):kvs.length<=sizeLine/\(a==j4)=false/\∃vs,gv kvs vs/\h.DictOf (hx P w) a vs:=
 show er P w H h a (.cD kvs)from Vx ok e
theorem D2{kvs:List (br×V)}(ok:fC P w H h)(e:H a=some (.cD kvs)):kvs.length<=sizeLine/\(a==j4)=false/\∃vs,gv kvs vs/\h.DictOf (hx P w) a vs:=ww ok (.inl e)
theorem Dj{ks:List br}(ok:fC P w H h)(e:H a=some (.tup (ks.map di))):(tM (hx P w)).is h ks a:=by
 obtain⟨_,its,r,o,ag,af,n,aV⟩:=(show er P w H h a (.tup (ks.map di))from ok a _ e)
 exact⟨o,its.toArray,n,ag,af,aV,by simpa using á r⟩
theorem y4{kvs:List (List br×V)}(ok:fC P w H h)(e:fv H a (.c4 kvs)):kvs.length<=sizeLine/\(a==j4)=false/\
  ∃xs,KT H kvs xs/\h.DictOfH (tM (hx P w)) a xs:=by
 obtain⟨z,y,xs,r,o,es,ep,ag,af,aV,bU,dq⟩:=(show er P w H h a (.c4 kvs)from Vx ok e)
 refine⟨z,y,xs,r,o,es,ep,ag,af,aV,bU,λx ao=>?_,dq⟩;have all:∀{l:List (List br×V)}{m:List (List br×Addr×Value)},KT H l m->∀x∈m,(tM (hx P w)).is h x.1 x.2.1:=by
  intro l m q
  induction q with
  |nil=>intro x ao;exact nomatch ao
  |@cons p q ps ml bp t bk=>
   intro x ao;rcases fp.mp ao with e|ao
   .subst e;exact Dj ok (by rw[<-bp.1];exact bp.2.1)
   .exact bk x ao
 exact all r x ao
theorem Vy{kvs:List (List br×V)}(ok:fC P w H h)(e:H a=some (.c4 kvs)):kvs.length<=sizeLine/\(a==j4)=false/\
  ∃xs,KT H kvs xs/\h.DictOfH (tM (hx P w)) a xs:=y4 ok (.inl e)
end
noncomputable def h1(H:aa)(a:Addr)(y:V)(r:Option V):Prop:=
 (∃kvs k,fv H a (.cD kvs)/\y=di k/\r=cW kvs k)\/∃kvs k b,fv H a (.c4 kvs)/\y=.ref b/\H b=some (.tup (k.map di))/\r=cW kvs k
noncomputable def qR(H:aa)(a:Addr)(y v:V)(H':aa):Prop:=
 (∃kvs k,H a=some (.cD kvs)/\y=di k/\kvs.length<sizeLine/\H'=upd H a (.cD (ez kvs k v)))\/
 ∃kvs k b,H a=some (.c4 kvs)/\y=.ref b/\H b=some (.tup (k.map di))/\kvs.length<sizeLine/\H'=upd H a (.c4 (ez kvs k v))
theorem h1.k{H:aa}{a:Addr}{kvs:List (br×V)}{k:br}(e:H a=some (.cD kvs)):h1 H a (di k) (cW kvs k):=.inl ⟨kvs,k,.inl e,rfl,rfl⟩
theorem h1.t{H:aa}{a b:Addr}{kvs:List (List br×V)}{k:List br}(e:H a=some (.c4 kvs))(dN:H b=some (.tup (k.map di))):h1 H a (.ref b) (cW kvs k):=.inr ⟨kvs,k,b,.inl e,rfl,dN,rfl⟩
theorem qR.k{H:aa}{a:Addr}{kvs:List (br×V)}{k:br}{v:V}(e:H a=some (.cD kvs))(aq:kvs.length<sizeLine):qR H a (di k) v (upd H a (.cD (ez kvs k v))):=.inl ⟨kvs,k,e,rfl,aq,rfl⟩
theorem qR.t{H:aa}{a b:Addr}{kvs:List (List br×V)}{k:List br}{v:V}(e:H a=some (.c4 kvs))(dN:H b=some (.tup (k.map di)))(aq:kvs.length<sizeLine):
  qR H a (.ref b) v (upd H a (.c4 (ez kvs k v))):=.inr ⟨kvs,k,b,e,rfl,dN,aq,rfl⟩
section
variable{X:bB}{pins:cG}{σ:St}{H:aa}{s:aF}{a:Addr}{y v:V}{u r:Value}{o:Option V}{A:cU}{E:cx}
theorem Inv.big(I:Inv X pins σ H s):j4<s.heap.objs.size:=by have h:dc<s.heap.objs.size:=(I.mod.glob.keeps I.gU).lt;exact UR (by decide) h
theorem Ś{Q:cx}(cJ:A.units+1<cLine)(I:Inv X pins σ H s)(g:h1 H a y (some v))(bW:RelV y u)(h:∀gN s',Inv X pins σ H s'->RelV v gN->Q gN s'):
  aM (ba X.prog X.w) A (xq (.ref a) u) Q E s:=by
 rcases g with⟨kvs,k,e,d2,l⟩|⟨kvs,k,b,e,d2,dN,l⟩
 .subst d2;obtain⟨z,hd,vs,rel,dd⟩:=ww I.bo e;obtain⟨gN,hw,m8⟩:=i'.some_of (v:=v) (o:=yW vs k) (by rw[l];exact rel.val k);exact wpAny_getItem_of (vR bW) dd.mapOf hw (h gN _ (I.tok _) m8)
 .subst d2;cases(show u=dA b from bW);obtain⟨z,hd,xs,rel,dd⟩:=y4 I.bo e;obtain⟨gN,hw,m8⟩:=i'.some_of (v:=v) (o:=(sy xs k).map (·.2)) (by rw[l];exact rel.val k);obtain⟨p,aP,s8⟩:=ft.mp hw;refine wpAny_getItem_heap (Qs cJ) (Dj I.bo dN) dd aP ?_;rw[s8];exact h gN _ (I.tok _) m8
theorem ac9{Q:cx}(cJ:A.units+1<cLine)(I:Inv X pins σ H s)(g:h1 H a y o)(bW:RelV y u)(h:∀s',Inv X pins σ H s'->Q (.bool (!o.isSome)) s'):
  aM (ba X.prog X.w) A (hN .NotIn u (.ref a)) Q E s:=by
 rcases g with⟨kvs,k,e,d2,l⟩|⟨kvs,k,b,e,d2,dN,l⟩
 .subst d2;obtain⟨z,hd,vs,rel,dd⟩:=ww I.bo e;refine wpAny_notIn_of (vR bW) hd dd.mapOf ?_;rw[<-(rel.val k).N2,<-l];exact h _ (I.tok _)
 .subst d2;cases(show u=dA b from bW);obtain⟨z,hd,xs,rel,dd⟩:=y4 I.bo e;refine wpAny_notIn_heap (Qs cJ) (Dj I.bo dN) hd dd ?_;have q:=(rel.val k).N2;rw[ac3]at q;rw[<-q,<-l];exact h _ (I.tok _)
theorem Hu{h':Heap}{t':Nat}{ob:d4}(I:Inv X pins σ H s)(ik:z9 (H a))(hs:kx a s.heap h')(he:∃q,h'.get? a=some q)(new:er X.prog X.w (upd H a ob) h' a ob):
  Inv X pins σ (upd H a ob) {s with heap:=h',toks:=t'}:=
 I.write (x:=a) (e:=a) ik (.inl rfl) (λb q U z=>(hs.2 b U).trans z) he new
theorem Iz{P:bP}{w:bt}{H':aa}{h':Heap}{kvs:List (br×V)}{vs:List (br×Value)}(z:kvs.length<=sizeLine)(hd:(a==j4)=false)(rel:gv kvs vs)(dd:h'.DictOf (hx P w) a vs):
  er P w H' h' a (.cD kvs):=⟨z,hd,vs,rel,dd⟩
theorem ś{H':aa}{Q:Unit->aF->Prop}(cJ:A.units+1<cLine)(I:Inv X pins σ H s)(g:qR H a y v H')(bW:RelV y u)(cg:RelV v r)(h:∀s',Inv X pins σ H' s'->Q () s'):
  aM (ba X.prog X.w) A (setItem (.ref a) u r) Q E s:=by
 rcases g with⟨kvs,k,e,d2,l,LN⟩|⟨kvs,k,b,e,d2,dN,l,LN⟩
 .subst d2 LN;obtain⟨z,hd,vs,rel,dd⟩:=D2 I.bo e;have hz:vs.length<=sizeLine:=by rw[<-rel.length];exact z
  have aq:(ez kvs k v).length<=sizeLine:=by have:=BU kvs k v;omega
  refine wpAny_setItem_pairs (hsz:=hz) (vR bW) dd λh' oN hs=>h _ ?_;have he:∃q,h'.get? a=some q:=let⟨q,_,_,bp,_⟩:=oN;⟨q,bp⟩
  exact Hu I (by rw[e];exact mD) hs he (Iz aq hd (rel.put k cg) oN)
 .subst d2 LN;cases(show u=dA b from bW);obtain⟨z,hd,xs,rel,dd⟩:=Vy I.bo e;have hz:xs.length<=sizeLine:=by rw[<-h8 rel];exact z
  have aq:(ez kvs k v).length<=sizeLine:=by have:=BU kvs k v;omega
  refine wpAny_setItem_heap (hsz:=hz) (Qs cJ) (Dj I.bo dN) dd λh' oN hs=>h _ ?_;obtain⟨q,es,ep,bp,af,aV,bU,_,dq⟩:=oN;refine Hu I (by rw[e];exact mD) hs ⟨q,bp⟩ ⟨aq,hd,_,(rel.put k dN cg).keeps λc ys mL=>?_,q,es,ep,bp,af,aV,bU,dq⟩;rw[aL (hO mL e (λz=>nomatch z))];exact mL
noncomputable def VY(i:Expr):Prop:=∀eH jZ,Qj i false eH jZ=operate [eH,jZ] (xq eH jZ)
end
theorem acP{prog:bP}{w:bt}{A:cU}{E:cx}{s:aF}{env:Env}{value slice:Expr}{pos:Pos}{T id:String}{Q:cx}(aq:typeLookup (.type T) "__getitem__"=pure (some (.builtin id)))(hs:VY slice)(h:aM (ba prog w) A (eval value env) (λo dH=>aM (ba prog w) A (eval slice env) (λi qI=>qI.TypeIs o T/\aM (ba prog w) A (xq o i) Q E qI) E dH) E s):
  aM (ba prog w) A (eval (.Subscript value slice pos) env) Q E s:=by
 refine J7 (e6 h (λo dH NC=>e6 NC (λi qI ND=>?_) λ_ _ x=>x) λ_ _ x=>x);obtain⟨i6,ND⟩:=ND;unfold Qi;refine au ?_;rw[getitemInPython_of_ne i6.not_modules];refine au (apN i6 aq ?_);have fin:aM (ba prog w) A (Qj slice false o i) (λr γ=>aM (ba prog w) A (letTemporaryGo value o r >>=λ_=>pure r) Q E γ) E qI:=by rw[hs o i];exact wpAny_operating (e6 ND (λr γ amP=>au (wpAny_letTemporaryGo (a9 amP))) λ_ _ x=>x)
 first
  |exact a9 (au fin)
  |exact au (a9 (au fin))
  |exact au fin
theorem aqi{X:bB}{pins:cG}{σ:St}{H:aa}{s:aF}{a:Addr}{y:V}{o:Option V}(I:Inv X pins σ H s)(g:h1 H a y o):s.TypeIs (.ref a) "dict":=by
 rcases g with⟨kvs,k,e,_,_⟩|⟨kvs,k,b,e,_,_,_⟩
 .obtain⟨_,_,vs,_,dd⟩:=ww I.bo e;exact dd.typeIs
 .obtain⟨_,_,xs,_,dd⟩:=y4 I.bo e;exact dd.typeIs
noncomputable def agj(eg ty:TE):TE:=λσ H Q=>eg σ H λx H1=>ty σ H1 λy aj=>∃a v,x=.ref a/\h1 aj a y (some v)/\Q v aj
noncomputable def acQ(ty eg:TE):TE:=λσ H Q=>ty σ H λy H1=>eg σ H1 λx aj=>∃a o,x=.ref a/\h1 aj a y o/\Q (.bf (!o.isSome)) aj
noncomputable def agk(eg ty jE:TE):e0:=λD σ H=>jE σ H λv H1=>eg σ H1 λx aj=>ty σ aj λy bL=>∃a eP,x=.ref a/\qR bL a y v eP/\D.cy σ eP
section
variable{X:bB}{o i e value:Expr}{pos pos' Dv:Pos}{eg ty jE:TE}
theorem te(cJ:X.A.units+1<cLine)(aR:bN X o eg)(ai:bN X i ty)(hs:VY i):bN X (.Subscript o i pos) (agj eg ty):=by intro pins s σ H Q I h;refine acP PySem.F.slot_dict_getitem.lookup hs (bS (aR pins s σ H _ I h) λu s1⟨x,H1,aX,bC,bq⟩=>bS (ai pins s1 σ H1 _ aX bq) λjZ s2⟨y,aj,bT,bW,a,v,ex,g,cj⟩=>?_);subst ex;obtain rfl:u=dA a:=bC;exact⟨aqi bT g,Ś cJ bT g bW λgN s3 c_ m8=>⟨v,aj,c_,m8,cj⟩⟩
theorem Χ(cJ:X.A.units+1<cLine)(ai:bN X i ty)(aR:bN X o eg):JP X .NotIn i o (acQ ty eg):=by intro pins s σ H Q I h;refine bS (ai pins s σ H _ I h) λjZ s1⟨y,H1,aX,bW,bq⟩=>bS (aR pins s1 σ H1 _ aX bq) λu s2⟨x,aj,bT,bC,a,eH,ex,g,cj⟩=>?_;subst ex;obtain rfl:u=dA a:=bC;exact ac9 cJ bT g bW λs3 c_=>⟨.bf (!eH.isSome),aj,c_,rfl,cj⟩
theorem Hv(cJ:X.A.units+1<cLine)(aR:bN X o eg)(ai:bN X i ty)(bI:bN X value jE)(hs:yS value (some (.Subscript o i pos')) pos.line X.env=pure false):
  g0 X (.Assign [.Subscript o i pos'] value pos) (agk eg ty jE):=by intro pins s σ H D I h;refine wpAny_Assign_Subscript (bS (bI pins s σ H _ I h) λr s1⟨v,H1,aX,cg,bq⟩=>bS (aR pins s1 σ H1 _ aX bq) λu s2⟨x,aj,bT,bC,cj⟩=>bS (ai pins s2 σ aj _ bT cj) λjZ s3⟨y,bL,c_,bW,a,eP,ex,g,fk⟩=>?_) hs;subst ex;obtain rfl:u=dA a:=bC;exact ś cJ c_ g bW cg λs4 j7=>⟨σ,eP,j7,fk⟩
theorem æ{P:bP}{w:bt}{H:aa}(h:Heap)(U:j4<h.objs.size):er P w H (h.push {cls:=.type "dict",data:=.dict #[]}) h.objs.size (.cD []):=
 ⟨dM _,w6.mpr (d8 (dP U)),[],.nil,Heap.DictOf.new h⟩
theorem aat{P:bP}{w:bt}{H:aa}(h:Heap)(U:j4<h.objs.size):er P w H (h.push {cls:=.type "dict",data:=.dict #[]}) h.objs.size (.c4 []):=
 ⟨dM _,w6.mpr (d8 (dP U)),[],.nil,_,#[],0,ff _ rfl,⟨rfl,rfl,rfl⟩,rfl,rfl,pQ⟩
noncomputable def ae1:TE:=λ_ H Q=>∀p,H p=none->Q (.ref p) (upd H p (.cD []))
noncomputable def aeS:TE:=λ_ H Q=>∀p,H p=none->Q (.ref p) (upd H p (.c4 []))
end
section
variable{X:bB}{pos:Pos}
theorem ç:bN X (.Dict [] [] pos) ae1:=λpins s σ H Q I h=>
 apB ⟨.ref s.heap.objs.size,_,I.laid (a:=s.heap.objs.size) (o:=.cD []) (t':=s.toks) (λ_ _ q=>c6 _ q) (b1 _) (æ s.heap I.big),rfl,h _ (I.bo.fresh (b1 _))⟩
theorem è:bN X (.Dict [] [] pos) aeS:=λpins s σ H Q I h=>
 apB ⟨.ref s.heap.objs.size,_,I.laid (a:=s.heap.objs.size) (o:=.c4 []) (t':=s.toks) (λ_ _ q=>c6 _ q) (b1 _) (aat s.heap I.big),rfl,h _ (I.bo.fresh (b1 _))⟩
noncomputable def IJ:List (TE×TE)->St->aa->(List (V×V)->aa->Prop)->Prop
 |[],_,H,Q=>Q [] H
 | (aG,jE)::r,σ,H,Q=>aG σ H λx H1=>jE σ H1 λy aj=>IJ r σ aj λps bL=>Q ((x,y)::ps) bL
noncomputable abbrev VZ:List (V×V)->List (Value×Value)->Prop:=bX λp q=>RelV p.1 q.1/\RelV p.2 q.2
end
noncomputable def EF(X:bB)(pos:Pos)(keys:List (Option Expr))(values:gm)(rS:List (TE×TE)):Prop:=
 ∀(pins:cG)(s:aF)(σ:St)(H:aa)(Q:List (V×V)->aa->Prop),Inv X pins σ H s->IJ rS σ H Q->
  aM (ba X.prog X.w) X.A (evalPairs (pairTrees keys values X.env pos)) (λvs s'=>∃ps H',Inv X pins σ H' s'/\VZ ps vs/\Q ps H') X.dD s
theorem acH{X:bB}{pos:Pos}:EF X pos [] [] []:=λpins s σ H Q I h=>pairTrees_nil_walk ⟨[],H,I,.nil,h⟩
theorem aau{X:bB}{pos:Pos}{k v:Expr}{ks:List (Option Expr)}{vs:gm}{aG jE:TE}{rS:List (TE×TE)}(aE:bN X k aG)(bI:bN X v jE)(ay:EF X pos ks vs rS):
  EF X pos (some k::ks) (v::vs) ((aG,jE)::rS):=λpins s σ H Q I h=>
 pairTrees_cons_walk (bS (aE pins s σ H _ I h) λu s1⟨x,H1,aX,bC,bq⟩=>bS (bI pins s1 σ H1 _ aX bq) λhV s2⟨y,aj,bT,bW,cj⟩=>
  bS (ay pins s2 σ aj _ bT cj) λws s3⟨ps,bL,c_,rel,fk⟩=>⟨(x,y)::ps,bL,c_,.cons ⟨bC,bW⟩ rel,fk⟩)
noncomputable def yy(kvs more:List (br×V)):List (br×V):=more.foldl (λacc cA=>ez acc cA.1 cA.2) kvs
theorem gv.merge:∀{more:List (br×V)}{rs:List (br×Value)}{kvs:List (br×V)}{vs:List (br×Value)},gv more rs->gv kvs vs->gv (yy kvs more) (merged vs rs):=by
 intro more rs kvs vs r;unfold gv at r
 induction r generalizing kvs vs with
 |nil=>intro q;exact q
 |@cons p q ps ml h t bk=>
  intro r0;have e:gv (ez kvs p.1 p.2) (stored vs q.1 q.2):=by have:=r0.put p.1 h.2;rw[<-h.1];exact this
  exact bk e
theorem Zu:∀(more kvs:List (br×V)),(yy kvs more).length<=kvs.length+more.length
 |[],kvs=>by show kvs.length<=kvs.length+0;omega
 |p::r,kvs=>by have ag:=Zu r (ez kvs p.1 p.2);have af:=BU kvs p.1 p.2;show(yy (ez kvs p.1 p.2) r).length<=_;rw[hH];omega
theorem δ{P:bP}{w:bt}:∀{kvs:List (br×V)}{ws:List (Value×Value)},VZ (kvs.map λcA=>(di cA.1,cA.2)) ws->∃rs,Carries (hx P w) ws rs/\gv kvs rs
 |[],_,r=>by rw[Jw]at r;cases r;exact⟨[],mD,.nil⟩
 |p::kvs,_,r=>by
  rw[gk]at r;cases r with
  |@cons a b as bs h t=>
   obtain⟨rs,c,q⟩:=δ (P:=P) (w:=w) t;obtain⟨eC,dT⟩:=b;exact⟨(p.1,dT)::rs,⟨vR h.1,rfl,c⟩,.cons ⟨rfl,h.2⟩ q⟩
noncomputable def agl(rS:List (TE×TE)):TE:=λσ H Q=>∀p,H p=none->IJ rS σ (upd H p (.cD [])) λps aj=>aj p=some (.cD [])/\∃kvs:List (br×V),ps=kvs.map (λcA=>(di cA.1,cA.2))/\kvs.length<=15/\Q (.ref p) (upd aj p (.cD (yy [] kvs)))
theorem acI{X:bB}{pos:Pos}{keys:List (Option Expr)}{values:gm}{rS:List (TE×TE)}(h:EF X pos keys values rS)(MD:keys.all (·.isSome)=true)(aq:keys.length=values.length)(h0:keys≠[])(alj:keys.length<=15):bN X (.Dict keys values pos) (agl rS):=by
 intro pins s σ H Q I q;have aD:=I.bo.fresh (b1 s.heap.objs.size);have aX:=I.laid (a:=s.heap.objs.size) (o:=.cD []) (h':=s.heap.push {cls:=.type "dict",data:=.dict #[]}) (t':=s.toks) (λ_ _ q=>c6 _ q) (b1 _) (æ s.heap I.big);refine wpAny_Dict_walk (knd:=hx X.prog X.w) MD aq h0 alj (bS (h pins _ σ _ _ aX (q _ aD)) λws s2⟨ps,aj,bT,rel,e,kvs,ep,lk,cj⟩=>?_);subst ep;obtain⟨rs,c,pk⟩:=δ (P:=X.prog) (w:=X.w) rel;obtain⟨z,hd,asr,r0,dd⟩:=D2 bT.bo e;cases r0;refine⟨rs,c,dd,λh' oN hs=>⟨.ref s.heap.objs.size,_,?_,rfl,cj⟩⟩;have hz:(yy [] kvs).length<=sizeLine:=by have ag:=Zu kvs [];rw[sj]at ag;rw[pv];omega
 have he:∃q,h'.get? s.heap.objs.size=some q:=let⟨q,_,_,bp,_⟩:=oN;⟨q,bp⟩
 exact Hu bT (by rw[e];exact mD) hs he (Iz hz hd (pk.merge .nil) oN)
structure de(X:bB)(o:Expr)(m:Str)(fE:Pos)(e:Expr)(fF:Pos):Prop where
 base:AA o m X.env (eval o X.env)=eval o X.env
 c7:((hL fF (eb [e] X.env)).all (λx=>!x.1)&&(sE fF (tg [] X.env)).all (λx=>x.1.isSome)
  && decide (([e]:gm).length+([]:List zS).length+(if([]:List zS).isEmpty then 0 else 1)<30))=true
 line:(fE.endLine==fF.line)=true
 trees:hL fF (eb [e] X.env)=[(false,eval e X.env)]
structure M2(X:bB)(o:Expr)(m:Str)(fE:Pos)(e f:Expr)(fF:Pos):Prop where
 base:AA o m X.env (eval o X.env)=eval o X.env
 c7:((hL fF (eb [e,f] X.env)).all (λx=>!x.1)&&(sE fF (tg [] X.env)).all (λx=>x.1.isSome)
  && decide (([e,f]:gm).length+([]:List zS).length+(if([]:List zS).isEmpty then 0 else 1)<30))=true
 line:(fE.endLine==fF.line)=true
 trees:hL fF (eb [e,f] X.env)=[(false,eval e X.env),(false,eval f X.env)]
noncomputable def El(H:aa)(a:Addr):Prop:=(∃kvs,fv H a (.cD kvs))\/∃kvs,fv H a (.c4 kvs)
theorem T1{X:bB}{pins:cG}{σ:St}{H:aa}{s:aF}{a:Addr}(I:Inv X pins σ H s)(d:El H a):
  s.TypeIs (.ref a) "dict"/\(∀b,dA a=.ref b->∃ob,s.heap.get? b=some ob/\ob.dict=none)/\(a==j4)=false:=by
 rcases d with⟨kvs,e⟩|⟨kvs,e⟩
 .obtain⟨_,hd,vs,_,dd⟩:=ww I.bo e;refine⟨dd.typeIs,λb q=>?_,hd⟩;cases q;obtain⟨ob,_,_,ag,af,_⟩:=dd;exact⟨ob,ag,af.2.1⟩
 .obtain⟨_,hd,xs,_,dd⟩:=y4 I.bo e;refine⟨dd.typeIs,λb q=>?_,hd⟩;cases q;obtain⟨ob,_,_,ag,af,_⟩:=dd;exact⟨ob,ag,af.2.1⟩
section
variable{X:bB}{pins:cG}{σ:St}{H:aa}{s:aF}{a:Addr}{y d:V}{u r:Value}{o:Option V}{A:cU}{E:cx}
theorem aeT{Q:cx}(cJ:A.units+1<cLine)(I:Inv X pins σ H s)(g:h1 H a y o)(bW:RelV y u)(h:∀gN s',Inv X pins σ H s'->RelV (o.getD .bV) gN->Q gN s'):
  aM (ba X.prog X.w) A (call (.builtin "dict.get") [.ref a,u]) Q E s:=by
 rcases g with⟨kvs,k,e,d2,l⟩|⟨kvs,k,b,e,d2,dN,l⟩
 .subst d2;obtain⟨z,hd,vs,rel,dd⟩:=ww I.bo e;refine LD Vd dd.typeIs adB (adz _ _) (meets_dict_get (hx X.prog X.w) a (vR bW) hd) ⟨_,dd.mapOf,h _ _ (I.tok _) ?_⟩;rw[l];exact(rel.val k).getD rfl
 .subst d2;cases(show u=dA b from bW);obtain⟨z,hd,xs,rel,dd⟩:=y4 I.bo e;refine LD Vd dd.typeIs adB (adz _ _) (meetsH_dict_get (tM (hx X.prog X.w)) a b hd) ⟨Qs cJ,k,xs,Dj I.bo dN,dd,h _ _ (I.tok _) ?_⟩;rw[l];exact(rel.val k).getD rfl
end
noncomputable def aeU(eg ty:TE):TE:=λσ H Q=>eg σ H λx H1=>∃a,x=.ref a/\El H1 a/\ty σ H1 λy aj=>∃o,h1 aj a y o/\Q (o.getD .bV) aj
section
variable{X:bB}{o e f:Expr}{fE fF:Pos}{eg ty tN:TE}
theorem G9(cJ:X.A.units+1<cLine)(aR:bN X o eg)(he:bN X e ty)(m:de X o "get" fE e fF):bN X (.Call (.Attribute o "get" fE) [e] [] fF) (aeU eg ty):=by intro pins s σ H Q I h;refine apz m.base m.c7 m.line Vc Vd PySem.F.type_dict_get (bS (aR pins s σ H _ I h) λu s1⟨x,H1,aX,bC,a,ex,d,bq⟩=>?_);subst ex;obtain rfl:u=dA a:=bC;obtain⟨t1,fQ,_⟩:=T1 aX d;refine⟨t1,fQ,?_⟩;rw[m.trees];refine IA rfl (IB (IC (bS (he pins s1 σ H1 _ aX bq) λjZ s2⟨y,aj,bT,bW,eH,g,cj⟩=>SG ?_)));exact aeT cJ bT g bW λgN s3 c_ m8=>⟨_,aj,c_,m8,cj⟩
end
section
variable{κ:Type}[DecidableEq κ]
theorem é{kvs:List (κ×V)}{k:κ}(h:cW kvs k=none):¬k∈kvs.map (·.1):=by intro m;obtain⟨p,aP,e⟩:=cf.mp m;have q:(kvs.any λcA=>decide (cA.1=k))=true:=pN.mpr ⟨p,aP,dU e⟩;rw[oQ,h]at q;exact bE q (by simp)
theorem QT{kvs:List (κ×V)}{k:κ}{v:V}(h:cW kvs k=some v):k∈kvs.map (·.1):=by
 have q:(kvs.any λcA=>decide (cA.1=k))=true:=by
  rw[oQ,h]
  all_goals rfl
 obtain⟨p,aP,e⟩:=pN.mp q;exact cf.mpr ⟨p,aP,kJ e⟩
theorem SR:∀{l:List κ}{k:κ},l.Nodup->¬k∈l->(l++[k]).Nodup
 |[],k,_,_=>by simp
 |a::r,k,h,aE=>by
  obtain⟨ag,af⟩:=jf.mp h;show(a::(r++[k])).Nodup;refine jf.mpr ⟨λm=>?_,SR af λm=>aE (fp.mpr (nv m))⟩;rcases fY.mp m with q|q
  .exact ag q
  .exact aE (fp.mpr (cY (fD.mp q).symm))
theorem acJ{kvs:List (κ×V)}{k:κ}(v:V)(aD:(kvs.map (·.1)).Nodup)(h:cW kvs k=none):((ez kvs k v).map (·.1)).Nodup:=by rw[xS v h,fo];exact SR aD (é h)
end
end ar
namespace cK
section
open PySem PySem.Spec PyProof.Rows
open PySem.Builtin PySem.Builtin.Getset_descriptor
structure aih(K:aY)(C:Addr):Prop where
 ga:dg K (.ref C) "__getattribute__"=some (some (.builtin "BaseException.__getattribute__"))
 no:dg K (.ref C) "__getattr__"=some none
 aH:dg K (.ref C) "__class__"=some (some (.builtin "object.__class__"))
 aD:Ao K (.builtin "object.__class__") "__get__"=some (some (.builtin "getset_descriptor.__get__"))
 Nr:Vn K (.builtin "object.__class__")=some true
 hm:EK K C (.type "object")=some true
 U:EK K C (.type "BaseException")=some true
end
open PySem PySem.Spec PyProof.Rows ar
section
variable{X:bB}
theorem VS{k:Nat}{A:cU}(r:gf k A):A.units+65<cLine:=by have:=r.un;omega
inductive af8(K:aY)(neg:Bool)(x:ar.V)(y:ar.V)(H:aa)(Q:bl):Prop where
 |mk (d:_) (ds:_) (b0:kT K H x d) (bH:kT K H y (.list ds)) (cu:mB d=true) (cS:pW ds=true) (dw:Q (.bf (if neg then !(ds.any λz=>g4 z d)else ds.any λz=>g4 z d)) H)
noncomputable def aii(K:aY)(neg:Bool):gQ:=λx y H Q=>af8 K neg x y H Q
theorem abc{A:cU}{ds:iY}{d:PyData}(cX:mB d=true)(cJ:A.units+65<cLine):A.units+1+min (JS ds) d.depth<cLine:=by have ag:=SeqAt.depth_of_shaped cX;have af:min (JS ds) d.depth<=d.depth:=UT _ _;omega
theorem T2(cJ:X.A.units+65<cLine):fZ X (hN .In) (aii X.K false):=by intro pins s σ H x y v u Q I bC bW h;obtain⟨d,ds,hd,he,cX,hT,q⟩:=h;obtain⟨as,gq⟩:=vb I hd bC;obtain⟨bs,lK⟩:=vb I he bW;exact SeqAt.in_list_reads lK gq hT (SeqAt.canLay_of_shaped cX) (abc cX cJ) ⟨.bf _,H,I,rfl,q⟩
end
end cK
namespace fR
open PySem ar cK
theorem jq:jn "len"=some (.builtin "len"):=by decide+kernel
theorem nD:jn "isinstance"=some (.builtin "isinstance"):=by decide+kernel
theorem Ii:jn "all"=some (.builtin "all"):=by decide+kernel
theorem IK:jn "int"=some (.type "int"):=by decide+kernel
theorem SS:jn "bool"=some (.type "bool"):=by decide+kernel
theorem aeV:jn "str"=some (.type "str"):=by decide+kernel
theorem nM:jn "list"=some (.type "list"):=by decide+kernel
theorem G':jn "tuple"=some (.type "tuple"):=by decide+kernel
theorem T3:jn "set"=some (.type "set"):=by decide+kernel
structure hb(ae:cN):Prop where
 len:ae "len"=none
 range:ae "range"=none
 isinstance:ae "isinstance"=none
 E3:ae "all"=none
 int:ae "int"=none
 bool:ae "bool"=none
 str:ae "str"=none
 list:ae "list"=none
 tuple:ae "tuple"=none
 Z2:ae "set"=none
 ValueError:ae "ValueError"=none
 enumerate:ae "enumerate"=none
 max:ae "max"=none
 min:ae "min"=none
 sum:ae "sum"=none
 ard:ae "any"=none
 dict:ae "dict"=none
 sorted:ae "sorted"=none
 zip:ae "zip"=none
structure dS(K:aY)(ae:cN)(x:Str)(st:Stmt)(ps:bR)(f:Addr)(fd:c1):Prop where
 fn:b6 K x x st f fd
 at_:ae x=some (.ref f)
 bd:Binds K fd ps []
structure eJ(K:aY)(C:Addr)(m cn:Str)(st:Stmt)(ps:bR)(f:Addr)(fd:c1):Prop where
 fn:b6 K m cn st f fd
 gM:Meth K C m f
 bd:Binds K fd ps []
structure t9(K:aY)(C:Addr)(cn:Str)(st:Stmt)(ps:bR)(f:Addr)(fd:c1):Prop where
 fn:b6 K "__init__" cn st f fd
 made:pS K C f
 bd:Binds K fd ps []
noncomputable def v8(ae:cN)(x:Str)(i:Int):Prop:=∃t,ae x=some (.int i t)
theorem Cr{X:bB}{x:Str}{i:Int}{pos:Pos}(bx:kv X x)(h:v8 X.ae x i)(hd:(x==("__debug__":Str))=false:=by decide):bN X (.Name x pos) (tI (.int i)):=by obtain⟨t,e⟩:=h;exact acS bx e ⟨t,rfl⟩ hd
theorem n2{X:bB}{x:Str}{T:String}{pos:Pos}(bx:kv X x)(hm:X.ae x=none)(bI:jn x=some (.type T))(aD:x≠"__name__":=by decide)(hd:(x==("__debug__":Str))=false:=by decide):bN X (.Name x pos) (tI (.ty T)):=
 acT (v:=.ty T) bx hm bI rfl aD hd
theorem Hw{wi:TI}{cs:jj}{b3:TE}{σ rest:ar.St}{H H1:aa}{Q:bl}{J:e7}{xs:a'}(hw:∀R:e7->aa->Prop,R J H1->wi σ H R)(gp:gW cs σ=none::rest)(jF:l3 J H1 xs)(aq:xs.length<sizeLine)(f:ar.V->ar.V)(elt:∀(i:Nat)(x:ar.V)(aj:aa)(R:bl),xs[i]?=some x->aT H1 aj->(∀bY,aT aj bY->R (f x) bY)->b3 (some x::rest) aj R)(fin:∀(D:Addr)(H':aa),H1 D=none->H' D=some (.lst (xs.map f))->aT H1 H'->Q (.ref D) H'):kM wi cs (g5 0) px b3 σ H Q:=hw _ (afc gp jF aq f elt fin)
theorem T4{wi:TI}{cs:jj}{tt:TT}{b3:TE}{σ rest:ar.St}{H H1:aa}{Q:bl}{J:e7}{xs:a'}(hw:∀R:e7->aa->Prop,R J H1->wi σ H R)(gp:gW cs σ=none::rest)(jF:l3 J H1 xs)(aq:xs.length<sizeLine)(p:ar.V->Bool)(f:ar.V->ar.V)(test:∀(i:Nat)(x:ar.V)(aj:aa)(R:Bool->aa->Prop),xs[i]?=some x->aT H1 aj->(∀bY,aT aj bY->R (p x) bY)->tt (some x::rest) aj R)(elt:∀(i:Nat)(x:ar.V)(aj:aa)(R:bl),xs[i]?=some x->p x=true->aT H1 aj->(∀bY,aT aj bY->R (f x) bY)->b3 (some x::rest) aj R)(fin:∀(D:Addr)(H':aa),H1 D=none->H' D=some (.lst ((xs.filter p).map f))->aT H1 H'->Q (.ref D) H'):kM wi cs (g5 0) tt b3 σ H Q:=hw _ (Jh gp jF aq p f test elt fin)
theorem Dk(K:aY)(t:String):Am K (.type t) (.type t)=some true:=by unfold Am;exact aO (by simp)
theorem D4{X:bB}:qs (gP X.prog X.w) X v9:=by rintro pins σ H s e s' I ⟨_,_,_,_,_,_,_,z⟩;exact z.elim
theorem i2{cl big:List (Str×Addr)}(h:∀p∈cl,big.lookup p.1=some p.2)(x:Str)(c:Addr)(e:cl.lookup x=some c):big.lookup x=some c:=by
 induction cl with
 |nil=>cases e
 |cons p r bk=>
  obtain⟨y,d⟩:=p;rw[List.lookup_cons]at e;by_cases U:(x==y)=true
  .rw[U]at e;cases e;have:=h (y,c) (uh ..);rw[show x=y from eq_of_beq U];exact this
  .rw[Bool.not_eq_true]at U;rw[U]at e;exact bk (λp aP=>h p (oz _ aP)) e
end fR
namespace de
open PySem
noncomputable def Ò:Nat->Int->List Nat
 |0,_=>[]
 |k+1,n=>(97+(n%26).toNat)::Ò k (n/26)
noncomputable def VT(c:Int):Int:=c*1099087573%10000000000037
noncomputable def Vz(c:Int):Nat:=(1+VT c%7).toNat
noncomputable def VA(c:Int):List Nat:=Ò (Vz c) (VT c/7)
noncomputable def Ab(l:bj):Prop:=1<=l.length/\l.length<=8/\∀x∈l,97<=x/\x<=122
noncomputable def arO:List Nat:=[107,99,120,113,97,109,122,102,116,98,106,101]
noncomputable def F0(c:Int):Nat:=(c%((Vz c:Int)+1)).toNat
noncomputable def fK(c:Int)(l:Nat):List Nat:=(VA c).take (F0 c)++l::(VA c).drop (F0 c)
structure fv where
 a:Nat
 b:Nat
 t:Int
 m:Int
abbrev b7:= List fv
noncomputable def zT(c:Int):Int:=c*48271%2147483647
noncomputable def VU(n:Nat)(c:Int):Int:=zT c%n
noncomputable def aij(n:Nat)(c:Int):Int:=(VU n c+1+zT c/12%((n:Int)-1))%n
noncomputable def af9(c:Int):Int:=if zT c/432%5=1 then 1+c%10 ^ 9 else 1+zT c/144%3
noncomputable def aga(l:Int)(c:Int):Int:=1+zT c/2160%l
noncomputable def bG(n:Nat)(c:Int):fv:=⟨(VU n c).toNat,(aij n c).toNat,aga 9 c,af9 c⟩
structure fv.Ok(r:fv)(n:Nat):Prop where
 a:r.a<n
 b:r.b<n
 ne:r.a≠r.b
 t:1<=r.t/\r.t<=9
 m:1<=r.m/\r.m<=1000000000
end de
namespace fR
open PySem ar cK de
section
variable{P:bP}{w:bt}{K:aY}{ae:cN}{base:Heap}
noncomputable abbrev S(l:bj):Str:=⟨l.toArray⟩
theorem acK{ns:fh}{k:Int}(h0:0<=k)(ag:k<(ns.map V.int).length):f3 (ns.map V.int) k=some (V.int (ns.getD k.toNat 0)):=by
 have af:k.toNat < ns.length:=by rw[bh]at ag;omega
 have e:(ns.map V.int)[k.toNat]?=some (V.int (ns.getD k.toNat 0)):=by rw[cM,ct af];simp[dr,af]
 have:=jo e
 rwa [Ej h0]at this
inductive agb(K:aY)(vs:a')(H:aa)(Q:bl)(bM:cE):Prop where
 |mk (a:Addr) (ns:fh) (k:Int) (b0:vs=[.ref a,.int k]) (bH:aS K H a (ns.map V.int)) (cu:0<=k) (cS:Q (.int (ns.getD k.toNat 0)) H)
noncomputable def EB(K:aY):c9:=λvs H Q bM=>agb K vs H Q bM
theorem aqj:(j_ "abcdefghijklmnopqrstuvwxyz").cps.toList=(da 26).map (97+·):=by decide+kernel
theorem abd{i:Int}(h0:0<=i)(ag:i<26):f3 (j_ "abcdefghijklmnopqrstuvwxyz").cps.toList i=some (97+i.toNat):=by
 have e:(j_ "abcdefghijklmnopqrstuvwxyz").cps.toList[i.toNat]?=some (97+i.toNat):=by rw[aqj,cM,Ew (by omega)];rfl
 have:=jo e
 rwa [Ej h0]at this
theorem agc(a b:bj):S a++S b=S (a++b):=by show Str.append _ _=_;simp[Str.append,S]
theorem DL(a:bj):(S a).length=a.length:=by simp[S,Str.length]
noncomputable def dC(hs:bD):List ar.V:=hs.map λl=>V.str (S l)
theorem Q7(hs:bD):dC hs=(hs.map S).map V.str:=by simp[dC]
theorem SV(l:bj):signs (S l)=l.map λc=>V.str (S [c]):=by simp[signs,S]
noncomputable def m7(hs:bD)(r:de.fv):List ar.V:=[.str (S (hs.getD r.a [])),.str (S (hs.getD r.b [])),.int r.t,.int r.m]
noncomputable def eh(H:aa):List Addr->List a'->Prop:=bX λr d=>H r=some (.tup d)
theorem eh.same{H H':aa}(aI:aT H H'){rs ds}(h:eh H rs ds):eh H' rs ds:=bX.iN h λ_ _ e=>aI _ _ e
noncomputable def aW(rs:b4):List ar.V:=rs.map V.ref
theorem Paired.snoc{α β:Type}{F:α->β->Prop}{x:α}{y:β}(q:F x y):∀{l:List α}{m:List β},bX F l m->bX F (l++[x]) (m++[y])
 |_,_,.nil=>.cons q .nil
 |_,_,.cons r t=>.cons r (Paired.snoc q t)
theorem Ia{hs:bD}{k:Int}(h0:0<=k)(ag:k<hs.length):f3 (dC hs) k=some (V.str (S (hs.getD k.toNat []))):=by
 have af:k.toNat < hs.length:=by omega
 have e:(dC hs)[k.toNat]?=some (V.str (S (hs.getD k.toNat []))):=by unfold dC;rw[cM,ct af];simp[dr,af]
 have:=jo e
 rwa [Ej h0]at this
theorem x_(hs:bD):(dC hs).length=hs.length:=bh ..
theorem h_{H H':aa}{p:Addr}{o:d4}(aP:H p=none)(aI:aT H H'):aT H (upd H' p o):=λb u e=>by rw[aL (dn e aP)];exact aI b u e
theorem eh.upd{H:aa}{p:Addr}{o u:d4}{rs ds}(h:eh H rs ds)(e:H p=some u)(cJ:∀d,u≠.tup d):eh (upd H p o) rs ds:=bX.iN h λr d q=>by
 rw[aL]
 .exact q
 .rintro rfl;rw[e]at q;exact cJ d (gZ q)
theorem u_(rs:b4)(t:Addr):aW rs++[V.ref t]=aW (rs++[t]):=by simp[aW]
theorem fO(rs:b4):(aW rs).length=rs.length:=bh ..
theorem eh.len{H rs ds}(h:eh H rs ds):rs.length=ds.length:=h8 h
theorem cV{H:aa}{t:Addr}{o:d4}(cO:H t=none):aT H (upd H t o):=λb u e=>by rw[aL (dn e cO)];exact e
theorem fi{b:Bool}{A B:Prop}(h:b=true)(q:A):if b=true then A else B:=by rw[aO h];exact q
theorem eF{b:Bool}{A B:Prop}(h:b=false)(q:B):if b=true then A else B:=by subst h;exact q
theorem tr{R:bl}{b:Bool}{H:aa}(e:b=true)(h:R (.bf true) H):R (.bf b) H:=by rw[e];exact h
theorem QD(xs:a'):xs.map (λ_=>V.bf true)=(wN xs.length true).map V.bf:=by
 induction xs with
 |nil=>rfl
 |cons x r bk=>simp[List.replicate_succ,bk]
theorem QE(n:Nat):(wN n true).all id=true:=by rw[Eo];intro x ao;exact(List.mem_replicate.mp ao).2
structure T5(K:aY):Prop where
 a3:Am K (.type "int") (.type "bool")=some false
inductive abe(vs:a')(H:aa)(Q:bl)(bM:cE):Prop where
 |mk (i:Int) (b0:vs=[.int i]) (bH:Q (.bf true) H)
noncomputable def Q8:c9:=λvs H Q bM=>abe vs H Q bM
inductive Ŝ(vs:a')(H:aa)(Q:bl)(bM:cE):Prop where
 |mk (i a b:Int) (b0:vs=[.int i,.int a,.int b]) (bH:a<=i) (cu:i<=b) (cS:Q (.bf true) H)
noncomputable def QF:c9:=λvs H Q bM=>Ŝ vs H Q bM
inductive abf(vs:a')(H:aa)(Q:bl)(bM:cE):Prop where
 |mk (r:Addr) (xs:a') (n:Int) (b0:vs=[.ref r,.int n]) (bH:H r=some (.tup xs)) (cu:(xs.length:Int)=n) (cS:Q (.bf true) H)
noncomputable def Q9:c9:=λvs H Q bM=>abf vs H Q bM
theorem GO(ys:bR):(ys.map V.str).all qw=true:=by rw[Eo];intro x ao;obtain⟨y,_,rfl⟩:=cf.mp ao;rfl
theorem Hx{ys:bR}{x:Str}(h:x∈ys):qr (.str x) (ys.map V.str)=true:=by unfold qr;rw[pN];exact⟨.str x,cf.mpr ⟨x,h,rfl⟩,by show(x==x)=true;exact beq_self_eq_true x⟩
inductive ŝ(K:aY)(vs:a')(H:aa)(Q:bl)(bM:cE):Prop where
 |mk (a:Addr) (ys:bR) (x y:Str) (b0:vs=[.ref a,.str x,.str y]) (bH:aS K H a (ys.map V.str)) (cu:x∈ys) (cS:y∈ys) (dw:x≠y) (en:Q (.bf true) H)
noncomputable def QG(K:aY):c9:=λvs H Q bM=>ŝ K vs H Q bM
theorem aow:j_ "a"=⟨#[97]⟩:=by decide+kernel
theorem aoy:j_ "z"=⟨#[122]⟩:=by decide+kernel
inductive acL(vs:a')(H:aa)(Q:bl)(bM:cE):Prop where
 |mk (l:bj) (b0:vs=[.str (S l)]) (bH:Ab l) (cu:∀H',aT H H'->Q (.bf true) H')
noncomputable def IL:c9:=λvs H Q bM=>acL vs H Q bM
structure zU(ae:cN):Prop where
 acb:v8 ae "MOST_HOUSES" 12
 acd:v8 ae "MOST_ROADS" 40
 acf:v8 ae "MOST_SIGNS" 8
 acg:v8 ae "MOST_TURNS" 9
 ace:v8 ae "MOST_ROOM" 1000000000
theorem Jl{a b:bj}(h:S a=S b):a=b:=by have:=e9 (λx=>x.cps.toList) h;simpa[S]using this
theorem acM{hs:bD}(h:hs.Nodup):∀i j,i<j->j<(hs.map S).length->(hs.map S).getD i kZ≠(hs.map S).getD j kZ:=by
 intro i j o1 aQ e;rw[bh]at aQ;have ai:i<hs.length:=by omega
 rw[dr,dr,cM,cM,ct ai,ct aQ]at e;have az:=Jl (show S hs[i]=S hs[j]from e);exact sm.mp h i j ai aQ o1 az
structure Good(hs:bD):Prop where
 nm:∀x∈hs,Ab x
 aK:hs.Nodup
 c7:hs.length<=12
inductive acN(vs:a')(H:aa)(Q:bl)(bM:cE):Prop where
 |mk (a:Addr) (hs:bD) (b0:vs=[.ref a]) (bH:H a=some (.lst (dC hs))) (cu:Good hs) (cS:∀H',aT H H'->Q (.bf true) H')
noncomputable def IM:c9:=λvs H Q bM=>acN vs H Q bM
theorem bX.get{α β:Type}{F:α->β->Prop}:∀{l:List α}{m:List β}{i:Nat}{x:α},bX F l m->l[i]?=some x->∃y,m[i]?=some y/\F x y
 |_,_,_,_,.nil,e=>by simp at e
 |_,_,0,_,.cons r _,e=>by simp at e;subst e;exact⟨_,rfl,r⟩
 |_,_,i+1,x,.cons _ t,e=>by obtain⟨y,ag,af⟩:=bX.get (i:=i) (x:=x) t (by simpa using e);exact⟨y,by simpa using ag,af⟩
structure hy(H:aa)(hs:bD)(rs:b4)(ds:b7):Prop where
 ir:eh H rs (ds.map (m7 hs))
 ok:∀d∈ds,d.Ok hs.length
theorem hy.same{H H':aa}{hs rs ds}(r:hy H hs rs ds)(aI:aT H H'):hy H' hs rs ds:=⟨r.ir.same aI,r.ok⟩
theorem hy.get{H:aa}{hs rs ds}{i:Nat}{r:Addr}(q:hy H hs rs ds)(e:rs[i]?=some r):∃d,ds[i]?=some d/\d.Ok hs.length/\H r=some (.tup (m7 hs d)):=by obtain⟨y,ag,af⟩:=bX.get q.ir e;rw[cM]at ag;obtain⟨d,hd,rfl⟩:=ft.mp ag;exact⟨d,hd,q.ok d (eQ hd),af⟩
theorem hy.len{H:aa}{hs rs ds}(q:hy H hs rs ds):rs.length=ds.length:=by
 have:=q.ir.len
 rwa [bh]at this
theorem o5{hs:bD}{a:Nat}(h:a<hs.length):S (hs.getD a [])∈hs.map S:=by refine cf.mpr ⟨hs.getD a [],?_,rfl⟩;rw[dr,ct h];exact eY h
theorem agd{hs:bD}{a b:Nat}(aK:hs.Nodup)(aH:a<hs.length)(U:b<hs.length)(ne:a≠b):S (hs.getD a [])≠S (hs.getD b []):=by
 intro e;have az:=Jl e;rw[dr,dr,ct aH,ct U]at az;rcases Nat.lt_or_gt_of_ne ne with h|h
 .exact sm.mp aK a b aH U h az
 .exact sm.mp aK b a U aH h az.symm
inductive acO(K:aY)(vs:a')(H:aa)(Q:bl)(bM:cE):Prop where
 |mk (a r:Addr) (hs:bD) (d:de.fv) (b0:vs=[.ref a,.ref r]) (bH:aS K H a (dC hs)) (cu:hs.Nodup) (cS:d.Ok hs.length) (dw:H r=some (.tup (m7 hs d))) (en:Q (.bf true) H)
noncomputable def IP(K:aY):c9:=λvs H Q bM=>acO K vs H Q bM
inductive adk(K:aY)(vs:a')(H:aa)(Q:bl)(bM:cE):Prop where
 |mk (a b:Addr) (hs:bD) (rs:b4) (ds:b7) (b0:vs=[.ref a,.ref b]) (bH:aS K H a (dC hs)) (cu:hs.Nodup) (cS:H b=some (.lst (aW rs))) (dw:hy H hs rs ds) (en:rs.length<=40) (ha:∀H',aT H H'->Q (.bf true) H')
noncomputable def IQ(K:aY):c9:=λvs H Q bM=>adk K vs H Q bM
noncomputable def SameBut(x:Addr)(H H':aa):Prop:=∀b o,b≠x->H b=some o->H' b=some o
noncomputable def VV(a b:Addr):List (Str×ar.V):=[("kept_houses",.ref a),("kept_roads",.ref b)]
structure tR(K:aY)(C:Addr):Prop where
 cl:ho K C
 OU:ti K C "kept_houses"
 gi:ti K C "kept_roads"
inductive adl(K:aY)(C:Addr)(vs:a')(H:aa)(Q:bl)(bM:cE):Prop where
 |mk (x av a b:Addr) (hs:bD) (rs:b4) (ds:b7) (b0:vs=[.ref x,.ref a,.ref b]) (bH:H x=some (.ins C av [])) (cu:H a=some (.lst (dC hs))) (cS:Good hs) (dw:H b=some (.lst (aW rs))) (en:hy H hs rs ds) (ha:rs.length<=40) (iT:∀(H':aa)(bz a7:Addr),SameBut x H H'->H' x=some (.ins C av (VV bz a7))->H' bz=some (.lst (dC hs))->H' a7=some (.lst (aW rs))->H bz=none->H a7=none->Q .bV H')
noncomputable def IS(K:aY)(C:Addr):c9:=λvs H Q bM=>adl K C vs H Q bM
structure lz(C:Addr)(H:aa)(x bz a7:Addr)(xs ys:a'):Prop where
 ins:∃av,H x=some (.ins C av (VV bz a7))
 Nd:H bz=some (.lst xs)
 tE:H a7=some (.lst ys)
theorem lz.same{C:Addr}{H H':aa}{x bz a7:Addr}{xs ys:a'}(n:lz C H x bz a7 xs ys)(aI:aT H H'):lz C H' x bz a7 xs ys:=
 let⟨av,h⟩:=n.ins
 ⟨⟨av,aI _ _ h⟩,aI _ _ n.Nd,aI _ _ n.tE⟩
inductive į(C:Addr)(vs:a')(H:aa)(Q:bl)(bM:cE):Prop where
 |mk (x bz a7:Addr) (xs ys:a') (b0:vs=[.ref x]) (bH:lz C H x bz a7 xs ys) (cu:∀l,H l=none->Q (.ref l) (upd H l (.lst xs)))
noncomputable def GP(C:Addr):c9:=λvs H Q bM=>į C vs H Q bM
inductive Ş(C:Addr)(vs:a')(H:aa)(Q:bl)(bM:cE):Prop where
 |mk (x bz a7:Addr) (xs ys:a') (b0:vs=[.ref x]) (bH:lz C H x bz a7 xs ys) (cu:∀l,H l=none->Q (.ref l) (upd H l (.lst ys)))
noncomputable def QH(C:Addr):c9:=λvs H Q bM=>Ş C vs H Q bM
inductive abg(C R:Addr)(vs:a')(H:aa)(Q:bl)(E:cE):Prop where
 |mk (x bz a7:Addr) (xs ys:a') (k:Int) (b0:vs=[.ref x,.int k]) (bH:lz C H x bz a7 xs ys) (cu:(0<=k/\k<ys.length->∃v,f3 ys k=some v/\Q v H)) (cS:(¬(0<=k/\k<ys.length)->E (.ref R) none H))
noncomputable def Q'(C R:Addr):c9:=λvs H Q E=>abg C R vs H Q E
noncomputable def ck(hs:bD):List PyData:=(hs.map S).map PyData.str
theorem Cs{l:bj}(h:Ab l):sr (.str (S l))=true:=by simp only[sr,PyData.strOk,S];rw[Array.all_eq_true_iff_forall_mem];intro x ao;have:=h.2.2 x (by simpa using ao);exact dU (by omega)
theorem ya{ds:iY}(h:∀d∈ds,d.canLay0=true):pW ds=true:=by
 induction ds with
 |nil=>rfl
 |cons d r bk=>
  simp only[pW,kR];exact⟨h d (uh ..),bk λe he=>h e (oz _ he)⟩
theorem Pw{ds:iY}{n:Nat}(h:∀d∈ds,d.depth<=n):JS ds<=n:=by
 induction ds with
 |nil=>exact dM _
 |cons d r bk=>
  simp only[JS];exact Nat.max_le.mpr ⟨h d (uh ..),bk λe he=>h e (oz _ he)⟩
theorem q'{d:PyData}{n:Nat}(ag:d.canLay0=true)(af:d.depth<=n)(aV:n<=64):mB d=true:=by unfold mB;rw[ag,dU (hc af aV)];rfl
theorem Tg{d:PyData}(h:d.canLay0=true):(if true=true then !g4 d d else g4 d d)=false:=by rw[Cp d h];rfl
theorem adm{rs:b4}{i:Nat}{r:Addr}(e:rs[i]?=some r):f3 (aW rs) ((0:Int)+(i:Int))=some (V.ref r):=by rw[t_];refine jo ?_;unfold aW;rw[cM,e];rfl
theorem Ψ{bJ eP:aa}{x av:Addr}{o u:d4}(ao:bJ x=none)(hd:bJ av=none)(b5:SameBut x (upd (upd bJ av o) x u) eP):aT bJ eP:=λb v e=>by have gB:=dn e ao;have ew:=dn e hd;refine b5 b v gB ?_;rw[aL gB,aL ew];exact e
inductive aeW(K:aY)(vs:a')(H:aa)(Q:bl)(bM:cE):Prop where
 |mk (a:Addr) (ns:fh) (b0:vs=[.ref a]) (bH:aS K H a (ns.map V.int)) (cu:ns.length<=63) (cS:∀H',Q (.bf true) H')
noncomputable def D8(K:aY):c9:=λvs H Q bM=>aeW K vs H Q bM
noncomputable def T6(cd:tY)(sl:ka)(C R:Addr):Bool:=match cd.mro,sl.toList with
  |.ref zg::bm,[_,_,_,_,some (.builtin _),_]=>zg==C&&!cd.hasDel&&bm.contains (.type "BaseException")&&(dA C::bm).contains (.ref R)
  |_,_=>false
theorem Ÿ{K:aY}{C R:Addr}{dd:Option Addr}{cd:tY}{sl:ka}(l:K.lookup C=some ⟨.type "type",dd,.cls cd,sl⟩)(h:T6 cd sl C R=true):rC K C R=true:=by unfold rC;rw[l];exact h
theorem afs(K:aY):Am K (.type "int") (.type "bool")=some false:=by show(if(mF "int"==mF "bool")=true then some true else if PySem.W.kitMeta "bool"=true then(fastBuiltinMro "int").map (·.contains (.type "bool"))else none)=some false;decide+kernel
noncomputable def u9(ns:fh):PyData:=.list (ns.map mz)
theorem yz(ns:fh):(u9 ns).canLay0=true:=ya λd hd=>by obtain⟨x,_,rfl⟩:=cf.mp hd;rfl
theorem G_(ns:fh):(u9 ns).depth<=1:=by
 unfold u9;simp only[PyData.depth];exact UW (Pw λe he=>by
  obtain⟨x,_,rfl⟩:=cf.mp he;exact b1 _)
theorem QI{K:aY}{H:aa}:∀ns:List Int,nk K H (ns.map V.int) (ns.map mz)
 |[]=>.nil
 |x::r=>.cons (.int x) (QI r)
theorem CL{K:aY}{H:aa}{a:Addr}{ns:fh}(h:aS K H a (ns.map V.int)):kT K H (.ref a) (u9 ns):=.lst h (QI ns)
theorem ne_int{i j:Int}(h:i≠j):decide (V.int i=V.int j)=false:=eM λz=>h (V.int.inj z)
theorem Ĵ(n:Nat)(q:Nat->Bool):(((da n).map λi:Nat=>V.int ((0:Int)+(i:Int))).filter λv=>match v with|.int k=>q k.toNat|_=>false).map (λv=>v)=(((da n).filter q).map λi:Nat=>(i:Int)).map V.int:=by
 rw[Jv,z0,fS];have e:(λi:Nat=>V.int ((0:Int)+(i:Int)))=(V.int∘λi:Nat=>(i:Int)):=by funext i;show V.int (0+(i:Int))=V.int (i:Int);rw[t_]
 have az:((λv:ar.V=>match v with|.int k=>q k.toNat|_=>false)∘λi:Nat=>V.int ((0:Int)+(i:Int)))=q:=by funext i;show q ((0:Int)+(i:Int)).toNat=q i;congr 1;omega
 rw[az,e]
noncomputable def top(i:Nat):Stmt:=aqL.main.body.getD i (.Pass ⟨0,0,0,0⟩)
mutual
inductive gy(H:aa):ar.V->PyData->Prop
 |bV:gy H .bV .none
 |bf (b:Bool):gy H (.bf b) (.bool b)
 |int (i:Int):gy H (.int i) (.int i)
 |str (x:Str) (z:x.length<=100) (ok:PyData.strOk x=true):gy H (.str x) (.str x)
 |lst {a:Addr} {xs:a'} {ds:iY}:H a=some (.lst xs)->xs.length<=100->hX H xs ds->gy H (.ref a) (.list ds)
 |tup {a:Addr} {xs:a'} {ds:iY}:H a=some (.tup xs)->xs.length<=100->hX H xs ds->gy H (.ref a) (.tuple ds)
inductive hX(H:aa):List ar.V->List PyData->Prop
 |nil:hX H [] []
 |cons {v:ar.V} {d:PyData} {vs:a'} {ds:iY}:gy H v d->hX H vs ds->hX H (v::vs) (d::ds)
end
mutual
theorem gy.same{H H':aa}(aI:aT H H'):∀{v:ar.V}{d:PyData},gy H v d->gy H' v d
 |_,_,.bV=>.bV
 |_,_,.bf b=>.bf b
 |_,_,.int i=>.int i
 |_,_,.str x z ok=>.str x z ok
 |_,_,.lst h z t=>.lst (aI _ _ h) z (hX.same aI t)
 |_,_,.tup h z t=>.tup (aI _ _ h) z (hX.same aI t)
theorem hX.same{H H':aa}(aI:aT H H'):∀{vs:a'}{ds:iY},hX H vs ds->hX H' vs ds
 |_,_,.nil=>.nil
 |_,_,.cons a b=>.cons (gy.same aI a) (hX.same aI b)
end
end
mutual
theorem gy.lb{K:aY}{H:aa}:∀{v:ar.V}{d:PyData},gy H v d->kT K H v d
 |_,_,.bV=>.bV
 |_,_,.bf b=>.bf b
 |_,_,.int i=>.int i
 |_,_,.str x z ok=>.str x
 |_,_,.lst h z t=>.lst (aS.of h) (hX.lb t)
 |_,_,.tup h z t=>.tup (b2.of h) (hX.lb t)
theorem hX.lb{K:aY}{H:aa}:∀{vs:a'}{ds:iY},hX H vs ds->nk K H vs ds
 |_,_,.nil=>.nil
 |_,_,.cons a b=>.cons (gy.lb a) (hX.lb b)
end
mutual
theorem gy.nH{H:aa}:∀{v:ar.V}{d:PyData},gy H v d->d.canLay0=true
 |_,_,.bV=>rfl
 |_,_,.bf b=>rfl
 |_,_,.int i=>rfl
 |_,_,.str x z ok=>ok
 |_,_,.lst h z t=>hX.nH t
 |_,_,.tup h z t=>hX.nH t
theorem hX.nH{H:aa}:∀{vs:a'}{ds:iY},hX H vs ds->pW ds=true
 |_,_,.nil=>rfl
 |_,_,.cons a b=>by simp only[pW,kR];exact⟨gy.nH a,hX.nH b⟩
end
noncomputable def inD(d:PyData)(ds:iY):Bool:=ds.any λz=>g4 z d
noncomputable def k'(hs:iY)(a b:PyData):Bool:=inD a hs&&inD b hs&&!g4 a b
end fR
namespace fR
open PySem PySem.Spec PyProof.Rows ar cK de
structure JR where
 p:aa->ar.V->Prop
 up:∀{H H':aa}{v:ar.V},aT H H'->p H v->p H' v
noncomputable def rR(K:aY)(xs:a'):JR:=⟨λH v=>∃a,v=.ref a/\aS K H a xs,λaI⟨a,e,h⟩=>⟨a,e,aI.seq h⟩⟩
section
variable{X:bB}{e a b:Expr}{es:gm}{pos ey:Pos}{tT:List (Option JR)}{A B R:JR}
variable{i j:Int}
noncomputable def cutD(xs:iY)(lo ai:Option Int):List PyData:=(xs.drop (hW.iQ xs.length 0 lo)).take (hW.iQ xs.length xs.length ai-hW.iQ xs.length 0 lo)
end
theorem abh{α:Type}{xs:List α}{i:Int}(d:α)(h0:0<=i)(ag:i<xs.length):f3 xs i=some (xs.getD i.toNat d):=by
 have af:i.toNat < xs.length:=by omega
 have e:xs[i.toNat]?=some (xs.getD i.toNat d):=by rw[dr,ct af];rfl
 have:=jo e
 rwa [Ej h0]at this
noncomputable abbrev L(x:String):Str:=j_ x
noncomputable def Ĭ(a b:Str)(t m f:Int):List PyData:=
 ([.list [.str a,.str b,.int t,.int m],.tuple (cutD [.str a,.str b,.int t,.int m] none (some 3)),.tuple ([.str a,.str b,.int t,.int m]++[.int 1]),.none,.tuple [.str a,.str (L "noshow"),.int t,.int m],.tuple [.str a,.str a,.int 1,.int 1]]
  ++[.tuple [.str (L ""),.str b,.int 1,.int 1],.tuple [.str a,.str b,.int 0,.int m],.tuple [.str a,.str b,.int (10+f),.int m]]
  ++[.tuple [.str a,.str b,.bool true,.int 1],.tuple [.str a,.str b,.str (L "1"),.int 1],.tuple [.str a,.str b,.int t,.int 0],.str (L "road")]
  ++[.tuple [.str a,.str b,.int 1,.int (10 ^ (9:Int).toNat+1+f)],.tuple [.str a,.str b,.int 1,.int (-1-f)]]
  ++[.tuple [.str a,.str b,.int 1,.bool true],.tuple [.str a,.str b,.int 1,.none],.tuple [.list [.str a],.str b,.int 1,.int 1]]
  ++[.tuple [.none,.str b,.int 1,.int 1],.tuple []])
noncomputable def AO(a b:Str)(t m c:Int):PyData:=(Ĭ a b t m (c%10 ^ (30:Int).toNat)).getD (c%20).toNat .none
theorem T7{hs:bD}{y:Str}(h:y∉hs.map S):inD (.str y) (ck hs)=false:=by unfold inD;rw[Ir];intro z;obtain⟨v,bI,e⟩:=pN.mp z;obtain⟨u,cJ,rfl⟩:=cf.mp bI;have b9:(u==y)=true:=e;exact h (eq_of_beq b9▸cJ)
theorem T8{H:aa}:∀{hs:bD},(∀x∈hs,Ab x)->hX H (dC hs) (ck hs)
 |[],_=>.nil
 |l::hs,h=>.cons (.str (S l) (by rw[DL];have:=(h l (uh ..)).2.1;omega) (Cs (h l (uh ..)))) (T8 λx ao=>h x (oz _ ao))
theorem agU{H:aa}{a:Addr}{hs:bD}(G:Good hs)(h:H a=some (.lst (dC hs))):gy H (.ref a) (.list (ck hs)):=.lst h (by rw[x_];have:=G.c7;omega) (T8 G.nm)
end fR
namespace de
open PySem
noncomputable def hsz(c:Int):Nat:=(1+c%8).toNat
noncomputable def fW(c:Int):Nat:=(c/8%(1+c%8)).toNat
noncomputable def iJ(c:Int)(k j:Nat):Nat:=97+((c/64+5*(j:Int)*(j:Int)+2*(k:Int)*(if j=fW c then 1 else 0))%26).toNat
noncomputable def rq(c:Int)(k:Nat):List Nat:=(da (hsz c)).map (iJ c k)
noncomputable def rx(c:Int)(m:Nat):List bj:=(da m).map (rq c)
theorem T9(c:Int):1<=hsz c/\hsz c<=8:=by unfold hsz;omega
theorem adn(c:Int):(1+c%8)=(hsz c:Int):=by unfold hsz;omega
theorem aft(c:Int):fW c<hsz c:=by
 have ag:0<1+c%8:=by omega
 have af:=kU (c/8) ag;have aV:=ky (c/8) (by omega:1+c%8≠0);unfold fW hsz;omega
theorem ado(c:Int):c/8%(1+c%8)=(fW c:Int):=by have aV:=ky (c/8) (by omega:1+c%8≠0);unfold fW;omega
theorem afu(c:Int)(k j:Nat):97<=iJ c k j/\iJ c k j<=122:=by unfold iJ;omega
theorem afv(c:Int)(k:Nat):Ab (rq c k):=by have h:=T9 c;refine⟨by simp[rq];omega,by simp[rq];omega,λx ao=>?_⟩;obtain⟨j,_,rfl⟩:=cf.mp ao;exact afu c k j
theorem adp{c:Int}{k l:Nat}(aE:k<13)(aq:l<13)(e:rq c k=rq c l):k=l:=by
 have h:=aft c;have az:(rq c k)[fW c]?=(rq c l)[fW c]?:=by rw[e]
 unfold rq at az;rw[cM,cM,Ew h]at az;have cq:iJ c k (fW c)=iJ c l (fW c):=by simpa using az
 unfold iJ at cq;rw[aO rfl]at cq;generalize c/64+5*(fW c:Int)*(fW c:Int)=z at cq;omega
theorem apT{α:Type}{f:Nat->α}{m:Nat}(h:∀i j,i<m->j<m->f i=f j->i=j):((da m).map f).Nodup:=by refine oA.mpr ?_;refine abt ?_ (Up (n:=m));intro a b aH U jW e;exact jW (h a b (jH.mp aH) (jH.mp U) e)
theorem ĵ{c:Int}{m:Nat}(h:m<=12):(rx c m).Nodup:=apT λi j ai aQ e=>adp (by omega) (by omega) e
theorem Oz(c:Int)(m:Nat):(rx c m).length=m:=by simp[rx]
structure Lt where
 a:Nat
 b:Nat
 t:Int
noncomputable def rY(c:Int):Int:=c*982451653%10000000000037
noncomputable def mi(n:Nat)(c:Int):Int:=rY c%n
noncomputable def lend(n:Nat)(c:Int):Int:=(mi n c+1+rY c/n%((n:Int)-1))%n
noncomputable def lt(n:Nat)(c base:Int):Lt:=⟨(mi n c).toNat,(lend n c).toNat,base+rY c/1000%31⟩
structure Lt.Ok(d:Lt)(n:Nat)(base:Int):Prop where
 a:d.a<n
 b:d.b<n
 ne:d.a≠d.b
 lo:base<=d.t
 ai:d.t<=base+30
theorem agV{n:Nat}(h:1<n)(c base:Int):(lt n c base).Ok n base:=by
 have eC:0<=mi n c:=ky _ (by omega);have dT:mi n c<n:=kU _ (by omega);have ax:0<=lend n c:=ky _ (by omega);have az:lend n c<n:=kU _ (by omega);have jQ:0<=rY c/n%((n:Int)-1):=ky _ (by omega);have w9:rY c/n%((n:Int)-1)<(n:Int)-1:=kU _ (by omega);have ne:mi n c≠lend n c:=by
  intro z;have cq:lend n c=(mi n c+1+rY c/n%((n:Int)-1))%n:=rfl;generalize rY c/n%((n:Int)-1)=x at jQ w9 cq;by_cases bZ:mi n c+1+x<n
  .rw[Jf (by omega) bZ]at cq;omega
  .have dq:(mi n c+1+x)%(n:Int)=(mi n c+1+x-n)%(n:Int):=by rw[aah]
   rw[dq,Jf (by omega) (by omega)]at cq;omega
 have t1:0<=rY c/1000%31:=ky _ (by decide);have fQ:rY c/1000%31<31:=kU _ (by decide);exact⟨by show(mi n c).toNat < n;omega,by show(lend n c).toNat < n;omega,by show(mi n c).toNat≠(lend n c).toNat;omega,by show base<=base+_;omega,by show base+_<=base+30;omega⟩
end de
namespace cK
open PySem PySem.Spec PyProof.Rows ar
noncomputable def eW{α:Type}:Sem α->Prop
 |.pure _=>True
 |.raise _=>True
 |.unsupported _=>True
 |.finish _=>True
 |.register _ _=>True
 |.rule _ k=>eW (k ())
 |.at _ k=>eW (k ())
 |.load _ _ k=>∀o,eW (k o)
 |.update _ _ f k=>(∀o,(f o).dict=o.dict)/\eW (k ())
 |.alloc _ k=>∀a,eW (k a)
 |.loadIfAlive _ k=>∀o,eW (k o)
 |.point _ k=>eW (k ())
 |.fresh k=>∀t,eW (k t)
 |.ask k=>∀t,eW (k t)
 |.handled _ k=>∀t,eW (k t)
 |.stack k=>∀t,eW (k t)
 |.thread k=>∀n,eW (k n)
 |_=>False
noncomputable def hB(h h':Heap):Prop:=h.objs.size<=h'.objs.size/\∀e,e<h.objs.size->(h'.objs[e]?).map (·.dict)=(h.objs[e]?).map (·.dict)
theorem hB.refl(h:Heap):hB h h:=⟨b1 _,λ_ _=>rfl⟩
theorem hB.trans{h ag af:Heap}(a:hB h ag)(b:hB ag af):hB h af:=⟨hc a.1 b.1,λe he=>(b.2 e (iz he a.1)).trans (a.2 e he)⟩
theorem hB.push(h:Heap)(o:Obj):hB h (h.push o):=by
 obtain⟨objs,l⟩:=h;refine⟨?_,λe he=>?_⟩
 .show objs.size<=(objs.push o).size;simp
 .show((objs.push o)[e]?).map _=_;rw[Array.getElem?_push_lt he];simp[he]
theorem hB.update(h:Heap)(a:Addr){f:Obj->Obj}(hf:∀o,(f o).dict=o.dict):hB h (h.update a f):=by
 obtain⟨objs,l⟩:=h;refine⟨?_,λe he=>?_⟩
 .show objs.size<=(objs.modify a f).size;simp
 .show((objs.modify a f)[e]?).map _=_;rw[Array.getElem?_modify];split
  .cases objs[e]? with
   |none=>rfl
   |some o=>show some (f o).dict=_;rw[hf];rfl
  .rfl
theorem hB.dict{h h':Heap}(s:hB h h'){e:Addr}{o cQ:Obj}(a:h.get? e=some o)(b:h'.get? e=some cQ):cQ.dict=o.dict:=by have ag:=(Ţ.mp a).1;have af:=(Ţ.mp b).1;have:=s.2 e (dm a);rw[ag,af]at this;exact gZ this
theorem adq{α:Type}{M:oD}{tT:PySem.Ctx}{Q:α->Pos->aF->Prop}{E:Value->Pos->aF->Prop}(t:Sem α)(aC:eW t)(p:Pos)(s:aF)(h:Sem.wp M tT t Q E p s):
  Sem.wp M tT t (λa iO s'=>Q a iO s'/\hB s.heap s'.heap) (λa iO s'=>E a iO s'/\hB s.heap s'.heap) p s:=by
 have key:∀(t:Sem α),eW t->∀(p:Pos)(s:aF)(h0:Heap),hB h0 s.heap->Sem.wp M tT t Q E p s->Sem.wp M tT t (λa iO s'=>Q a iO s'/\hB h0 s'.heap) (λa iO s'=>E a iO s'/\hB h0 s'.heap) p s:=by
  intro t
  induction t with
  |pure a=>exactλ_ p s h0 cX h=>⟨h,cX⟩
  |raise e=>exactλ_ p s h0 cX h=>⟨h,cX⟩
  |unsupported=>exactλ_ p s h0 cX h=>h
  |finish=>exactλ_ p s h0 cX h=>h
  |register=>exactλ_ p s h0 cX h=>h
  |rule _ k bk=>exactλc p s h0 cX h=>bk () c p s h0 cX h
  |«at» _ k bk=>exactλc p s h0 cX h=>bk () c _ s h0 cX h
  |load a _ k bk=>exactλc p s h0 cX⟨o,e,h⟩=>⟨o,e,bk o (c o) p s h0 cX h⟩
  |update a _ f k bk=>exactλc p s h0 cX⟨e,h⟩=>⟨e,bk () c.2 p _ h0 (cX.trans (hB.update _ _ c.1)) h⟩
  |alloc o k bk=>exactλc p s h0 cX h=>bk _ (c _) p _ h0 (cX.trans (hB.push _ _)) h
  |loadIfAlive a k bk=>exactλc p s h0 cX h=>bk _ (c _) p s h0 cX h
  |point _ k bk=>exactλc p s h0 cX h=>bk () c p s h0 cX h
  |fresh k bk=>exactλc p s h0 cX h=>bk _ (c _) p _ h0 cX h
  |ask k bk=>exactλc p s h0 cX h=>bk _ (c _) p s h0 cX h
  |handled _ k bk=>exactλc p s h0 cX h=>bk _ (c _) p s h0 cX h
  |stack k bk=>exactλc p s h0 cX h=>bk _ (c _) p s h0 cX h
  |thread k bk=>exactλc p s h0 cX h=>bk _ (c _) p s h0 cX h
  |choose=>exactλc=>c.elim
  |os=>exactλc=>c.elim
  |call=>exactλc=>c.elim
  |newGen=>exactλc=>c.elim
  |genState=>exactλc=>c.elim
  |resume=>exactλc=>c.elim
  |yield=>exactλc=>c.elim
  |fork=>exactλc=>c.elim
  |await=>exactλc=>c.elim
 exact key t aC p s s.heap (hB.refl _) h
theorem Ha{α:Type}{M:oD}{A:cU}{Q:α->aF->Prop}{E:cx}{t:Sem α}{s:aF}(aC:eW t)(h:aM M A t Q E s):aM M A t (λa s'=>Q a s'/\hB s.heap s'.heap) (λa s'=>E a s'/\hB s.heap s'.heap) s:=
 λtT p YH=>adq t aC p s (h tT p YH)
theorem hv{α β:Type}{t:Sem α}{f:α->Sem β}(h:eW t)(hf:∀a,eW (f a)):eW (t >>=f):=by
 show eW (t.bind f)
 induction t with
 |pure a=>exact hf a
 |raise e=>exact h
 |unsupported=>exact h
 |finish=>exact h
 |register=>exact h
 |rule _ k bk=>exact bk () h
 |«at» _ k bk=>exact bk () h
 |load a _ k bk=>exactλo=>bk o (h o)
 |update a _ f k bk=>exact⟨h.1,bk () h.2⟩
 |alloc o k bk=>exactλa=>bk a (h a)
 |loadIfAlive a k bk=>exactλa=>bk a (h a)
 |point _ k bk=>exact bk () h
 |fresh k bk=>exactλa=>bk a (h a)
 |ask k bk=>exactλa=>bk a (h a)
 |handled _ k bk=>exactλa=>bk a (h a)
 |stack k bk=>exactλa=>bk a (h a)
 |thread k bk=>exactλa=>bk a (h a)
 |choose=>exact h.elim
 |os=>exact h.elim
 |call=>exact h.elim
 |newGen=>exact h.elim
 |genState=>exact h.elim
 |resume=>exact h.elim
 |yield=>exact h.elim
 |fork=>exact h.elim
 |await=>exact h.elim
theorem jM{α:Type}{a:α}:eW (pure a:Sem α):=trivial
theorem qe{α:Type}{x:String}:eW (unsupported x:Sem α):=trivial
theorem ri{α:Type}{c:Prop}[Decidable c]{a b:Sem α}(aH:eW a)(U:eW b):eW (if c then a else b):=by split<;>assumption
theorem Px{a:Addr}:eW (load a):=λ_=>trivial
theorem apg{v:Value}:eW (fieldsOf v):=by
 unfold fieldsOf;cases v<;>first|exact qe|skip
 refine hv Px λo=>?_;split<;>first|exact jM|exact qe
theorem Gz{v:Value}{i:Nat}:eW (field v i):=by unfold field;refine hv apg λo=>?_;split<;>first|exact jM|exact qe
theorem N4{v:Value}{i:Nat}{x:Value}:eW (tG v i x):=by
 unfold tG;cases v<;>first|exact qe|skip
 refine hv Px λo=>?_;split
 .refine ri ⟨λo=>?_,trivial⟩ qe;obtain⟨c,d,lb,sl⟩:=o;cases lb<;>rfl
 .exact qe
theorem N6{v:Value}{f:Option Addr}:eW (P9 v f):=by unfold P9;refine hv Gz λo=>ri N4 jM
theorem O9:eW stack:=λ_=>trivial
theorem ul{ty:String}{vs:b_}:eW (newFields ty vs):=by
 have as:eW (newObjAsIs (.type ty) (.fields vs.toArray)):=by unfold newObjAsIs;exact hv (λ_=>trivial) λa=>jM
 unfold newFields newObj;exact ri (c:=vs.toArray.size>sizeLine+2) (hv qe λ_=>as) as
theorem Ķ{f:Addr}{b:Bool}:eW (WK f b):=by unfold WK;refine hv O9 λo=>?_;split<;>exact jM
theorem aqk{env:Env}{outer:List Env}:eW (ajr env outer):=by unfold ajr;exact ri jM (ri jM (hv Gz λ_=>jM))
theorem Ź{env:Env}{b:Bool}{l:List Env}:eW (keptBack env b l):=by
 unfold keptBack;split
 .refine ri jM (hv ?_ λ_=>jM);exact hv O9 λ_=>jM
 .exact jM
theorem Η:∀l:List Env,eW (readyFrames l)
 |[]=>trivial
 |env::outer=>by
  unfold readyFrames;split
  .exact hv Px λo=>ri jM (hv aqk λ_=>hv Ź λ_=>hv ⟨λ_=>rfl,trivial⟩ λ_=>Η outer)
  .exact qe
theorem apU{env:Env}:eW (Vq env):=by
 unfold Vq frameEnvs;refine hv (hv O9 λ_=>jM) λl=>hv ?_ λo=>?_
 .generalize List.dropWhile _ l=ij;cases ij with
  |nil=>exact jM
  |cons a b=>exact hv (Η _) λ_=>jM
 .split<;>first|exact jM|exact qe
theorem Ω{e:Value}{env:Env}:eW (OZ e env):=by
 unfold OZ;have last:∀(f:Addr)(head:Value),eW (do
   let a <-Vq env
   let b <-WK f (head !=dY)
   let c <-aqB head a dY (h3 f) dY b
   tG e 1 c):=λf head=>hv apU λ_=>hv Ķ λ_=>hv ul λ_=>N4
 split
 .exact hv Gz λhead=>ri (hv Gz λ_=>ri jM (hv N4 λ_=>last _ _)) (last _ _)
 .exact qe
theorem apV{e:Value}{env:Env}:eW (leaving env e):=hv Ω λ_=>N6
noncomputable def Ib(nF p_:tY)(rQ:ka)(C:Addr)(fM:String):Bool:=
 (nF.mro==dA C::p_.mro)&&!nF.hasDel&&(match rQ.toList with|[_,_,_,_,some (.builtin n),_]=>n==fM|_=>false)
theorem abi{K:aY}{ae:cN}{h:Heap}{y:Str}{C R:Addr}{bm:b_}{fM:String}{kh AO:Option Addr}{nF p_:tY}{rQ Hz:ka}(X:K.In h)(O:Exc K ae y R bm fM)(Oh:K.lookup C=some ⟨.type "type",kh,.cls nF,rQ⟩)(Ol:K.lookup R=some ⟨.type "type",AO,.cls p_,Hz⟩)(kg:Ib nF p_ rQ C fM=true):
  ∃nm q N bs c3 sn sub ab col k0 k1 k2 k3 k5,h.get? C=some (xc nm q C N bs c3 nF.hasDict sn sub ab col kh k0 k1 k2 k3 k5 fM)/\wR h bm c3:=by
 obtain⟨c3,U3,nm,q,bs,hdct,sn,sub,ab,col,dd,k0,k1,k2,k3,k5,mN,cF,fJ,xG,T⟩:=(O.own X).obj;have Bu:=X _ _ Ol;have ax:=Bu.symm.trans cF;have az:=gZ ax;have hm:p_.mro=dA R::c3:=by have cq:(Data.cls p_)=_:=e9 Obj.data az;injection cq with cq;rw[cq]
 unfold Ib at kg;simp only[kR,oK,Su]at kg;obtain⟨⟨eE,dp⟩,hM⟩:=kg;split at hM
 .rename_i arF gL gg ly n YN hs;have hM:=oK.mp hM;subst hM;obtain⟨anA,ajE,arW,asb,aod,mc,aoK,aoM,aiN,ajN,ark⟩:=nF;dsimp only at eE dp;rw[hm]at eE;subst eE dp;obtain⟨Z4⟩:=rQ;simp only at hs;subst hs;exact⟨_,_,_,_,_,_,_,_,_,_,_,_,_,_,X _ _ Oh,.own cF fJ xG T⟩
 .cases hM
section
variable{prog:bP}{w:bt}{A:cU}{E:cx}{s:aF}{K:aY}
variable{nm q:Str}{C N nN:Addr}{bs bm c3:b_}{hd:Bool}{sn:bR}{sub:b_}{ab:Bool}{col:Option Bool}{kh:Option Addr}{k0 k1 k2 k3 k5:Aw}{B fM mV:String}
theorem ź(F:v' B fM mV bm){rest:b_}{Q:cx}(T:wR s.heap bm c3)(X:K.In s.heap)(dV:s.heap.get? C=some (xc nm q C N bs c3 hd sn sub ab col kh k0 k1 k2 k3 k5 fM))(ai:dg K (.ref C) "__init__"=some (some (.ref nN)))(hf:adV K (.ref nN)=some (.type "function"))(Yw:rest.length<=sizeLine)(bp:∀h' e,s.heap.objs.size<=e->TF s.heap h' e (.ref C) rest->aM (ba prog w) (A.under (.builtin "type.__call__" ⟨.ref C::rest,[]⟩)) (call (.ref nN) (.ref e::rest)) (λr s'=>r=.none/\Q (.ref e) s') E {s with heap:=h'}):
  aM (ba prog w) A (call (.ref C) rest) Q E s:=by
 obtain⟨h,g,d,t,os⟩:=s;have f1:=tc_lookup;have f2:=tc_bind (.ref C);have i6:(⟨h,g,d,t,os⟩:aF).TypeIs (.ref C) "type":=⟨_,dV,rfl⟩
 refine rV (LH (show aM _ _ (callAny (.ref C) _) _ _ _ from ?_))
 repeat (any_goals (first|assumption|with_reducible refine j6 dV ?_|wp_step))
 refine⟨rfl,codeAny_call_builtin_at (IF _ (by decide+kernel)) entry_typeCall (wpAny_check_type_call_sub dV ?_)⟩
 repeat (first|with_reducible refine wpAny_madeBy_exc dV ?_|with_reducible refine j6 dV ?_|wp_step)
 refine codeAny_call_builtin_code (IF _ F.quiet) (wpAny_check_new_subT F T dV (codeAny_exc_new_subT F T dV (show aM _ _ _ _ _ _ from ?_) Yw));have qm:((h.push {cls:=.type "tuple",data:=.seq rest.toArray}).push {cls:=.ref C,data:=.fields #[.ref h.objs.size,.none,.none,.none,.bool false,.none]}).get? (h.objs.size+1)=some {cls:=.ref C,data:=.fields #[.ref h.objs.size,.none,.none,.none,.bool false,.none]}:=by heap_get
 have mk:TF h ((h.push {cls:=.type "tuple",data:=.seq rest.toArray}).push {cls:=.ref C,data:=.fields #[.ref h.objs.size,.none,.none,.none,.bool false,.none]}) (h.objs.size+1) (.ref C) rest:=
  ⟨λb o U=>c6 _ (c6 _ U),TG (wO _),h.objs.size,qm,TG (b1 _),c6 _ (š rfl rfl)⟩
 have Nh:=bp _ _ (wO _) mk;have Kq:=X.keeps mk.keeps;have Mo:=mk.keeps _ _ dV;have alH:(dA C::c3).contains (.ref C)=true:=by simp
 show aM _ _ _ _ _ ⟨(h.push {cls:=.type "tuple",data:=.seq rest.toArray}).push {cls:=.ref C,data:=.fields #[.ref h.objs.size,.none,.none,.none,.bool false,.none]},g,d,t,os⟩;dsimp only;generalize(h.push {cls:=.type "tuple",data:=.seq rest.toArray}).push {cls:=.ref C,data:=.fields #[.ref h.objs.size,.none,.none,.none,.bool false,.none]}=af at qm mk Nh Kq Mo⊢;generalize h.objs.size=a0 at qm mk Nh Mo⊢;unfold Gk
 repeat (first|with_reducible refine j6 qm ?_|(with_reducible refine QZ Mo ?_;rw[alH])|wp_step)
 refine(An Kq ai).here ?_;refine iv (au ((adM Kq _ hf).here ?_));show aM _ _ (call (.ref nN) (.ref (a0+1)::rest) >>=λr=>pure (some r)) _ _ _;refine au (e6 Nh (λr s' ay=>?_) λ_ _ z=>z);obtain⟨rfl,dk⟩:=ay
 wp_walk
 exact dk
theorem Ż(F:v' B fM mV bm){R:q7->aF->Prop}{e t0:Addr}{cR:Option Addr}{sl:ka}{rest:b_}(T:wR s.heap bm c3)(dV:s.heap.get? C=some (xc nm q C N bs c3 hd sn sub ab col kh k0 k1 k2 k3 k5 fM))(he:s.heap.get? e=some ⟨.ref C,cR,.fields #[.ref t0,.none,.none,.none,.bool false,.none],sl⟩)(Yw:rest.length<=sizeLine)(bp:∀h' t,(∀b o,b≠e->s.heap.get? b=some o->h'.get? b=some o)->h'.get? e=some ⟨.ref C,cR,.fields #[.ref t,.none,.none,.none,.bool false,.none],sl⟩->R (.ok (.ret .none)) {s with heap:=h'}):
  k9 (ba prog w) A (.call (.builtin mV) ⟨.ref e::rest,[]⟩) R s:=by
 obtain⟨h,g,d,t,os⟩:=s;refine E7 F.init.plain F.initEntry (wpAny_check_init_subT F T dV he rfl ?_);dsimp only at he⊢
 wp_walk
 have alM:(h.push {cls:=.type "tuple",data:=.seq rest.toArray}).get? e=_:=c6 _ he;refine bp _ h.objs.size (λb o U F2=>?_) ?_
 .show((h.push _).update e _).get? b=some o;rw[ox _ _ (d8 U)];exact c6 _ F2
 .show((h.push _).update e _).get? e=_;rw[mu _ alM rfl];rfl
theorem ZO{h:Heap}(T:wR h bm c3)(self:Value)(Ô:Str):PQ self Ô c3=PQ self Ô bm:=by
 induction T with
 |base=>rfl
 |own _ _ _ _ bk=>rw[ZR,bk]
theorem Th{M:oD}{d:Addr}{mA:cN}{name:Str}{aG:Tok}{v:Value}{ns:bR}{Q:Fin->aF->Prop}(aD:s.heap.Ns1 d mA)(hw:wZ mA ns)(hz:ns.length<=1000)(bp:∀h' gD,h'.Ns1 d (λy=>if y=name then some v else mA y)->kx d s.heap h'->Q (.done (.ret .none)) {s with heap:=h',toks:=gD}):
  aM M A (ĕ d (.str name aG) name v) Q E s:=by unfold ĕ aqy;refine au (a9 (au (wpAny_nsSet1 aD λh' lu hs=>?_)));obtain⟨anT,akZ,akX,Na,MR,MO⟩:=lu.count (Vo name v hw);refine au (apG Na (by rw[MR];exact an3 (hc MO (by rw[hH,pv];omega))) ?_);exact a9 (bp _ _ lu hs)
theorem ads{x:Addr}{name:Str}{v:Value}{aU owner:String}{vs:iA}{sl:ka}{Q:Unit->aF->Prop}(X:K.In s.heap)(kY:StoreFacts B bm aU owner)(T:wR s.heap bm c3)(dV:s.heap.get? C=some (xc nm q C N bs c3 hd sn sub ab col kh k0 k1 k2 k3 k5 fM))(hs:dg K (.ref C) "__setattr__"=some (some (.builtin aU)))(aD:dg K (.ref C) name=some none)(aR:JX K (.ref C) (.type owner)=some true)(ao:s.heap.get? x=some ⟨.ref C,none,.fields vs,sl⟩)(MW:hd=true)(bp:∀h' gD,h'.get? x=some ⟨.ref C,some s.heap.objs.size,.fields vs,sl⟩->h'.Ns1 s.heap.objs.size (λy=>if y=name then some v else none)->(∀b o,b≠x->s.heap.get? b=some o->h'.get? b=some o)->Q () {s with heap:=h',toks:=gD}):
  aM (ba prog w) A (C_ (.ref x) name v) Q E s:=by
 obtain⟨h,g,d,t,os⟩:=s;dsimp only at X T dV ao;have ty:JV (ba prog w) h (typeOf (.ref x)) (.ref C):=(adK ao).andThen .now;have ob:JV (ba prog w) h (Gk (.ref x) (.type owner)) true:=ty.andThen (adU X aR);unfold C_ Wl specialOf;have dB:=kY.slot.bind (.ref x)
 repeat (any_goals (first|assumption|with_reducible refine j6 ao ?_|wp_step))
 refine(An X hs).here (iv (au (y2 dB (au (rV (E7 kY.slot.plain kY.entry (adO kY.kind kY.split ob (kY.args _ _ _) ?_)))))));have amr:=kY.passes (.ref x);have s8:PQ (.ref x) "__setattr__" c3=pure ():=(ZO T _ _).trans amr;unfold Builtin.«object.__setattr__»
 repeat (first|rw[refuse_eq]|(rw[ZR,s8])|with_reducible refine j6 ao ?_|with_reducible refine apH dV ?_|wp_step)
 refine(An X aD).here (au (a9 ?_));show aM _ _ (Iu _ _ _ _ _ _) _ _ _;unfold Iu;refine au (e6 (Q:=λ_ s'=>s'=⟨h,g,d,t+1,os⟩) (E:=λ_ _=>False) ?_ (λ_ _ ax=>?_) (λ_ _ z=>z.elim))
 .repeat (first|with_reducible refine j6 ao ?_|with_reducible refine j6 dV ?_|wp_step)
  exact rfl
 .subst ax;have YG:x≠h.objs.size:=dP (dm ao);have Nw:(h.push {cls:=.type "dict",data:=.dict #[]}).get? x=_:=c6 _ ao;refine au (e6 (Q:=λr s'=>r=some h.objs.size/\s'=⟨(h.push {cls:=.type "dict",data:=.dict #[]}).update x λo=>{o with dict:=some h.objs.size},g,d,t+1,os⟩) (E:=λ_ _=>False) ?_ (λ_ _ ax=>?_) (λ_ _ z=>z.elim))
  .show aM _ _ (N0 x true) _ _ _;subst MW;unfold N0
   repeat (first|with_reducible refine j6 ao ?_|with_reducible refine j6 dV ?_|wp_step)
   exact⟨rfl,rfl⟩
  .obtain⟨rfl,rfl⟩:=ax;have alY:((h.push {cls:=.type "dict",data:=.dict #[]}).update x λo=>{o with dict:=some h.objs.size}).get? x=some ⟨.ref C,some h.objs.size,.fields vs,sl⟩:=by rw[mu _ Nw rfl]
   have M0:((h.push {cls:=.type "dict",data:=.dict #[]}).update x λo=>{o with dict:=some h.objs.size}).get? h.objs.size=some {cls:=.type "dict",data:=.dict #[]}:=
    (ox _ _ YG).trans (š rfl rfl)
   have ame:((h.push {cls:=.type "dict",data:=.dict #[]}).update x λo=>{o with dict:=some h.objs.size}).Ns h.objs.size (λ_=>none):=⟨_,#[],_,M0,rfl,λe he=>bE he (by simp),λ_=>rfl⟩
   refine Th (mA:=λ_=>none) (ns:=[]) (Š ame) adW (by decide) λh' gD lu b5=>?_;refine a9 (a9 (bp h' gD ?_ lu λb o U F2=>?_))
   .exact(b5.2 x YG).trans alY
   .refine(b5.2 b (dP (dm F2))).trans ((ox _ _ (d8 U)).trans (c6 _ F2))
theorem abj{x av:Addr}{name:Str}{v:Value}{aU owner:String}{vs:iA}{sl:ka}{mA:cN}{ns:bR}{Q:Unit->aF->Prop}(X:K.In s.heap)(kY:StoreFacts B bm aU owner)(T:wR s.heap bm c3)(dV:s.heap.get? C=some (xc nm q C N bs c3 hd sn sub ab col kh k0 k1 k2 k3 k5 fM))(hs:dg K (.ref C) "__setattr__"=some (some (.builtin aU)))(aD:dg K (.ref C) name=some none)(aR:JX K (.ref C) (.type owner)=some true)(ao:s.heap.get? x=some ⟨.ref C,some av,.fields vs,sl⟩)(MW:hd=true)(fJ:s.heap.Ns1 av mA)(hw:wZ mA ns)(hz:ns.length<=1000)(bp:∀h' gD,h'.Ns1 av (λy=>if y=name then some v else mA y)->kx av s.heap h'->Q () {s with heap:=h',toks:=gD}):
  aM (ba prog w) A (C_ (.ref x) name v) Q E s:=by
 obtain⟨h,g,d,t,os⟩:=s;dsimp only at X T dV ao fJ;have ty:JV (ba prog w) h (typeOf (.ref x)) (.ref C):=(adK ao).andThen .now;have ob:JV (ba prog w) h (Gk (.ref x) (.type owner)) true:=ty.andThen (adU X aR);unfold C_ Wl specialOf;have dB:=kY.slot.bind (.ref x)
 repeat (any_goals (first|assumption|with_reducible refine j6 ao ?_|wp_step))
 refine(An X hs).here (iv (au (y2 dB (au (rV (E7 kY.slot.plain kY.entry (adO kY.kind kY.split ob (kY.args _ _ _) ?_)))))));have s8:PQ (.ref x) "__setattr__" c3=pure ():=(ZO T _ _).trans (kY.passes (.ref x));unfold Builtin.«object.__setattr__»
 repeat (first|rw[refuse_eq]|(rw[ZR,s8])|with_reducible refine j6 ao ?_|with_reducible refine apH dV ?_|wp_step)
 refine(An X aD).here (au (a9 ?_));show aM _ _ (Iu _ _ _ _ _ _) _ _ _;unfold Iu;refine au (e6 (Q:=λ_ s'=>s'=⟨h,g,d,t+1,os⟩) (E:=λ_ _=>False) ?_ (λ_ _ ax=>?_) (λ_ _ z=>z.elim))
 .repeat (first|with_reducible refine j6 ao ?_|with_reducible refine j6 dV ?_|wp_step)
  exact rfl
 .subst ax;refine au (e6 (Q:=λr s'=>r=some av/\s'=⟨h,g,d,t+1,os⟩) (E:=λ_ _=>False) ?_ (λ_ _ ax=>?_) (λ_ _ z=>z.elim))
  .show aM _ _ (N0 x true) _ _ _;subst MW;unfold N0
   repeat (first|with_reducible refine j6 ao ?_|with_reducible refine j6 dV ?_|wp_step)
   exact⟨rfl,rfl⟩
  .obtain⟨rfl,rfl⟩:=ax;refine Th fJ hw hz λh' gD lu b5=>?_;exact a9 (a9 (bp h' gD lu b5))
end
noncomputable def nL(e C:Addr):d4:=.ext λh=>∃t sl,h.get? e=some ⟨.ref C,none,.fields #[.ref t,.none,.none,.none,.bool false,.none],sl⟩
noncomputable def nK(e C av:Addr):d4:=.ext λh=>∃t sl,h.get? e=some ⟨.ref C,some av,.fields #[.ref t,.none,.none,.none,.bool false,.none],sl⟩
noncomputable def L3(e C av:Addr):d4:=.ext λh=>∃vs sl,h.get? e=some ⟨.ref C,some av,.fields vs,sl⟩
noncomputable def tQ(d:Addr)(fs:List (Str×V)):d4:=.ext λh=>fs.length<=100/\∃mA,h.Ns1 d mA/\(∀f,i' (fs.lookup f) (mA f))/\wZ mA (fs.map (·.1))
section
variable{P:bP}{w:bt}{H:aa}{h:Heap}{e C av d:Addr}
theorem TY{t:Addr}{sl:ka}(q:h.get? e=some ⟨.ref C,none,.fields #[.ref t,.none,.none,.none,.bool false,.none],sl⟩):er P w H h e (nL e C):=
 ⟨⟨t,sl,q⟩,⟨_,q⟩,λ_ _⟨t,sl,z⟩k=>⟨t,sl,k _ z⟩⟩
theorem afw{t:Addr}{sl:ka}(q:h.get? e=some ⟨.ref C,some av,.fields #[.ref t,.none,.none,.none,.bool false,.none],sl⟩):er P w H h e (nK e C av):=
 ⟨⟨t,sl,q⟩,⟨_,q⟩,λ_ _⟨t,sl,z⟩k=>⟨t,sl,k _ z⟩⟩
theorem afx{vs:iA}{sl:ka}(q:h.get? e=some ⟨.ref C,some av,.fields vs,sl⟩):er P w H h e (L3 e C av):=
 ⟨⟨vs,sl,q⟩,⟨_,q⟩,λ_ _⟨t,sl,z⟩k=>⟨t,sl,k _ z⟩⟩
theorem TZ{fs:List (Str×V)}{mA:cN}(z:fs.length<=100)(n:h.Ns1 d mA)(r:∀f,i' (fs.lookup f) (mA f))(wi:wZ mA (fs.map (·.1))):er P w H h d (tQ d fs):=by
 obtain⟨o,q⟩:∃o,h.get? d=some o:=by obtain⟨o,_,_,q,_⟩:=n.ns;exact⟨o,q⟩
 exact⟨⟨z,mA,n,r,wi⟩,⟨o,q⟩,λ_ _⟨z,mA,n,r,wi⟩k=>⟨z,mA,n.at k,r,wi⟩⟩
end
section
variable{X:bB}{pins:cG}{σ:ar.St}{H:aa}{s:aF}
theorem Inv.put2{h':Heap}{t':Nat}{e d:Addr}{rF cR:d4}{qU:Heap->Prop}(I:Inv X pins σ H s)(he:H e=some (.ext qU))(hd:s.heap.objs.size<=d)(k:∀b o,b≠e->s.heap.get? b=some o->h'.get? b=some o)(alP:∃o,h'.get? e=some o)(gB:er X.prog X.w (upd (upd H d cR) e rF) h' e rF)(ew:er X.prog X.w (upd (upd H d cR) e rF) h' d cR):Inv X pins σ (upd (upd H d cR) e rF) {s with heap:=h',toks:=t'}:=by
 have alL:H d=none:=I.bo.fresh hd;have M0:∀o,s.heap.get? d≠some o:=λo z=>q5 _ (iz (dm z) hd);have ne1:∀b,H b=none->b≠e:=λb n z=>by rw[z,he]at n;cases n
 have old:∀{b:Addr}{u:d4},H b=some u->b≠e->upd (upd H d cR) e rF b=some u:=λ{b u}q n=>by rw[aL n,aL (dn q alL)];exact q
 have cy:∀{b:Addr}{u:d4},H b=some u->(∀lQ,u≠.ext lQ)->b≠e:=λ{b u}q n z=>by subst z;rw[he]at q;exact n qU (gZ q).symm
 refine I.un ⟨λb o q n _ _=>k b o (ne1 b n) q,λb o q n _ _=>⟨o.slots,k b o (ne1 b n) q⟩,λb o q n _=>?_,λb o q _=>?_,λb xs q=>old q (cy q (by intro lQ z;cases z)),λb o u q=>old q (cy q (by intro lQ z;cases z)),λb ps q=>⟨#[],by rw[old q (cy q (by intro lQ z;cases z))];simp⟩⟩ λb u q=>?_
 .rw[aL (ne1 b n),aL (show b≠d fromλz=>M0 o (by rw[<-z];exact q))];exact n
 .by_cases U:b=e
  .subst U;exact alP
  .exact⟨o,k b o U q⟩
 .by_cases U:b=e
  .subst U;rw[a8]at q;cases q;exact gB
  .rw[aL U]at q;by_cases gK:b=d
   .subst gK;rw[a8]at q;cases q;exact ew
   .rw[aL gK]at q;refine(I.bo b u q).oj (λc v aC r=>k c v ?_ r) (λc r=>old r (cy r (by intro lQ z;cases z))) λc xs r=>old r (cy r (by intro lQ z;cases z));rcases aC with rfl|aC
    .exact U
    .exact cy aC (by intro lQ z;cases z)
theorem afy{H:aa}{a:Addr}{o:d4}(h:H a=some o):upd H a o=H:=by
 funext b;by_cases U:b=a
 .subst U;rw[a8,h]
 .rw[aL U]
structure p2(K:aY)(ae:cN)(y:Str)(C R:Addr):Prop where
 base:Exc K ae y R [.type "ValueError",.type "Exception",.type "BaseException",.type "object"] "ValueError.__new__"
 lk:∃kh nF rQ AO p_ Hz,K.lookup C=some ⟨.type "type",kh,.cls nF,rQ⟩/\K.lookup R=some ⟨.type "type",AO,.cls p_,Hz⟩/\Ib nF p_ rQ C "ValueError.__new__"=true/\nF.hasDict=true
 aU:dg K (.ref C) "__setattr__"=some (some (.builtin "object.__setattr__"))
 ob:JX K (.ref C) (.type "object")=some true
 bG:Vl K R (.type "type")=true
 L7:Vg K (.ref R) (.type "type") "__init__"=some (.val (.builtin "ValueError.__init__"))
 d7:Ao K (.ref R) "__getattribute__"=some (some (.builtin "type.__getattribute__"))
 mL:aih K C
 hd:uw K C=true
end
theorem p2.obj{K:aY}{ae:cN}{y:Str}{C R:Addr}{h:Heap}(x:p2 K ae y C R)(X:K.In h):
  ∃nm q N bs c3 sn sub ab col kh k0 k1 k2 k3 k5,h.get? C=some (xc nm q C N bs c3 true sn sub ab col kh k0 k1 k2 k3 k5 "ValueError.__new__")/\wR h [.type "ValueError",.type "Exception",.type "BaseException",.type "object"] c3:=by obtain⟨kh,nF,rQ,AO,p_,Hz,Oh,Ol,kg,hd⟩:=x.lk;obtain⟨nm,q,N,bs,c3,sn,sub,ab,col,k0,k1,k2,k3,k5,dV,T⟩:=abi X x.base Oh Ol kg;rw[hd]at dV;exact⟨nm,q,N,bs,c3,sn,sub,ab,col,kh,k0,k1,k2,k3,k5,dV,T⟩
section
variable{X:bB}{o e value:Expr}{es:gm}{f y:Str}{pos pos' fE np:Pos}{cb jE:TE}{t:gF}{R:Addr}
noncomputable def aoO(K:aY)(ae:cN)(y:Str)(R:Addr)(t:gF):TE:=λσ H Q=>t σ H λvs H1=>∃e C rest,vs=.ref e::rest/\H1 e=some (nL e C)/\p2 K ae y C R/\rest.length<=sizeLine/\Q .bV H1
theorem aa5{pl:Sem Bool}(bx:kv X y)(hm:X.ae y=some (.ref R))(bG:Vl X.K R (.type "type")=true)(L7:Vg X.K (.ref R) (.type "type") "__init__"=some (.val (.builtin "ValueError.__init__")))(d7:Ao X.K (.ref R) "__getattribute__"=some (some (.builtin "type.__getattribute__")))(aH:ht X (e::es) t)(kj:(y==("__debug__":Str))=false:=by decide)(mT:eb (e::es) X.env=(false,eval e X.env)::eb es X.env:=by rfl)(fW:(hL pos (eb es X.env)).any (·.1)=false:=by rfl)(cO:eval (.Call (.Attribute (.Name y np) "__init__" fE) (e::es) [] pos) X.env=(do
   let eH <-eval (.Name y np) X.env
   tH fE.atName
   let(f,first) <-nV [eH] (xr eH "__init__" pl)
   AJ pos f first (hL pos (eb (e::es) X.env)) (sE pos (tg [] X.env))):=by rfl):
  bN X (.Call (.Attribute (.Name y np) "__init__" fE) (e::es) [] pos) (aoO X.K X.ae y R t):=by
 intro pins s σ H Q I h;refine EJ (pl:=pl) (lw I bx hm ?_ kj) cO;refine PySem.W.method_cls I.fb d7 (PySem.W.cls_value I.fb bG L7 (by decide+kernel) ?_);refine adx (bS (aH pos pins _ σ H _ (I.tok _) h) λus s1⟨vs,H1,aX,b',ex,C,rest,ev,hex,iS,hz,q⟩=>?_) mT fW;subst ev;cases b' with
 |cons gq qD=>
  cases gq;obtain⟨⟨t0,sl,he⟩,_,_⟩:=(show er X.prog X.w H1 s1.heap ex (nL ex C)from aX.bo ex _ hex)
  obtain⟨nm,dj,N,bs,c3,sn,sub,ab,col,kh,k0,k1,k2,k3,k5,dV,T⟩:=iS.obj aX.fb;refine rV (Ż Aj T dV he (by rw[<-qD.length];exact hz) λh' t1 cm X8=>?_);have bT:=aX.write (t':=s1.toks) (x:=ex) (e:=ex) (o:=nL ex C) (by rw[hex];exact trivial) (.inl rfl) (λb u U q=>cm b u U q) ⟨_,X8⟩ (TY X8);rw[afy hex]at bT;exact⟨.bV,H1,bT,rfl,q⟩
noncomputable def agX(K:aY)(ae:cN)(y:Str)(R:Addr)(to jE:TE)(f:Str):e0:=λD σ H=>jE σ H λv H1=>to σ H1 λx aj=>∃e C,x=.ref e/\p2 K ae y C R/\dg K (.ref C) f=some none/\
 ((aj e=some (nL e C)/\∀av,aj av=none->av≠e->D.cy σ (upd (upd aj av (tQ av [(f,v)])) e (nK e C av)))\/
 ∃av fs,aj e=some (nK e C av)/\aj av=some (tQ av fs)/\fs.length<100/\D.cy σ (upd aj av (tQ av (jA f v fs))))
theorem Ti(aH:bN X o cb)(bI:bN X value jE)(hs:yS value (some (.Attribute o f pos')) pos.line X.env=pure false):g0 X (.Assign [.Attribute o f pos'] value pos) (agX X.K X.ae y R cb jE f):=by
 intro pins s σ H D I h;refine an7 (bS (bI pins s σ H _ I h) λu s1⟨v,H1,aX,cg,q⟩=>bS (aH pins s1 σ H1 _ aX q) λeH s2⟨x,aj,bT,bC,e,C,ex,iS,aD,cj⟩=>?_) hs;subst ex;obtain rfl:eH=dA e:=bC;obtain⟨nm,dj,N,bs,c3,sn,sub,ab,col,kh,k0,k1,k2,k3,k5,dV,T⟩:=iS.obj bT.fb;rcases cj with⟨he,cj⟩|⟨av,fs,he,BB,hz,cj⟩
 .obtain⟨⟨t0,sl,rn⟩,_,_⟩:=(show er X.prog X.w aj s2.heap e (nL e C)from bT.bo e _ he)
  refine ads bT.fb adJ T dV iS.aU aD iS.ob rn rfl λh' gD e2 FX cm=>?_;have vm:s2.heap.objs.size≠e:=uq (dm rn);refine⟨σ,_,Inv.put2 bT he (b1 _) cm ⟨_,e2⟩ (afw e2) (TZ (fs:=[(f,v)]) (show 1<=100 by decide) FX (λg=>?_) ?_),cj _ (bT.bo.fresh (b1 _)) vm⟩
  .by_cases bx:g=f
   .subst bx;have U:(g==g)=true:=oK.mpr rfl;simp only[sk,U,aO];exact cg
   .have U:(g==f)=false:=w6.mpr bx;simp only[sk,U,aJ bx];exact trivial
  .exact Vo f u adW
 .obtain⟨⟨t0,sl,rn⟩,_,_⟩:=(show er X.prog X.w aj s2.heap e (nK e C av)from bT.bo e _ he)
  obtain⟨⟨arE,mA,fJ,amB,YF⟩,⟨cR,arz⟩,_⟩:=(show er X.prog X.w aj s2.heap av (tQ av fs)from bT.bo av _ BB)
  refine abj bT.fb adJ T dV iS.aU aD iS.ob rn rfl fJ YF (by rw[bh];omega) λh' gD FX b5=>?_;refine⟨σ,_,bT.write (x:=av) (e:=av) (o:=tQ av (jA f v fs)) (by rw[BB];exact trivial) (.inl rfl) (λb z U q=>(b5.2 b U).trans q) (by obtain⟨cQ,_,_,q,_⟩:=FX.ns;exact⟨cQ,q⟩) (TZ ?_ FX (λg=>?_) ?_),cj⟩
  .have:=Ox f v fs;omega
  .rw[Ow];by_cases q:g=f
   .rw[aO q,aO q];exact cg
   .rw[aJ q,aJ q];exact amB g
  .intro g bx;by_cases q:g=f
   .rw[q];exact(B2 f v fs).1
   .exact(B2 f v fs).2 g (YF g λz=>bx (by show(if g=f then some u else mA g)=none;rw[aJ q];exact z))
end
section
variable{X:bB}{k:Nat}{f C R:Addr}{fd:c1}{ps:bR}{sp:c9}{y:Str}
theorem aa6{pins:cG}{σ:ar.St}{H:aa}{s:aF}{us:b_}{vs:a'}{Rr:Addr->Addr->aa->Prop}(iS:p2 X.K X.ae y C R)(ai:dg X.K (.ref C) "__init__"=some (some (.ref f)))(hf:hu X.K (.ref f)=true)(F:a4 X.prog X.w X.K X.ae X.base bu k f fd ps sp)(ay:gf (k+1) X.A)(U:Binds X.K fd ps [])(I:Inv X pins σ H s)(r:cp vs us)(hz:vs.length<=sizeLine)(h:∀e,H e=none->sp (.ref e::vs) (upd H e (nL e C)) (λv aj=>v=.bV/\∃av,aj e=some (nK e C av)/\Rr e av aj) v9):
  aM (ba X.prog X.w) X.A (call (.ref C) us) (λu s'=>∃e av aj,u=.ref e/\s.heap.get? e=none/\Inv X pins σ aj s'/\aj e=some (nK e C av)/\Rr e av aj) X.dD s:=by
 obtain⟨nm,dj,N,bs,c3,sn,sub,ab,col,kh,k0,k1,k2,k3,k5,dV,T⟩:=iS.obj I.fb;refine ź Aj T I.fb dV ai (oK.mp hf) (by rw[<-r.length];exact hz) λh' e hle mk=>?_;obtain⟨t,he,arC,cO⟩:=mk.there;have bT:Inv X pins σ (upd H e (nL e C)) {s with heap:=h'}:=I.laid (a:=e) (o:=nL e C) (t':=s.toks) mk.keeps hle (TY he);have bp:=h e (I.bo.fresh hle);have df:cp (V.ref e::vs) (dA e::us):=.cons rfl r;have aq:(dA e::us++[]).length=ps.length:=by have ax:=df.length;rw[F.len _ _ _ _ bp]at ax;rw[iW];exact ax.symm
 have c2:=U {s with heap:=h'} (dA e::us) bT.fb aq;rw[iW]at c2;refine rV (qa (F.run _ X.stack _ _ ⟨dA e::us,[]⟩ (dA e::us) _ _ v9 (ay.make C us []) (bT.Fd.make C us []) c2 df bp) λqD s' o2=>?_);cases qD with
 |error x=>exact h7 o2
 |ok fI=>
  cases fI with
  |ret u=>
   obtain⟨v,H',c_,cg,ev,av,aV,bU⟩:=bT.after o2;subst ev;exact⟨cg,e,av,H',rfl,mk.new,c_,aV,bU⟩
  |next=>exact h7 o2
  |brk=>exact h7 o2
  |cont=>exact h7 o2
end
section
variable{prog:bP}{w:bt}{A:cU}{E:cx}{s:aF}{env:Env}{K:aY}{ae:cN}{y:Str}{C R:Addr}
theorem adt{x:Sem Value}{Q:Flow->aF->Prop}(iS:p2 K ae y C R)(dy:A.handled=none)(h:aM (ba prog w) A x (λv dH=>∃e av t sl,v=.ref e/\K.In dH.heap/\dH.heap.get? e=some ⟨.ref C,some av,.fields #[.ref t,.none,.none,.none,.bool false,.none],sl⟩/\E (.ref e) dH) E s):
  aM (ba prog w) A (ZQ env (some x) none) Q E s:=by
 unfold ZQ;refine au (e6 h (λv dH NC=>?_) λ_ _ x=>x);obtain⟨e,av,t,sl,rfl,X,he,mP⟩:=NC;obtain⟨nm,dj,N,bs,c3,sn,sub,ab,col,kh,k0,k1,k2,k3,k5,dV,T⟩:=iS.obj X;have MN:(dA C::c3).contains (.type "BaseException")=true:=by rw[abx,T.hasType (b:=true) (by decide),ċ]
 obtain⟨aP,g,d,aG,os⟩:=dH
 repeat (first|with_reducible refine j6 he ?_|with_reducible refine j6 dV ?_|(with_reducible refine QZ dV ?_;rw[MN])|wp_step)
 exact wpAny_raiseNew_none dy mP
noncomputable def T'(h:Heap)(bw:Addr)(cR:Option Addr):Prop:=∀av,cR=some av->∃o,h.get? bw=some o/\o.dict=some av
end
noncomputable def r8(P:bP)(w:bt):lT:=λfr H s E e s'=>∃(bw:Addr)(cls a0:Value)(H':aa)(B:Heap)(cR:Option Addr),e=.ref bw/\n1 P w fr H s bw cls a0 H' B s'/\T' s'.heap bw cR/\E cls cR H'
theorem VB{P:bP}{w:bt}{fr:List Env}{H:aa}{s s':aF}{E:cE}{e:Value}(h:gP P w fr H s E e s'):r8 P w fr H s E e s':=by obtain⟨bw,cls,a0,H',B,rfl,T,q⟩:=h;exact⟨bw,cls,a0,H',B,none,rfl,T,(by intro av z;cases z),q⟩
noncomputable def del(H:aa)(a:Addr):aa:=λb=>if b=a then none else H b
theorem aa7{H:aa}{a:Addr}:del H a a=none:=by unfold del;rw[aO rfl]
theorem qt{H:aa}{a b:Addr}(h:b≠a):del H a b=H b:=by unfold del;rw[aJ h]
section
variable{P:bP}{w:bt}{K:aY}{ae:cN}{base:Heap}{N:bR}{cn:Str}{scope:Scope}{f:Addr}{bK:Value}{A:cU}{outer:List Env}{s:aF}{H:aa}{E:cE}
noncomputable abbrev iD(P:bP)(w:bt)(K:aY)(ae:cN)(base:Heap)(N:bR)(cn:Str)(scope:Scope)(f:Addr)(bK:Value)(A:cU)(outer:List Env)(s:aF)(H:aa)(E:cE):bB:=
 j0 (r8 P w) P w K ae base N cn scope f bK A outer s H E
theorem ν{pins:cG}{σ:ar.St}{H1:aa}{s1:aF}(I:Inv (iD P w K ae base N cn scope f bK A outer s H E) pins σ H1 s1):Inv (gG P w K ae base N cn scope f bK A outer s H E) pins σ H1 s1:=I.ng _
theorem aik{e:Value}{s':aF}(h:(gG P w K ae base N cn scope f bK A outer s H E).dD e s'):(iD P w K ae base N cn scope f bK A outer s H E).dD e s':=
 e6 h (λ_ _ q=>VB q) λ_ _ q=>VB q
theorem QJ:qs (gP P w) (iD P w K ae base N cn scope f bK A outer s H E) E:=λpins σ bJ sc e s' I h=>aik (CK pins σ bJ sc e s' (ν I) h)
theorem apW{pins:cG}{σ:ar.St}{H1:aa}{s1:aF}{bw C av:Addr}(I:Inv (iD P w K ae base N cn scope f bK A outer s H E) pins σ H1 s1)(ao:H1 bw=some (nK bw C av))(hold:s.heap.get? bw=none)(mP:E (.ref C) (some av) (del H1 bw)):(iD P w K ae base N cn scope f bK A outer s H E).dD (.ref bw) s1:=by
 obtain⟨⟨t,sl,rn⟩,_,_⟩:=(show er P w H1 s1.heap bw (nK bw C av)from I.bo bw _ ao)
 obtain⟨S,cP⟩:∃S,S=f9 (iD P w K ae base N cn scope f bK A outer s H E).stack:=⟨_,rfl⟩
 have iK:∀env∈(iD P w K ae base N cn scope f bK A outer s H E).stack,∀b,env.frame=some b->b∈bw::S:=λenv he b U=>by rw[cP];exact oz _ (Jx.mpr ⟨env,he,U⟩)
 have BP:∀b o,H1 b=some o->b∉S:=λb o e z=>by rw[cP]at z;rw[I.HK b z]at e;cases e
 have kF:∀b o,s1.heap.get? b=some o->b≠bw->b∉S->(ux s1.heap (bw::S)).get? b=some o:=λb o e n m=>Vh _ e λz=>by
  rcases fp.mp z with z|z
  .exact n z
  .exact m z
 have G0:∀b o,s.heap.get? b=some o->b≠bw:=λb o e z=>by rw[z,hold]at e;cases e
 have qH:∀b o,s.heap.get? b=some o->b∉f9 outer->b∉S:=λb o e U=>by rw[cP];exact CJ (ν I) e U
 have yo:∀{b:Addr}{u:d4},H1 b=some u->(∀lQ,u≠.ext lQ)->b≠bw:=λ{b u}q n z=>by subst z;rw[ao]at q;exact n _ (gZ q).symm
 have X_:(ux s1.heap (bw::S)).get? bw=none:=adR _ (.head _);refine e6 (Ha apV (wpAny_leaving_firstW (base:=ux s1.heap (bw::S)) (a0:=.ref t) (Q:=λ_ s'=>∃h',s'={s1 with heap:=h'}/\Heap.LeftW (ux s1.heap (bw::S)) _ bw (.ref C) (.ref t) s1.heap h') (E:=λ_ _=>False)
  I.ok.frames (adP I.stack iK) rfl rn (λb o q=>Vj _ q) X_ rfl rfl rfl λh' gJ=>⟨h',rfl,gJ⟩)) (λ_ s'⟨⟨h',es,gJ⟩,cX⟩=>?_) λ_ _ z=>z.1.elim
 subst es;obtain⟨k1,⟨_,_,k2⟩,k3,vY⟩:=gJ;have fX:sb (ux s1.heap (bw::S)) outer bw (.ref C) (.ref t) h':=⟨k1,X_,k2,k3⟩
 refine⟨bw,.ref C,.ref t,del H1 bw,_,some av,rfl,⟨fX,I.os,I.bare,λb ob e=>?_,⟨λb o e n U e2=>?_,λb o e n U e2=>?_,λb o e n e2=>?_,λb o e e2=>?_,λb xs q=>?_,λb o u q=>?_,λb ps q=>?_⟩,λb o e U=>?_⟩,?_,mP⟩
 .have U:b≠bw:=λz=>by rw[z,aa7]at e;cases e
  rw[qt U]at e;refine(I.bo b ob e).oj (λc u aC q=>?_) (λc r=>by rw[qt (yo r (by intro lQ z;cases z))];exact r) λc xs r=>by rw[qt (yo r (by intro lQ z;cases z))];exact r
  rcases aC with rfl|aC
  .exact kF c u q U (BP c _ e)
  .exact kF c u q (yo aC (by intro lQ z;cases z)) (BP c _ aC)
 .exact fX.1 b o (kF b o (I.base.keep b o e n U e2) (G0 b o e) (qH b o e U))
 .obtain⟨pw,z⟩:=I.base.slot b o e n U e2;obtain⟨_,ob,b9,gY⟩:=I.jT.mem U;rw[z]at b9;cases b9;obtain⟨Dd,dz⟩:=vY b _ z gY;exact⟨Dd,dz⟩
 .rw[qt (G0 b o e)];exact I.base.free b o e n e2
 .obtain⟨cQ,z⟩:=I.base.there b o e e2;by_cases U:b∈f9 outer
  .obtain⟨_,ob,b9,gY⟩:=I.jT.mem U;obtain⟨pw,dz⟩:=vY b _ b9 gY;exact⟨_,dz⟩
  .exact⟨cQ,fX.1 b cQ (kF b cQ z (G0 b o e) (qH b o e U))⟩
 .have r:=I.base.ir b xs q;rw[qt (yo r (by intro lQ z;cases z))];exact r
 .have r:=I.base.jt b o u q;rw[qt (yo r (by intro lQ z;cases z))];exact r
 .obtain⟨m,r⟩:=I.base.j5 b ps q;exact⟨m,by rw[qt (yo r (by intro lQ z;cases z))];exact r⟩
 .obtain⟨cQ,z⟩:=I.base.there b o e (by simp[iD,j0]);refine⟨cQ,kF b cQ z (G0 b o e) (qH b o e U),λn=>?_⟩;have bH:=I.base.keep b o e n U (by simp[iD,j0]);rw[z]at bH;exact gZ bH
 .intro arn dv;cases dv;obtain⟨ob,u3,_⟩:=fX.there;exact⟨ob,u3,cX.dict rn u3⟩
noncomputable def adu(C:Addr)(sp:c9)(E:cE)(cb:gF):e0:=λ_ σ H=>cb σ H λvs H1=>vs.length<=sizeLine/\∀e,H1 e=none->sp (.ref e::vs) (upd H1 e (nL e C)) (λv aj=>v=.bV/\∃av,aj e=some (nK e C av)/\E (.ref C) (some av) (del aj e)) v9
theorem À{x y:Str}{C R nN:Addr}{k:Nat}{fd:c1}{ps:bR}{sp:c9}{np fF pos:Pos}{cI:Expr}{es:gm}{cb:gF}(iS:p2 K ae y C R)(hm:ae x=some (.ref C))(al4:pX K (.ref C)=true)(ai:dg K (.ref C) "__init__"=some (some (.ref nN)))(hf:hu K (.ref nN)=true)(F:a4 P w K ae base bu k nN fd ps sp)(ay:gf (k+1) (iD P w K ae base N cn scope f bK A outer s H E).A)(U:Binds K fd ps [])(bx:kv (iD P w K ae base N cn scope f bK A outer s H E) x)(aH:ht (iD P w K ae base N cn scope f bK A outer s H E) (cI::es) cb)(kj:(x==("__debug__":Str))=false:=by decide)(he:eb (cI::es) (iD P w K ae base N cn scope f bK A outer s H E).env=(false,eval cI (iD P w K ae base N cn scope f bK A outer s H E).env)::eb es (iD P w K ae base N cn scope f bK A outer s H E).env:=by rfl)(fW:(hL fF (eb es (iD P w K ae base N cn scope f bK A outer s H E).env)).any (·.1)=false:=by rfl):
  g0 (iD P w K ae base N cn scope f bK A outer s H E) (.Raise (some (.Call (.Name x np) (cI::es) [] fF)) none pos) (adu C sp E cb):=by
 intro pins s1 σ H1 D I h;rw[arm_exec_Raise];refine au (H8 ?_);show aM _ _ (ZQ _ (some (do
  let v <-eval (.Call (.Name x np) (cI::es) [] fF) (iD P w K ae base N cn scope f bK A outer s H E).env
  tH pos
  pure v)) none) _ _ _
 refine adt iS (I.ok.hd rfl) (au (H3 (lw I bx hm ?_ kj)));refine EH (h₀:=base) I.ok.mod.th al4 (bS (aH fF pins s1 σ H1 _ I h) λus s2⟨vs,aj,bT,r,hz,q⟩=>⟨bT.fb,?_⟩) he fW;refine bS (aa6 (X:=iD P w K ae base N cn scope f bK A outer s H E) (Rr:=λe av aj=>E (.ref C) (some av) (del aj e)) iS ai hf F ay U bT r hz q) λu s3⟨e,av,bL,rd,amf,c_,aV,mP⟩=>?_;subst rd;obtain⟨⟨t,sl,rn⟩,_,_⟩:=(show er P w bL s3.heap e (nK e C av)from c_.bo e _ aV)
 refine au (H8 (a9 ⟨e,av,t,sl,rfl,c_.fb,rn,apW c_ aV ?_ mP⟩));cases yw:s.heap.get? e with
 |none=>rfl
 |some o=>
  obtain⟨cQ,z⟩:=bT.base.there e o yw (by simp[iD,j0]);rw[amf]at z;cases z
theorem anW{x:Str}{st:Stmt}{fd:c1}{ps:bR}{k:Nat}{sp:c9}(F:b6 K x cn st f fd)(S:d0 N ps (dx st))(len:∀vs H Q E,sp vs H Q E->vs.length=ps.length)(uZ:∀(bK:Value)(A:cU)(outer:List Env)(s:aF)(H:aa)(vs:a')(Q:bl)(E:cE),gf k (A.deeper (qd cn (dx st) s.heap.objs.size f bK))->sp vs H Q E->
   ∃t,hI (iD P w K ae base N cn (dx st) f bK A outer s H E) (tc st) t/\t {cy:=λ_ H'=>Q .bV H',rt:=Q} (start N vs) H):a4 P w K ae base (r8 P w) (k+1) f fd ps sp:=by obtain⟨lF,cR,di,doc,pm,an,bK,fU,oc,rfl,lk,lr⟩:=F.ex;exact Jj lk lr S len λA outer s H vs Q E ay nW=>uZ bK A outer s H vs Q E ay nW
end
noncomputable def Kr(X:bB)(pins:cG)(σ:ar.St)(E:cE)(e:Value)(s':aF):Prop:=
 ∃(bJ:aa)(sc:aF)(bw:Addr)(cls a0:Value)(H':aa)(B:Heap)(cR:Option Addr),e=.ref bw/\Inv X pins σ bJ sc/\n1 X.prog X.w X.stack bJ sc bw cls a0 H' B s'/\T' s'.heap bw cR/\E cls cR H'
noncomputable def U8(X:bB)(e:Expr)(t:EY):Prop:=
 ∀(pins:cG)(s:aF)(σ:ar.St)(H:aa)(Q:bl)(E:cE),Inv X pins σ H s->t E σ H Q->aM (ba X.prog X.w) X.A (eval e X.env) (hG X pins σ Q) (Kr X pins σ E) s
noncomputable def U9(X:bB)(st:Stmt)(t:E0):Prop:=
 ∀(pins:cG)(s:aF)(σ:ar.St)(H:aa)(D:Ends)(E:ar.St->cE),Inv X pins σ H s->t D E σ H->aM (ba X.prog X.w) X.A (exec st X.env) (uA X pins D) (λe s'=>∃a_,Kr X pins a_ (E a_) e s') s
section
variable{X:bB}{e o:Expr}{es:gm}{pos fE p:Pos}{k:Nat}{f C:Addr}{fd:c1}{ps:bR}{sp:c9}{cb:TE}{t:gF}{m x:Str}
theorem adv{pins:cG}{σ:ar.St}{H:aa}{s:aF}{Q:bl}{E:cE}{us:b_}{vs:a'}(F:a4 X.prog X.w X.K X.ae X.base (r8 X.prog X.w) k f fd ps sp)(ay:gf k X.A)(U:Binds X.K fd ps [])(I:Inv X pins σ H s)(r:cp vs us)(h:sp vs H Q E):aM (ba X.prog X.w) X.A (call (.ref f) us) (hG X pins σ Q) (Kr X pins σ E) s:=by
 have aq:(us++[]).length=ps.length:=by rw[iW,<-r.length];exact F.len _ _ _ _ h
 have c2:=U s us I.fb aq;rw[iW]at c2;refine rV (qa (F.run X.A X.stack s H ⟨us,[]⟩ us vs Q E ay I.Fd c2 r h) λr s' bp=>?_);cases r with
 |error e=>
  obtain⟨bw,cls,a0,H',B,cR,rfl,T,lk,mP⟩:=bp;exact⟨H,s,bw,cls,a0,H',B,cR,rfl,I,T,lk,mP⟩
 |ok fI=>
  cases fI with
  |ret u=>exact I.after bp
  |next=>exact h7 bp
  |brk=>exact h7 bp
  |cont=>exact h7 bp
theorem aa8{b3:EY}(he:U8 X e b3)(hs:yS e none pos.line X.env=pure false:=by rfl):U9 X (.Expr e pos) (ae0 b3):=by intro pins s σ H D E I h;exact apC (e6 (he pins s σ H _ _ I h) (λv s1⟨x,H1,aX,b',bq⟩=>⟨σ,H1,aX,bq⟩) λe s' q=>⟨σ,q⟩) I.quiet hs
end
section
variable{M:oD}{A:cU}{E:cx}{s:aF}{B:Heap}{e L:Addr}{cls a0:Value}{Q:Unit->aF->Prop}{env:Env}{outer l:List Env}
theorem adw(BE:A.frames=some (env::outer))(hf:env.frame=some L)(MY:sb B (env::outer) e cls a0 s.heap)(dk:∀h',TC B (env::outer) e cls a0 L h'->s.heap.UpToSlots h'->hB s.heap h'->Q () {s with heap:=h'}):aM M A (OZ (.ref e) env) Q E s:=
 e6 (Ha Ω (wpAny_looks_onW (Q:=λ_ s'=>∃h',s'={s with heap:=h'}/\TC B (env::outer) e cls a0 L h'/\s.heap.UpToSlots h') (E:=λ_ _=>False) BE hf MY λh' a b=>⟨h',rfl,a,b⟩)) (λ_ s'⟨⟨h',es,a,b⟩,cX⟩=>by subst es;exact dk h' a b cX) λ_ _ z=>z.1.elim
theorem adX(dy:TC B l e cls a0 L s.heap)(dk:∀h',sb B l e cls a0 h'->s.heap.UpToSlots h'->hB s.heap h'->Q () {s with heap:=h'}):aM M A (P9 (.ref e) none) Q E s:=
 e6 (Ha N6 (wpAny_landsW (Q:=λ_ s'=>∃h',s'={s with heap:=h'}/\sb B l e cls a0 h'/\s.heap.UpToSlots h') (E:=λ_ _=>False) dy λh' a b=>⟨h',rfl,a,b⟩)) (λ_ s'⟨⟨h',es,a,b⟩,cX⟩=>by subst es;exact dk h' a b cX) λ_ _ z=>z.1.elim
theorem adb(dy:sb B l e cls a0 s.heap)(dk:∀h',sb B l e cls a0 h'->s.heap.UpToSlots h'->hB s.heap h'->Q () {s with heap:=h'}):aM M A (P9 (.ref e) none) Q E s:=
 e6 (Ha N6 (lands_againW (Q:=λ_ s'=>∃h',s'={s with heap:=h'}/\sb B l e cls a0 h'/\s.heap.UpToSlots h') (E:=λ_ _=>False) dy λh' a b=>⟨h',rfl,a,b⟩)) (λ_ s'⟨⟨h',es,a,b⟩,cX⟩=>by subst es;exact dk h' a b cX) λ_ _ z=>z.1.elim
end
theorem QM{K:aY}{a:Addr}{xs:a'}{g:eK}{c0:e0}{D:Ends}{σ:ar.St}{H:aa}(Pv:Nat->ar.St->aa->Prop)(h0:Pv 0 σ H)(aq:∀i σ H,Pv i σ H->aS K H a xs)(hs:∀i x σ H p,xs[i]?=some x->Pv i σ H->H p=none->g (.ref p) σ (upd H p (.tup [.int i,x])) λhn aj=>c0 {D with cy:=Pv (i+1),fU:=Pv (i+1),gU:=D.cy} hn aj)(hd:∀σ H,Pv xs.length σ H->D.cy σ H):
  ∃W:Nat->Nat->ar.St->aa->Prop,(∃m,W 0 m σ H)/\∀i m σ H,W i m σ H->
   ((q0 K a).stop i H/\D.cy σ H)\/((q0 K a).go i H/\∃N:ar.St->aa->Prop,(∀a_ H',N a_ H'->∃c5,c5<m/\W (i+1) c5 a_ H')/\∀x H',(q0 K a).ni i H x H'->g x σ H' λhn aj=>c0 {D with cy:=N,fU:=N,gU:=D.cy} hn aj):=by
 refine⟨λi m σ H=>m=xs.length-i/\i<=xs.length/\Pv i σ H,⟨xs.length,by simp,dM _,h0⟩,?_⟩;rintro i m σ H ⟨rfl,ai,p⟩;have q:=aq i σ H p;by_cases bZ:i<xs.length
 .refine .inr ⟨⟨xs,xs[i],q,by simp[bZ]⟩,Pv (i+1),λa_ H' iO=>⟨xs.length-(i+1),by omega,rfl,bZ,iO⟩,λv H' y=>?_⟩;obtain⟨r,x,ay,rfl,ao,rfl⟩:=y;exact hs i x σ H r (ao xs q) p ay
 .have e:i=xs.length:=by omega
  subst e;exact .inl ⟨⟨xs,q,b1 _⟩,hd σ H p⟩
end cK
namespace fR
open PySem ar cK de
inductive Do(vs:a')(H:aa)(Q:bl)(bM:cE):Prop where
 |mk (c:Int) (m:Nat) (b0:vs=[.int c,.int m]) (bH:m<=12) (cu:∀(p:Addr)(H':aa),H p=none->aT H H'->H' p=some (.lst (dC (rx c m)))->Q (.ref p) H')
noncomputable def Py:c9:=λvs H Q bM=>Do vs H Q bM
theorem apX{c:Int}{m:Nat}(h:m<=12):Good (rx c m):=⟨λx ao=>by
 obtain⟨k,_,rfl⟩:=cf.mp ao;exact afv c k,ĵ h,by rw[Oz];exact h⟩
noncomputable def wB(c:Int)(k j:Nat):Int:=c/64+5*(0+(j:Int))*(0+(j:Int))+2*(0+(k:Int))*(if decide (V.int (0+(j:Int))=V.int (c/8%(1+c%8)))=true then 1 else 0)
theorem agY(c:Int)(k j:Nat):97+(wB c k j%26).toNat=iJ c k j:=by
 unfold wB iJ;rw[ado c];by_cases h:j=fW c
 .subst h;rw[aO rfl,aO (dU (by rw[t_])),t_,t_]
 .rw[aJ h,aJ (by rw[eM (λz=>h (by have:=V.int.inj z;omega))];exact fz),t_,t_]
theorem Y3{α:Type}(f:Nat->α)(n:Nat):(da (n+1)).map f=(da n).map f++[f n]:=by rw[z3,fo];rfl
noncomputable def ltV(hs:bD)(d:de.Lt):List ar.V:=[.str (S (hs.getD d.a [])),.int d.t,.str (S (hs.getD d.b []))]
inductive ade(vs:a')(H:aa)(Q:bl)(bM:cE):Prop where
 |mk (c b:Int) (a:Addr) (hs:bD) (b0:vs=[.int c,.ref a,.int b]) (bH:H a=some (.lst (dC hs))) (cu:2<=hs.length) (cS:hs.length<=12) (dw:∀r,H r=none->Q (.ref r) (upd H r (.tup (ltV hs (lt hs.length c b)))))
noncomputable def IT:c9:=λvs H Q bM=>ade vs H Q bM
section
variable{P:bP}{w:bt}{K:aY}{ae:cN}{base:Heap}
noncomputable abbrev yL:Stmt:=top 38
theorem ail:d0 ["_law_script","_law_k"] ["_law_script","_law_k"] (dx yL):=⟨rfl,rfl,rfl,by decide+kernel,rfl,by decide+kernel,by decide+kernel⟩
theorem agZ{f:Addr}{fd:c1}(F:b6 K "_law_cell_at" "_law_cell_at" yL f fd)(len:ae "len"=none):a4 P w K ae base bu 1 f fd ["_law_script","_law_k"] (EB K):=by
 refine F.ok ail (λvs H Q E h=>?_) (λbK A outer s H vs Q E ay h=>?_)
 .obtain⟨a,ns,k,rfl,_⟩:=h;rfl
 .obtain⟨a,ns,k,rfl,cP,h0,q⟩:=h;refine⟨_,bQ (gd (fP yV (ah 1) (eo ke (by rfl) len PySem.boot_len (aA (ah 0) a5)) (eD _)) (b8 (dE (cz gS (ah 0) (ah 1) (λ_ _=>rfl)))) gb) (b8 (dE bF)),?_⟩;refine⟨_,rfl,_,rfl,a,_,rfl,.inl cP,_,_,rfl,rfl,_,rfl,?_⟩;refine J9 (λh=>?_) (λh=>?_)
  .have ag:=kJ h;exact⟨_,rfl,_,rfl,a,_,k,_,rfl,rfl,cP,acK h0 ag,q⟩
  .have ag:¬k<((ns.map V.int).length:Int):=λz=>h (dU z);rw[bh]at ag;have e:ns.getD k.toNat 0=0:=by rw[dr,sg (by omega)];rfl
   rw[e]at q;exact q
noncomputable abbrev Ct:Stmt:=top 39
noncomputable abbrev aa9:List Str:=["_law_cell","_law_many","_law_letters","_law_size","_law_at","_law_names","_law_k","_law_name","_law_j","_law_place"]
theorem qb:d0 aa9 ["_law_cell","_law_many"] (dx Ct):=⟨rfl,rfl,rfl,by decide+kernel,rfl,by decide+kernel,by decide+kernel⟩
theorem ķ{f:Addr}{fd:c1}(F:b6 K "_law_houses" "_law_houses" Ct f fd)(B:hb ae):a4 P w K ae base bu 1 f fd ["_law_cell","_law_many"] Py:=by
 refine F.ok qb (λvs H Q E h=>?_) (λbK A outer s H vs Q E ay h=>?_)
 .obtain⟨c,m,rfl,_⟩:=h;rfl
 .obtain⟨c,m,rfl,hm,q⟩:=h;refine⟨_,(bQ (dG (i:=2) qb.aK rfl (cY rfl) o4)
   (bQ (dG (i:=3) qb.aK rfl (cY rfl) (cZ iB bF (cZ ic (ah 0) bF)))
   (bQ (dG (i:=4) qb.aK rfl (cY rfl) (cZ ic (cZ oT (ah 0) bF) (ah 3)))
   (bQ (dG (i:=5) qb.aK rfl (cY rfl) (l_ a5))
   (bQ (kC jJ rfl (Pr rfl B.range (aA (ah 1) a5)) (d1 (i:=6) qb.aK rfl (cY rfl))
    (bQ (dG (i:=7) qb.aK rfl (cY rfl) o4)
   (bQ (kC jJ rfl (Pr rfl B.range (aA (ah 3) a5)) (d1 (i:=8) qb.aK rfl (cY rfl))
    (bQ (dG (i:=9) qb.aK rfl (cY rfl) (cZ iB (cZ iB (cZ oT (ah 0) bF) (cZ rB (cZ rB bF (ah 8)) (ah 8))) (cZ rB (cZ rB bF (ah 6)) (nG Ű (by rfl) B.int IK (aA (lg rG (ah 8) (ah 4) (eD _)) a5)))))
   (b8 (dG (i:=7) qb.aK rfl (cY rfl) (cZ ģ (ah 7) (cz ae7 (ah 2) (cZ ic (ah 9) bF) (λ_ _=>rfl)))))))
   (b8 (ia (n4 oF oG oH mJ (ah 5) (aA (ah 7) a5)))))))
   (b8 (dE (ah 5)))))))),?_⟩
  have b0:=T9 c;have bH:=adn c;refine⟨_,rfl,_,_,rfl,rfl,(by show(0:Int)<8;decide),_,_,rfl,rfl,?_⟩;refine⟨_,rfl,_,_,rfl,rfl,⟨by decide,by decide⟩,_,rfl,_,_,rfl,rfl,(by show(0:Int)<1+c%8;omega),?_⟩;refine⟨dM _,λp np=>⟨_,rfl,_,rfl,(by omega),(by omega),?_⟩⟩;refine Λ (lo:=0) (n:=m) (λk σ aj=>aj=upd H p (.lst (dC (rx c k)))/\∃a1 a2 gn iZ,σ=[some (.int c),some (.int m),some (.str (j_ "abcdefghijklmnopqrstuvwxyz")),some (.int (1+c%8)),some (.int (c/8%(1+c%8))),some (.ref p),a1,a2,gn,iZ]) ⟨rfl,none,none,none,none,rfl⟩ ?_ ?_
  .rintro k σ aj aE ⟨rfl,a1,a2,gn,iZ,rfl⟩;refine⟨_,rfl,_,rfl,(by omega),(by omega),?_⟩;refine Λ (lo:=0) (n:=hsz c) (λj σ bL=>bL=upd H p (.lst (dC (rx c k)))/\∃eC dT,σ=[some (.int c),some (.int m),some (.str (j_ "abcdefghijklmnopqrstuvwxyz")),some (.int (1+c%8)),some (.int (c/8%(1+c%8))),some (.ref p),some (.int (0+(k:Int))),some (.str (S ((da j).map (iJ c k)))),eC,dT]) ⟨rfl,gn,iZ,rfl⟩ ?_ ?_
   .rintro j σ bL aQ ⟨rfl,eC,dT,rfl⟩;refine⟨_,rfl,_,_,rfl,rfl,⟨by decide,by decide⟩,_,rfl,_,_,rfl,rfl,.inl ⟨by decide,by decide⟩,_,rfl,_,_,rfl,rfl,.inr ⟨by show -(2 ^ 64)<0+(j:Int);omega,by show 0+(j:Int)<2 ^ 64;omega⟩,_,_,rfl,rfl,_,rfl,_,_,rfl,rfl,.inl ⟨by decide,by decide⟩,_,rfl,_,rfl,rfl,.inr ⟨_,rfl,_,_,rfl,rfl,.inl ⟨by show -(2 ^ 64)<2*(0+(k:Int));omega,by show 2*(0+(k:Int))<2 ^ 64;omega⟩,_,_,rfl,rfl,?_⟩⟩;have k1:0<=wB c k j%26:=ky _ (by decide);have k2:wB c k j%26<26:=kU _ (by decide);have gh:(⟨#[97+(wB c k j%26).toNat]⟩:Str).length=1:=rfl;refine⟨_,rfl,_,rfl,_,rfl,_,_,rfl,rfl,(by show(0:Int)<26;decide),_,_,_,rfl,rfl,(by decide+kernel),abd k1 k2,_,_,rfl,rfl,?_,rfl,some (.int (0+(j:Int))),some (.int (wB c k j)),?_⟩
    .rw[DL,bh,j8];show j+1<=sizeLine;exact pT (e1 (by omega))
    .rw[Y3,<-agc,<-agY];rfl
   .rintro σ bL ⟨rfl,eC,dT,rfl⟩;refine⟨_,rfl,.inl ⟨rfl,_,aS.of a8⟩,_,rfl,p,_,_,rfl,rfl,a8,e1 (by rw[x_,Oz];omega),?_,_,_,_,_,rfl⟩;rw[SW];unfold rx;rw[Y3];unfold dC;rw[fo];rfl
  .rintro σ aj ⟨rfl,a1,a2,gn,iZ,rfl⟩;exact⟨_,rfl,q p _ np (cV np) a8⟩
noncomputable abbrev DM:Stmt:=top 41
noncomputable abbrev ag0:List Str:=["_law_cell","_law_names","_law_base","_law_n","_law_many","_law_first","_law_last"]
theorem Dy:d0 ag0 ["_law_cell","_law_names","_law_base"] (dx DM):=⟨rfl,rfl,rfl,by decide+kernel,rfl,by decide+kernel,by decide+kernel⟩
theorem adf{f:Addr}{fd:c1}(F:b6 K "_law_letter" "_law_letter" DM f fd)(B:hb ae):a4 P w K ae base bu 1 f fd ["_law_cell","_law_names","_law_base"] IT:=by
 refine F.ok Dy (λvs H Q E h=>?_) (λbK A outer s H vs Q E ay h=>?_)
 .obtain⟨c,b,a,hs,rfl,_⟩:=h;rfl
 .obtain⟨c,b,a,hs,rfl,aH,af,xu,q⟩:=h;refine⟨_,(bQ (dG (i:=3) Dy.aK rfl (cY rfl) (cZ ic (cZ rB (ah 0) bF) bF))
   (bQ (dG (i:=4) Dy.aK rfl (cY rfl) (eo ke (by rfl) B.len jq (aA (ah 1) a5)))
   (bQ (dG (i:=5) Dy.aK rfl (cY rfl) (cZ ic (ah 3) (ah 4)))
   (bQ (dG (i:=6) Dy.aK rfl (cY rfl) (cZ ic (cZ iB (cZ iB (ah 5) bF) (cZ ic (cZ oT (ah 3) (ah 4)) (cZ Dn (ah 4) bF))) (ah 4)))
   (b8 (dE (jS (aA (cz gS (ah 1) (ah 5) (λ_ _=>rfl)) (aA (cZ iB (ah 2) (cZ ic (cZ oT (ah 3) bF) bF)) (aA (cz gS (ah 1) (ah 6) (λ_ _=>rfl)) a5)))))))))),?_⟩
  have aq:=x_ hs;have eC:0<=mi hs.length c:=ky _ (by omega);have dT:mi hs.length c<hs.length:=kU _ (by omega);have ax:0<=lend hs.length c:=ky _ (by omega);have az:lend hs.length c<hs.length:=kU _ (by omega);refine⟨_,rfl,_,_,rfl,rfl,.inr ⟨by decide,by decide⟩,_,_,rfl,rfl,(by show(0:Int)<10000000000037;decide),?_⟩;refine⟨_,rfl,a,_,rfl,.inl (aS.of aH),?_⟩;rw[aq];refine⟨_,rfl,_,rfl,_,_,rfl,rfl,(by show(0:Int)<(hs.length:Int);omega),?_⟩;refine⟨_,rfl,_,_,rfl,rfl,_,rfl,_,rfl,_,_,rfl,rfl,⟨by show(0:Int)<(hs.length:Int);omega,by show(hs.length:Int)<1073741824;omega⟩,_,rfl,_,_,rfl,rfl,_,_,rfl,rfl,(by show(0:Int)<(hs.length:Int)-1;omega),_,_,rfl,rfl,_,rfl,_,_,rfl,rfl,(by show(0:Int)<(hs.length:Int);omega),?_⟩;refine⟨_,rfl,_,rfl,a,_,_,_,rfl,rfl,aS.of aH,Ia (k:=mi hs.length c) eC dT,_,rfl,_,rfl,_,_,rfl,rfl,⟨by decide,by decide⟩,_,_,rfl,rfl,(by show(0:Int)<31;decide),_,_,rfl,rfl,_,rfl,_,rfl,a,_,_,_,rfl,rfl,aS.of aH,Ia (k:=lend hs.length c) ax az,(by show 3<=sizeLine;decide),q⟩
noncomputable abbrev ut:Stmt:=top 8
noncomputable abbrev CM:Stmt:=top 9
noncomputable abbrev Dz:Stmt:=top 10
noncomputable abbrev vg:Stmt:=top 11
noncomputable abbrev DN:Stmt:=top 26
noncomputable abbrev DO:Stmt:=top 27
noncomputable abbrev DP:Stmt:=top 28
noncomputable abbrev DQ:Stmt:=top 29
theorem adg:d0 ["thing"] ["thing"] (dx ut):=⟨rfl,rfl,rfl,by decide+kernel,rfl,by decide+kernel,by decide+kernel⟩
theorem aba{f:Addr}{fd:c1}(F:b6 K "is_whole" "is_whole" ut f fd)(B:hb ae)(KT:T5 K):a4 P w K ae base bu 1 f fd ["thing"] Q8:=by
 refine F.ok adg (λvs H Q E h=>?_) (λbK A outer s H vs Q E ay h=>?_)
 .obtain⟨i,rfl,_⟩:=h;rfl
 .obtain⟨i,rfl,q⟩:=h;refine⟨_,(b8 (dE (lq (eo oP (by rfl) B.isinstance nD (aA (ah 0) (aA (n2 (by rfl) B.int IK) a5))) (nZ (TU (eo oP (by rfl) B.isinstance nD (aA (ah 0) (aA (n2 (by rfl) B.bool SS) a5)))))))),?_⟩;refine⟨_,rfl,_,_,_,_,_,rfl,⟨rfl,.int _,Dk _ _⟩,_,rfl,kH ?_⟩;exact⟨_,rfl,_,_,_,_,_,rfl,⟨rfl,.int _,KT.a3⟩,_,rfl,q⟩
theorem abb:d0 ["thing","least","greatest"] ["thing","least","greatest"] (dx CM):=⟨rfl,rfl,rfl,by decide+kernel,rfl,by decide+kernel,by decide+kernel⟩
theorem ż{f WT:Addr}{fd W0:c1}(F:b6 K "is_whole_within" "is_whole_within" CM f fd)(B5:dS K ae "is_whole" ut ["thing"] WT W0)(O':a4 P w K ae base bu 1 WT W0 ["thing"] Q8):a4 P w K ae base bu 2 f fd ["thing","least","greatest"] QF:=by
 refine F.ok abb (λvs H Q E h=>?_) (λbK A outer s H vs Q E ay h=>?_)
 .obtain⟨i,a,b,rfl,_⟩:=h;rfl
 .obtain⟨i,a,b,rfl,ag,af,q⟩:=h;refine⟨_,(b8 (dE (lq (f5 O' (ay.mono (by decide)) (by rfl) B5.at_ B5.fn.cT B5.bd .nil dQ (aA (ah 0) a5)) (nZ (ñ rH rH (ah 1) (ah 0) (ah 2)))))),?_⟩;refine⟨_,rfl,_,rfl,_,rfl,kH ?_⟩;exact⟨_,rfl,_,rfl,_,_,rfl,rfl,_,rfl,fi (dU ag) ⟨_,rfl,_,_,rfl,rfl,tr (dU af) q⟩⟩
theorem adh:d0 ["thing","length"] ["thing","length"] (dx Dz):=⟨rfl,rfl,rfl,by decide+kernel,rfl,by decide+kernel,by decide+kernel⟩
theorem aaY{f:Addr}{fd:c1}(F:b6 K "is_tuple_of" "is_tuple_of" Dz f fd)(B:hb ae):a4 P w K ae base bu 1 f fd ["thing","length"] Q9:=by
 refine F.ok adh (λvs H Q E h=>?_) (λbK A outer s H vs Q E ay h=>?_)
 .obtain⟨r,xs,n,rfl,_⟩:=h;rfl
 .obtain⟨r,xs,n,rfl,ag,af,q⟩:=h;refine⟨_,(b8 (dE (lq (eo oP (by rfl) B.isinstance nD (aA (ah 0) (aA (n2 (by rfl) B.tuple G') a5))) (nZ (lg rG (eo ke (by rfl) B.len jq (aA (ah 0) a5)) (ah 1) (eD _)))))),?_⟩;refine⟨_,rfl,_,_,_,_,_,rfl,⟨rfl,.tup ag,Dk _ _⟩,_,rfl,kH ?_⟩;exact⟨_,rfl,r,_,rfl,.inr (b2.of ag),_,rfl,rfl,tr (dU (e9 V.int af)) q⟩
theorem ê:d0 ["houses","one","other"] ["houses","one","other"] (dx vg):=⟨rfl,rfl,rfl,by decide+kernel,rfl,by decide+kernel,by decide+kernel⟩
theorem Ž{f:Addr}{fd:c1}(F:b6 K "are_unlike_houses" "are_unlike_houses" vg f fd):a4 P w K ae base bu 1 f fd ["houses","one","other"] (QG K):=by
 refine F.ok ê (λvs H Q E h=>?_) (λbK A outer s H vs Q E ay h=>?_)
 .obtain⟨a,ys,x,y,rfl,_⟩:=h;rfl
 .obtain⟨a,ys,x,y,rfl,cP,ao,aZ,ne,q⟩:=h;refine⟨_,(b8 (dE (lq (lg Pt (ah 1) (ah 0) (by rfl)) (lq (lg Pt (ah 2) (ah 0) (by rfl)) (nZ (lg tq (ah 1) (ah 2) (eD _))))))),?_⟩;refine⟨_,rfl,_,rfl,a,_,rfl,.inl cP,rfl,GO ys,_,rfl,fi (Hx ao) ?_⟩;refine⟨_,rfl,_,rfl,a,_,rfl,.inl cP,rfl,GO ys,_,rfl,fi (Hx aZ) ?_⟩;refine⟨_,rfl,_,rfl,rfl,tr ?_ q⟩;rw[eM (λz=>ne (V.str.inj z))];rfl
theorem afz:d0 ["thing"] ["thing"] (dx DN):=⟨rfl,rfl,rfl,by decide+kernel,rfl,by decide+kernel,by decide+kernel⟩
theorem PP{f:Addr}{fd:c1}(F:b6 K "is_name" "is_name" DN f fd)(B:hb ae)(mq:zU ae):a4 P w K ae base bu 1 f fd ["thing"] IL:=by
 refine F.ok afz (λvs H Q E h=>?_) (λbK A outer s H vs Q E ay h=>?_)
 .obtain⟨l,rfl,_⟩:=h;rfl
 .obtain⟨l,rfl,fJ,q⟩:=h;refine⟨_,(bQ (gd (jh.pt (mX (jR (ki (eo oP (by rfl) B.isinstance nD (aA (ah 0) (aA (n2 (by rfl) B.str aeV) a5))))) (rD (jR (Cn rH rH bF (eo apZ (by rfl) B.len jq (aA (ah 0) a5)) (Cr (by rfl) mq.acf)))))) (b8 (dE kE)) gb)
   (b8 (dE (eo (G7 rfl) (by rfl) B.E3 Ii (aA (pb (N':=["sign"]) (cs:=[none]) rfl (afe (ah 0)) rfl (by decide+kernel) rfl (by decide+kernel) (i2 (λp aP=>bE aP (eZ))) rfl
    (.own .nil)
    (λC s3 bL cw d_=>⟨(d1 (i:=0) (by show(["sign"]:bR).Nodup;decide+kernel) rfl (.inl rfl)),mK,(ñ v4 v4 o4 (ah 0) o4)⟩)) a5))))),?_⟩
  have aq:=DL l;have hz:(S l).length<=sizeLine:=pT (e1 (by rw[aq];have:=fJ.2.1;omega));have ag:(1:Int)<=((S l).length:Int):=by have:=fJ.1;omega
  have Mn:((S l).length:Int)<=8:=by have:=fJ.2.1;omega
  refine⟨_,rfl,_,_,_,_,_,rfl,⟨rfl,.str _,Dk _ _⟩,_,rfl,lD ?_⟩;refine⟨_,rfl,_,rfl,hz,_,_,rfl,rfl,_,rfl,fi (dU ag) ⟨_,_,rfl,rfl,_,rfl,Jk Mn ?_⟩⟩;dsimp only[DT,zQ,D5,tJ,vQ];refine Hw (J:=Em (S l)) (H1:=H) (xs:=signs (S l)) (rest:=[]) (λR h=>⟨_,rfl,_,rfl,h⟩) rfl (afd _) (e1 ?_) (λ_=>.bf true) (λi x aj R ex aI cF=>?_) (λD H' ag af aV=>?_)
  .rw[SV,bh];have:=fJ.2.1;omega
  .rw[SV]at ex;obtain⟨k,aE,rfl⟩:=cf.mp (eQ ex);have Gd:=fJ.2.2 k aE;have ax:(!decide ((S [k]).cps.toList<(j_ "a").cps.toList))=true:=by rw[aow];exact(TM k 97).trans (dU Gd.1)
   have az:(!decide ((j_ "z").cps.toList<(S [k]).cps.toList))=true:=by rw[aoy];exact(TM 122 k).trans (dU Gd.2)
   exact⟨_,rfl,_,_,rfl,rfl,_,rfl,fi ax ⟨_,_,rfl,rfl,tr az (cF aj (aT.refl _))⟩⟩
  .exact⟨D,wN (signs (S l)).length true,rfl,aS.of (by rw[af,QD]),tr (QE _) (q H' aV)⟩
theorem afA:d0 ["things"] ["things"] (dx DO):=⟨rfl,rfl,rfl,by decide+kernel,rfl,by decide+kernel,by decide+kernel⟩
theorem adi{f A0:Addr}{fd Bk:c1}(F:b6 K "are_houses" "are_houses" DO f fd)(B:hb ae)(mq:zU ae)(B3:dS K ae "is_name" DN ["thing"] A0 Bk)(Pz:a4 P w K ae base bu 1 A0 Bk ["thing"] IL):
  a4 P w K ae base bu 2 f fd ["things"] IM:=by
 refine F.ok afA (λvs H Q E h=>?_) (λbK A outer s H vs Q E ay h=>?_)
 .obtain⟨a,hs,rfl,_⟩:=h;rfl
 .obtain⟨a,hs,rfl,aH,nQ,q⟩:=h;refine⟨_,(bQ (gd (jh.pt (mX (jR (ki (eo oP (by rfl) B.isinstance nD (aA (ah 0) (aA (n2 (by rfl) B.list nM) a5))))) (rD (fP vP (eo ke (by rfl) B.len jq (aA (ah 0) a5)) (Cr (by rfl) mq.acb) (eD _))))) (b8 (dE kE)) gb)
   (b8 (dE (lq (eo (G7 rfl) (by rfl) B.E3 Ii (aA (pb (N':=["thing"]) (cs:=[none]) rfl (i1 (ah 0)) rfl (by decide+kernel) rfl (by decide+kernel) (i2 (λp aP=>bE aP (eZ))) rfl
    (.own .nil)
    (λC s3 bL cw d_=>⟨(d1 (i:=0) (by show(["thing"]:bR).Nodup;decide+kernel) rfl (.inl rfl)),mK,(f5 Pz (ay.mono (by decide)) (by rfl) B3.at_ B3.fn.cT B3.bd .nil dQ (aA (ah 0) a5))⟩)) a5)) (nZ (lg rG (eo apv (by rfl) B.len jq (aA (nG (aar rfl) (by rfl) B.Z2 T3 (aA (ah 0) a5)) a5)) (eo ke (by rfl) B.len jq (aA (ah 0) a5)) (eD _))))))),?_⟩
  have aq:=x_ hs;have hf:=nQ.c7;refine⟨_,rfl,_,_,_,_,_,rfl,⟨rfl,.lst aH,Dk _ _⟩,_,rfl,lD ?_⟩;refine⟨_,rfl,a,_,rfl,.inl (aS.of aH),_,_,rfl,rfl,_,rfl,eF (eM (by omega)) ?_⟩;dsimp only[DT,zQ,D5,tJ,vQ];refine Hw (J:=jG K a) (H1:=H) (xs:=dC hs) (rest:=[]) (λR h=>⟨_,rfl,a,rfl,⟨_,aS.of aH⟩,h⟩) rfl (oU (aS.of aH)) (e1 (by omega)) (λ_=>.bf true) (λi x aj R ex aI cF=>?_) (λD H' ag af aV=>?_)
  .obtain⟨l,u2,rfl⟩:=cf.mp (eQ ex);exact⟨_,rfl,l,rfl,nQ.nm l u2,λH' oi=>cF H' oi⟩
  .refine⟨D,wN (dC hs).length true,rfl,aS.of (by rw[af,QD]),_,rfl,fi (QE _) ?_⟩;have sU:=aV _ _ aH;refine⟨_,rfl,a,hs.map S,rfl,aS.of (by rw[sU,Q7]),(by rw[bh];omega),λp aP=>?_⟩;have s2:aT H' (upd H' p (EE P w p (m6 (λi=>(hs.map S).getD i kZ) (hs.map S).length))):=cV aP;refine⟨p,_,rfl,a8,_,rfl,a,_,rfl,.inl (aS.of (s2 _ _ sU)),rfl,tr (dU ?_) (q _ (aV.trans s2))⟩;rw[õ _ _ (acM nQ.aK),bh,aq]
theorem afB:d0 ["houses","thing"] ["houses","thing"] (dx DP):=⟨rfl,rfl,rfl,by decide+kernel,rfl,by decide+kernel,by decide+kernel⟩
theorem adj{f f1 f2 dB:Addr}{fd eU gI oR:c1}(F:b6 K "is_road" "is_road" DP f fd)(mq:zU ae)(A5:dS K ae "is_tuple_of" Dz ["thing","length"] f1 eU)(N5:a4 P w K ae base bu 1 f1 eU ["thing","length"] Q9)(p3:dS K ae "are_unlike_houses" vg ["houses","one","other"] f2 gI)(AL:a4 P w K ae base bu 1 f2 gI ["houses","one","other"] (QG K))(sA:dS K ae "is_whole_within" CM ["thing","least","greatest"] dB oR)(E8:a4 P w K ae base bu 2 dB oR ["thing","least","greatest"] QF):
  a4 P w K ae base bu 3 f fd ["houses","thing"] (IP K):=by
 refine F.ok afB (λvs H Q E h=>?_) (λbK A outer s H vs Q E ay h=>?_)
 .obtain⟨a,r,hs,d,rfl,_⟩:=h;rfl
 .obtain⟨a,r,hs,d,rfl,cP,aK,ok,i7,q⟩:=h;refine⟨_,(b8 (dE (lq (f5 N5 (ay.mono (by decide)) (by rfl) A5.at_ A5.fn.cT A5.bd .nil dQ (aA (ah 1) (aA bF a5))) (lq (f5 AL (ay.mono (by decide)) (by rfl) p3.at_ p3.fn.cT p3.bd .nil dQ (aA (ah 0) (aA (cz d5 (ah 1) bF (λ_ _=>rfl)) (aA (cz d5 (ah 1) bF (λ_ _=>rfl)) a5)))) (lq (f5 E8 (ay.mono (by decide)) (by rfl) sA.at_ sA.fn.cT sA.bd .nil dQ (aA (cz d5 (ah 1) bF (λ_ _=>rfl)) (aA bF (aA (Cr (by rfl) mq.acg) a5)))) (nZ (f5 E8 (ay.mono (by decide)) (by rfl) sA.at_ sA.fn.cT sA.bd .nil dQ (aA (cz d5 (ah 1) bF (λ_ _=>rfl)) (aA bF (aA (Cr (by rfl) mq.ace) a5)))))))))),?_⟩;have rl:aS K H a ((hs.map S).map V.str):=by rw[<-Q7];exact cP
  refine⟨_,rfl,r,_,_,rfl,i7,rfl,_,rfl,kH ?_⟩;refine⟨_,rfl,_,rfl,r,_,_,_,rfl,rfl,b2.of i7,rfl,_,rfl,r,_,_,_,rfl,rfl,b2.of i7,rfl,a,hs.map S,_,_,rfl,rl,o5 ok.a,o5 ok.b,agd aK ok.a ok.b ok.ne,_,rfl,kH ?_⟩;refine⟨_,rfl,r,_,_,_,rfl,rfl,b2.of i7,rfl,_,_,_,rfl,ok.t.1,ok.t.2,_,rfl,kH ?_⟩;exact⟨_,rfl,r,_,_,_,rfl,rfl,b2.of i7,rfl,_,_,_,rfl,ok.m.1,ok.m.2,q⟩
theorem afC:d0 ["houses","things"] ["houses","things"] (dx DQ):=⟨rfl,rfl,rfl,by decide+kernel,rfl,by decide+kernel,by decide+kernel⟩
theorem ada{f A0:Addr}{fd Bk:c1}(F:b6 K "are_roads" "are_roads" DQ f fd)(B:hb ae)(mq:zU ae)(B4:dS K ae "is_road" DP ["houses","thing"] A0 Bk)(PA:a4 P w K ae base bu 3 A0 Bk ["houses","thing"] (IP K)):
  a4 P w K ae base bu 4 f fd ["houses","things"] (IQ K):=by
 refine F.ok afC (λvs H Q E h=>?_) (λbK A outer s H vs Q E ay h=>?_)
 .obtain⟨a,b,hs,rs,ds,rfl,_⟩:=h;rfl
 .obtain⟨a,b,hs,rs,ds,rfl,aH,aK,U,cF,c7,q⟩:=h;refine⟨_,(bQ (gd (jh.pt (mX (jR (ki (eo oP (by rfl) B.isinstance nD (aA (ah 1) (aA (n2 (by rfl) B.list nM) a5))))) (rD (fP vP (eo ke (by rfl) B.len jq (aA (ah 1) a5)) (Cr (by rfl) mq.acd) (eD _))))) (b8 (dE kE)) gb)
   (b8 (dE (eo (G7 rfl) (by rfl) B.E3 Ii (aA (pb (N':=["thing","houses"]) (cs:=[none,some 0]) rfl (i1 (ah 1)) rfl (by decide+kernel) rfl (by decide+kernel) (i2 (kV.mpr ⟨rfl,(λp aP=>bE aP (eZ))⟩)) rfl
    (.own (.jO rfl (.inl rfl) (.inl rfl) rfl .nil))
    (λC s3 bL cw d_=>⟨(d1 (i:=0) (by show(["thing","houses"]:bR).Nodup;decide+kernel) rfl (.inl rfl)),mK,(f5 PA (ay.mono (by decide)) (by rfl) B4.at_ B4.fn.cT B4.bd .nil dQ (aA (ah 1) (aA (ah 0) a5)))⟩)) a5))))),?_⟩
  have aq:=fO rs;refine⟨_,rfl,_,_,_,_,_,rfl,⟨rfl,.lst U,Dk _ _⟩,_,rfl,lD ?_⟩;refine⟨_,rfl,b,_,rfl,.inl (aS.of U),_,_,rfl,rfl,_,rfl,eF (eM (by omega)) ?_⟩;dsimp only[DT,zQ,D5,tJ,vQ];refine Hw (J:=jG K b) (H1:=H) (xs:=aW rs) (rest:=[some (.ref a)]) (λR h=>⟨_,rfl,b,rfl,⟨_,aS.of U⟩,h⟩) rfl (oU (aS.of U)) (e1 (by omega)) (λ_=>.bf true) (λi x aj R ex aI lx=>?_) (λD H' ag af aV=>?_)
  .unfold aW at ex;rw[cM]at ex;obtain⟨r,d6,rfl⟩:=ft.mp ex;obtain⟨d,_,ok,hd⟩:=cF.get d6;exact⟨_,rfl,_,rfl,a,r,hs,d,rfl,aI.seq aH,aK,ok,aI _ _ hd,lx aj (aT.refl _)⟩
  .exact⟨D,wN (aW rs).length true,rfl,aS.of (by rw[af,QD]),tr (QE _) (q H' aV)⟩
noncomputable abbrev DR:Stmt:=i8 (top 32) 0
noncomputable abbrev xT:Stmt:=i8 (top 32) 1
noncomputable abbrev CN:Stmt:=i8 (top 32) 2
theorem afD:d0 ["self","houses","roads"] ["self","houses","roads"] (dx DR):=⟨rfl,rfl,rfl,by decide+kernel,rfl,by decide+kernel,by decide+kernel⟩
theorem aej{C f WR WS:Addr}{fd WX WZ:c1}(F:b6 K "__init__" "Net.__init__" DR f fd)(B:hb ae)(fN:tR K C)(Bq:dS K ae "are_houses" DO ["things"] WR WX)(Oj:a4 P w K ae base bu 2 WR WX ["things"] IM)(BV:dS K ae "are_roads" DQ ["houses","things"] WS WZ)(OA:a4 P w K ae base bu 4 WS WZ ["houses","things"] (IQ K)):
  a4 P w K ae base bu 5 f fd ["self","houses","roads"] (IS K C):=by
 refine F.ok afD (λvs H Q E h=>?_) (λbK A outer s H vs Q E ay h=>?_)
 .obtain⟨x,av,a,b,hs,rs,ds,rfl,_⟩:=h;rfl
 .obtain⟨x,av,a,b,hs,rs,ds,rfl,ao,aH,nQ,U,cF,c7,q⟩:=h;refine⟨_,(bQ (gd (jR (ki (f5 Oj (ay.mono (by decide)) (by rfl) Bq.at_ Bq.fn.cT Bq.bd .nil dQ (aA (ah 1) a5)))) (b8 Qn) gb)
   (bQ (gd (jR (ki (f5 OA (ay.mono (by decide)) (by rfl) BV.at_ BV.fn.cT BV.bd .nil dQ (aA (ah 1) (aA (ah 2) a5))))) (b8 Qn) gb)
   (bQ (vA (ah 0) (nG sG (by rfl) B.list nM (aA (ah 1) a5)) rfl)
   (b8 (vA (ah 0) (nG sG (by rfl) B.list nM (aA (ah 2) a5)) rfl))))),?_⟩
  refine⟨_,rfl,a,hs,rfl,aH,nQ,λH1 s1=>⟨_,rfl,lD ?_⟩⟩;refine⟨_,rfl,_,rfl,a,b,hs,rs,ds,rfl,aS.of (s1 _ _ aH),nQ.aK,s1 _ _ U,cF.same s1,c7,λaj s2=>⟨_,rfl,lD ?_⟩⟩;have gC:=s1.trans s2;refine⟨_,rfl,a,_,rfl,.inl (aS.of (gC _ _ aH)),λbz sU=>?_⟩;have s3:aT aj (upd aj bz (.lst (dC hs))):=cV sU;have vJ:=gC.trans s3;have cy:x≠bz:=dn (gC _ _ ao) sU;refine⟨_,rfl,x,C,av,_,rfl,vJ _ _ ao,fN.cl,fN.OU,(by decide),?_⟩;have alG:b≠x:=λe=>by rw[e,ao]at U;cases U
  have alC:upd (upd aj bz (.lst (dC hs))) x (.ins C av (jA "kept_houses" (.ref bz) [])) b=some (.lst (aW rs)):=by rw[aL alG];exact vJ _ _ U
  refine⟨_,rfl,b,_,rfl,.inl (aS.of alC),λa7 c2=>?_⟩;have vv:a7≠x:=λe=>by rw[e,a8]at c2;cases c2
  have nb:a7≠bz:=λe=>by rw[e,aL cy.symm,a8]at c2;cases c2
  refine⟨_,rfl,x,C,av,_,rfl,(by rw[aL vv.symm,a8]),fN.cl,fN.gi,(by show 1<1000;decide),?_⟩;refine q _ bz a7 (λc o aC i5=>?_) (by rw[a8];rfl) ?_ ?_ ?_ ?_
  .rw[aL aC];have:c≠a7:=λe=>by rw[<-e,aL aC,vJ _ _ i5]at c2;cases c2
   rw[aL this,aL aC];exact vJ _ _ i5
  .rw[aL cy.symm,aL nb.symm,aL cy.symm,a8]
  .rw[aL vv,a8]
  .exact gC.free sU
  .rw[aL vv,aL nb]at c2;exact gC.free c2
theorem ž:d0 ["self"] ["self"] (dx xT):=⟨rfl,rfl,rfl,by decide+kernel,rfl,by decide+kernel,by decide+kernel⟩
theorem aaZ:d0 ["self"] ["self"] (dx CN):=⟨rfl,rfl,rfl,by decide+kernel,rfl,by decide+kernel,by decide+kernel⟩
theorem ĸ{C f:Addr}{fd:c1}(F:b6 K "houses" "Net.houses" xT f fd)(B:hb ae)(fN:tR K C):a4 P w K ae base bu 1 f fd ["self"] (GP C):=by
 refine F.ok ž (λvs H Q E h=>?_) (λbK A outer s H vs Q E ay h=>?_)
 .obtain⟨x,bz,a7,xs,ys,rfl,_⟩:=h;rfl
 .obtain⟨x,bz,a7,xs,ys,rfl,n,q⟩:=h;obtain⟨av,ao⟩:=n.ins;refine⟨_,(b8 (dE (nG sG (by rfl) B.list nM (aA (hA (ah 0) (by rfl)) a5)))),?_⟩;exact⟨_,rfl,x,C,av,_,_,rfl,ao,fN.cl,fN.OU,rfl,bz,_,rfl,.inl (aS.of n.Nd),q⟩
theorem aaa{C f:Addr}{fd:c1}(F:b6 K "roads" "Net.roads" CN f fd)(B:hb ae)(fN:tR K C):a4 P w K ae base bu 1 f fd ["self"] (QH C):=by
 refine F.ok aaZ (λvs H Q E h=>?_) (λbK A outer s H vs Q E ay h=>?_)
 .obtain⟨x,bz,a7,xs,ys,rfl,_⟩:=h;rfl
 .obtain⟨x,bz,a7,xs,ys,rfl,n,q⟩:=h;obtain⟨av,ao⟩:=n.ins;refine⟨_,(b8 (dE (nG sG (by rfl) B.list nM (aA (hA (ah 0) (by rfl)) a5)))),?_⟩;exact⟨_,rfl,x,C,av,_,_,rfl,ao,fN.cl,fN.gi,rfl,a7,_,rfl,.inl (aS.of n.tE),q⟩
theorem aek{wi:TI}{cs:jj}{b3:TE}{σ rest:ar.St}{H H1:aa}{Q:bl}{J:e7}{xs:a'}(hw:∀R:e7->aa->Prop,R J H1->wi σ H R)(gp:gW cs σ=none::rest)(jF:l3 J H1 xs)(aq:xs.length<sizeLine)(f:ar.V->List ar.V)(elt:∀(i:Nat)(x:ar.V)(aj:aa)(R:bl),xs[i]?=some x->aT H1 aj->(∀r bY,aT aj bY->bY r=some (.tup (f x))->R (.ref r) bY)->b3 (some x::rest) aj R)(fin:∀(D:Addr)(H':aa)(rs:b4),H1 D=none->H' D=some (.lst (aW rs))->eh H' rs (xs.map f)->aT H1 H'->Q (.ref D) H'):kM wi cs (g5 0) px b3 σ H Q:=by
 refine hw _ λD ck=>?_;refine⟨λi m ys a_ H'=>m=xs.length-i/\i<=xs.length/\(∃rs,ys=aW rs/\eh H' rs ((xs.take i).map f))/\(∃o,a_=o::rest)/\aT H1 H'/\H' D=some (.lst ys),⟨xs.length,by simp,dM _,⟨[],rfl,.nil⟩,⟨none,gp⟩,λb o e=>?_,a8⟩,?_⟩
 .rw[aL (dn e ck)];exact e
 .rintro i m ys a_ H' ⟨rfl,ai,⟨rs,rfl,cc⟩,⟨o,rfl⟩,aI,eG⟩;obtain⟨gO,hV,iu⟩:=jF H' aI;have ln:=cc.len;rw[bh,f_,US ai]at ln;refine⟨eG,mx (by rw[fO];omega) aq,?_⟩;by_cases bZ:i<xs.length
  .refine .inr ⟨hV i bZ,λx aj y=>?_⟩;obtain⟨rfl,ex⟩:=iu i x aj bZ y;have aG:xs.take (i+1)=xs.take i++[x]:=by rw[mw,ex];rfl
   show b3 (some x::rest) aj _;refine elt i x aj _ ex aI λr bY s5 ay=>⟨s5 _ _ eG,xs.length-(i+1),by omega,rfl,bZ,⟨rs++[r],u_ rs r,?_⟩,⟨_,rfl⟩,λb ob e=>?_,a8⟩
   .rw[aG,fo];exact eh.upd (Paired.snoc (F:=λr d=>bY r=some (.tup d)) ay (cc.same s5)) (s5 _ _ eG) (by intro d z;cases z)
   .rw[aL (dn e ck)];exact s5 _ _ (aI _ _ e)
  .have e:i=xs.length:=by omega
   subst e;rw[lY]at cc;exact .inl ⟨gO,fin D H' rs ck eG cc aI⟩
end
theorem ë{K:aY}{wi:TI}{cs:jj}{b3:TE}{σ rest:ar.St}{H Hs:aa}{Q:bl}{xs:a'}(hw:∀R:e7->aa->Prop,(∀p,Hs p=none->R (jG K p) (upd Hs p (.lst xs)))->wi σ H R)(gp:gW cs σ=none::rest)(aq:xs.length<sizeLine)(f:ar.V->List ar.V)(elt:∀(i:Nat)(x:ar.V)(aj:aa)(R:bl),xs[i]?=some x->aT Hs aj->(∀r bY,aT aj bY->bY r=some (.tup (f x))->R (.ref r) bY)->b3 (some x::rest) aj R)(fin:∀(D:Addr)(H':aa)(rs:b4),H' D=some (.lst (aW rs))->eh H' rs (xs.map f)->aT Hs H'->Q (.ref D) H'):kM wi cs (g5 0) px b3 σ H Q:=
 hw _ λp aP=>aek (wi:=λ_ _ R=>R (jG K p) (upd Hs p (.lst xs))) (H:=Hs) (λR h=>h) gp (oU (aS.of a8)) aq f (λi x aj R ex aI k=>elt i x aj R ex ((cV aP).trans aI) k) λD H' rs _ af aV bU=>fin D H' rs af aV ((cV aP).trans bU)
theorem Tj(x y:Str):g4 (.str x) (.str y)=decide (x=y):=by
 by_cases h:x=y
 .subst h;rw[dU rfl];simp[g4]
 .rw[eM h];simp[g4,h]
theorem Q_{hs:bD}{k:Nat}(h:k<hs.length):inD (.str (S (hs.getD k []))) (ck hs)=true:=by
 unfold inD ck;rw[pN];have hm:hs.getD k []∈hs:=by rw[dr,ct h];exact eY h
 exact⟨_,cf.mpr ⟨_,cf.mpr ⟨_,hm,rfl⟩,rfl⟩,by rw[Tj];exact dU rfl⟩
theorem D9{ds:iY}{n:Nat}(h:∀d∈ds,d.depth<=n):(U_ ds).depth<=n+1:=UW (Pw h)
end fR
namespace cK
open PySem PySem.Spec PyProof.Rows ar
noncomputable def lN{α:Type}(xs:List α)(lo ai:Option Int)(st:Int):List α:=
 (sliceRange (mm lo ai (some st) xs.length).1 (mm lo ai (some st) xs.length).2.1 (mm lo ai (some st) xs.length).2.2).filterMap (xs[·]?)
theorem PB{xs:a'}{us:b_}(h:cp xs us):∀is:List Nat,cp (is.filterMap (xs[·]?)) (is.filterMap (us[·]?))
 |[]=>.nil
 |i::r=>by
  cases e:xs[i]? with
  |none=>
   rw[abB e,abB (h.none_of e)];exact PB h r
  |some x=>
   obtain⟨u,az,eA⟩:=h.get e;rw[abC e,abC az];exact .cons eA (PB h r)
theorem Á{α β:Type}(f:α->β)(xs:List α)(lo ai:Option Int)(st:Int):lN (xs.map f) lo ai st=(lN xs lo ai st).map f:=by unfold lN;rw[bh,List.map_filterMap];congr 1;funext i;exact cM
theorem Â{α:Type}(xs:List α)(lo ai:Nat):(lN xs (some (lo:Int)) (some (ai:Int)) 2).length<=(ai-lo+1)/2:=by
 unfold lN;refine hc (List.length_filterMap_le _ _) ?_;unfold sliceRange;rw[bh,j8];have ax:(mm (some (lo:Int)) (some (ai:Int)) (some 2) xs.length).1=max 0 (min (lo:Int) xs.length):=by
  have h0:¬((lo:Int)<0):=by omega
  simp[mm,h0]
 have az:(mm (some (lo:Int)) (some (ai:Int)) (some 2) xs.length).2.1=max 0 (min (ai:Int) xs.length):=by
  have h0:¬((ai:Int)<0):=by omega
  simp[mm,h0]
 have cq:(mm (some (lo:Int)) (some (ai:Int)) (some 2) xs.length).2.2=2:=rfl;rw[ax,az,cq];rw[aO (by decide)];split<;>omega
theorem afE{K:aY}{a:Addr}{xs:a'}{H1:aa}(h:b2 K H1 a xs)(k:∀H',aT H1 H'->b2 K H' a xs):l3 (se K a) H1 xs:=λH' aI=>
 ⟨⟨xs,k H' aI,b1 _⟩,λi ai=>⟨xs,xs[i],k H' aI,by simp[ai]⟩,λi x aj _ y=>⟨y.1,y.2 xs (k H' aI)⟩⟩
section
variable{X:bB}{e:Expr}{b3:TE}{pos ey:Pos}{lo ai:Option Expr}{c3 qK:sv}
noncomputable def aim(K:aY)(b3:TE)(c3 qK:sv)(aG:TE):TE:=λσ H Q=>b3 σ H λx H1=>c3 σ H1 λl aj=>qK σ aj λu bL=>aG σ bL λk eP=>∃a xs i,x=.ref a/\k=.int i/\i≠0/\aS K eP a xs/\
 ∀p,eP p=none->Q (.ref p) (upd eP p (.lst (lN xs l u i)))
theorem Ã{st:Expr}{aG:TE}(he:bN X e b3)(aq:wU X lo c3)(cJ:wU X ai qK)(aE:bN X st aG):bN X (.Subscript e (.Slice lo ai (some st) ey) pos) (aim X.K b3 c3 qK aG):=by
 intro pins s σ H Q I h;refine J7 (bS (he pins s σ H _ I h) λv s1⟨x,H1,aX,b',bq⟩=>?_);refine wpAny_Slice (bS (aq pins s1 σ H1 _ aX bq) λkN s2⟨l,aj,bT,an6,cj⟩=>bS (cJ pins s2 σ aj _ bT cj) λoq s3⟨u,bL,c_,pu,fk⟩=>?_);rw[evalPart_some];refine bS (aE pins s3 σ bL _ c_ fk) λcA s4⟨k,eP,j7,vH,jC⟩=>?_;obtain⟨a,xs,i,rfl,rfl,alZ,ao,q⟩:=jC;cases b';obtain⟨t,rfl⟩:=vH;have je:Inv X pins σ eP {s4 with heap:=s4.heap.push {cls:=.type "slice",data:=.fields #[kN,oq,.int i t]}}:=j7.kept (t':=s4.toks) λb ob q=>c6 _ q;obtain⟨its,r,pl,hz⟩:=je.list ao;have hlen:=r.length;have bx:aM (ba X.prog X.w) X.A (xq (.ref a) (.ref s4.heap.objs.size)) (hG X pins σ Q) X.dD {s4 with heap:=s4.heap.push {cls:=.type "slice",data:=.fields #[kN,oq,.int i t]}}:=by
  refine apE pl.isList (ş ..) an6 pu (.int i t) (by intro z;exact alZ (gZ z)) ?_ (by rw[ek]<;>omega);have ep:Qc its.toArray l u (some i)=(lN its l u i).toArray:=by unfold Qc lN;rw[ek];simp only[abG]
  have rs:cp (lN xs l u i) (lN its l u i):=by unfold lN;rw[hlen];exact PB r _
  have amO:(lN xs l u i).length<=sizeLine:=by have:=slicePick_size_le its.toArray l u (some i);rw[ep,ek,ek]at this;rw[rs.length];omega
  rw[ep];refine⟨.ref _,_,je.laid (t':=s4.toks) (o:=.lst (lN xs l u i)) (λb ob q=>c6 _ q) (b1 _) ?_,rfl,q _ (je.bo.fresh (b1 _))⟩;exact⟨amO,_,0,rs,ff _ rfl⟩
 show aM (ba X.prog X.w) X.A (Qi e (.Slice lo ai (some st) ey) (.ref a) (.ref s4.heap.objs.size)) (hG X pins σ Q) X.dD {s4 with heap:=s4.heap.push {cls:=.type "slice",data:=.fields #[kN,oq,.int i t]}};exact tail_any (ops:=[.ref a,.ref s4.heap.objs.size]) pl.isList.typeIs Z5.lookup bx (by with_unfolding_all rfl)
theorem VC:jn "min"=some (.builtin "min"):=by decide+kernel
theorem ag1:jn "max"=some (.builtin "max"):=by decide+kernel
end
end cK
namespace fR
open PySem ar cK de
theorem afF{wi:TI}{cs:jj}{tt:TT}{b3:TE}{σ rest:ar.St}{H H1:aa}{Q:bl}{J:e7}{xs:a'}(hw:∀R:e7->aa->Prop,R J H1->wi σ H R)(gp:gW cs σ=none::rest)(jF:l3 J H1 xs)(aq:xs.length<sizeLine)(p:Nat->Bool)(f:Nat->ar.V)(test:∀(i:Nat)(x:ar.V)(aj:aa)(R:Bool->aa->Prop),xs[i]?=some x->aT H1 aj->(∀bY,aT aj bY->R (p i) bY)->tt (some x::rest) aj R)(elt:∀(i:Nat)(x:ar.V)(aj:aa)(R:bl),xs[i]?=some x->p i=true->aT H1 aj->(∀bY,aT aj bY->R (f i) bY)->b3 (some x::rest) aj R)(fin:∀(D:Addr)(H':aa),H1 D=none->H' D=some (.lst (((da xs.length).filter p).map f))->aT H1 H'->Q (.ref D) H'):kM wi cs (g5 0) tt b3 σ H Q:=by
 refine hw _ λD ck=>?_;refine⟨λi m ys a_ H'=>m=xs.length-i/\i<=xs.length/\ys=((da i).filter p).map f/\(∃o,a_=o::rest)/\aT H1 H'/\H' D=some (.lst ys),⟨xs.length,by simp,dM _,rfl,⟨none,by rw[gp]⟩,λb o e=>?_,a8⟩,?_⟩
 .rw[aL (dn e ck)];exact e
 .rintro i m ys a_ H' ⟨rfl,ai,rfl,⟨o,rfl⟩,aI,eG⟩;obtain⟨gO,hV,iu⟩:=jF H' aI;refine⟨eG,mx ?_ aq,?_⟩
  .rw[bh];refine hc (si _ _) ?_;rw[j8];exact ai
  by_cases bZ:i<xs.length
  .refine .inr ⟨hV i bZ,λx aj y=>?_⟩;obtain⟨rfl,ex⟩:=iu i x aj bZ y;show tt (some x::rest) aj _;refine test i x aj _ ex aI λeP s4=>?_;cases aP:p i with
   |true=>
    refine kH ?_;refine elt i x eP _ ex aP (aI.trans s4) λbY s5=>⟨s5 _ _ (s4 _ _ eG),xs.length-(i+1),by omega,rfl,bZ,?_,⟨_,rfl⟩,λb ob e=>?_,a8⟩
    .rw[z3,pO,fo];simp[aP]
    .rw[aL (dn e ck)];exact s5 _ _ (s4 _ _ (aI _ _ e))
   |false=>
    refine lD ⟨xs.length-(i+1),by omega,rfl,bZ,?_,⟨_,rfl⟩,aI.trans s4,s4 _ _ eG⟩;rw[z3,pO,fo];simp[aP]
  .have e:i=xs.length:=by omega
   subst e;exact .inl ⟨gO,fin D H' ck eG aI⟩
theorem me{α:Type}{l:List α}{i:Nat}{x d:α}(e:l[i]?=some x):l.getD i d=x:=by rw[dr,e];rfl
theorem range_getD{α β:Type}(g:α->β)(jP:α)(ls:List α):((da ls.length).map λi=>g (ls.getD i jP))=ls.map g:=by
 apply zZ
 .simp
 .intro i ag af;simp only[bh,j8]at ag;simp[dr,ag]
structure Step where
 left:Int
 Lx:Option Int
 fK:Str
 bO:Int
abbrev dh:= List (List Step)
noncomputable def ajH:Option Int->ar.V
 |none=>.bV
 |some i=>.int i
noncomputable def Df(s:Step):List ar.V:=[.int s.left,ajH s.Lx,.str s.fK,.int s.bO]
noncomputable def Ic(n g st:Addr):List (Str×ar.V):=[("net",.ref n),("goals",.ref g),("steps",.ref st)]
noncomputable def gT(H:aa)(l:Addr)(ss:List Step):Prop:=∃ts,H l=some (.lst (aW ts))/\eh H ts (ss.map Df)
structure WalkAt(C:Addr)(H:aa)(x n g st:Addr)(gs:bR)(ls:b4)(ak:dh):Prop where
 ins:∃av,H x=some (.ins C av (Ic n g st))
 goals:H g=some (.lst (gs.map V.str))
 steps:H st=some (.lst (aW ls))
 each:bX (gT H) ls ak
structure qC(K:aY)(C:Addr):Prop where
 cl:ho K C
 nn:dg K (.ref C) "net"=some none
 j2:dg K (.ref C) "goals"=some none
 ns:dg K (.ref C) "steps"=some none
inductive ael(C:Addr)(vs:a')(H:aa)(Q:bl)(bM:cE):Prop where
 |mk (x n g st:Addr) (gs:bR) (ls:b4) (ak:dh) (k:Nat) (y:Str) (b0:vs=[.ref x,.int k]) (bH:WalkAt C H x n g st gs ls ak) (cu:gs[k]?=some y) (cS:Q (.str y) H)
noncomputable def IU(C:Addr):c9:=λvs H Q bM=>ael C vs H Q bM
inductive aa0(C:Addr)(vs:a')(H:aa)(Q:bl)(bM:cE):Prop where
 |mk (x n g st:Addr) (gs:bR) (ls:b4) (ak:dh) (k:Nat) (ss:List Step) (s:Step) (b0:vs=[.ref x,.int k]) (bH:WalkAt C H x n g st gs ls ak) (cu:ak[k]?=some (ss++[s])) (cS:Q (.str s.fK) H)
noncomputable def Hy(C:Addr):c9:=λvs H Q bM=>aa0 C vs H Q bM
inductive aa1(C:Addr)(vs:a')(H:aa)(Q:bl)(bM:cE):Prop where
 |mk (x n g st:Addr) (gs:bR) (ls:b4) (ak:dh) (k:Nat) (ss:List Step) (s:Step) (b0:vs=[.ref x,.int k]) (bH:WalkAt C H x n g st gs ls ak) (cu:ak[k]?=some (ss++[s])) (cS:Q (.int s.bO) H)
noncomputable def CO(C:Addr):c9:=λvs H Q bM=>aa1 C vs H Q bM
theorem Ä{xs:a'}{v:ar.V}:ar.f3 (xs++[v]) (-1)=some v:=by
 unfold ar.f3 ar.mW;rw[e8,aJ (by decide),aO (by show -((xs.length+1:Nat):Int)<=-1;omega)];show(xs++[v])[((-1:Int)+((xs.length+1:Nat):Int)).toNat]?=_;have e:((-1:Int)+((xs.length+1:Nat):Int)).toNat=xs.length:=by omega
 rw[e];simp
section
variable{P:bP}{w:bt}{K:aY}{ae:cN}{base:Heap}
noncomputable abbrev yA:Stmt:=i8 (top 13) 4
theorem aem:d0 ["self","number"] ["self","number"] (dx yA):=⟨rfl,rfl,rfl,by decide+kernel,rfl,by decide+kernel,by decide+kernel⟩
theorem Tn{C:Addr}{H:aa}{x n g st:Addr}{gs:bR}{ls:b4}{ak:dh}{k:Nat}{ss:List Step}{s:Step}(W:WalkAt C H x n g st gs ls ak)(e:ak[k]?=some (ss++[s])):
  ∃l ts t,ls[k]?=some l/\H l=some (.lst (aW (ts++[t])))/\H t=some (.tup (Df s)):=by
 have ln:=h8 W.each;obtain⟨aE,_⟩:=gj.mp e;obtain⟨l,gH⟩:∃l,ls[k]?=some l:=⟨_,ct (by omega)⟩
 obtain⟨HI,es,ts,aq,cc⟩:=bX.get W.each gH;rw[e]at es;cases es;have lt:=cc.len;rw[bh,e8]at lt;simp only[hH,sj]at lt;obtain⟨t,rb⟩:∃t,ts[ss.length]?=some t:=⟨_,ct (by omega)⟩
 obtain⟨d,dv,hd⟩:=bX.get cc rb;rw[fo,Jr (by rw[bh];omega),bh,UU]at dv;cases dv;refine⟨l,ts.take ss.length,t,gH,?_,hd⟩;have az:ts=ts.take ss.length++[t]:=by
  have this:=(so ss.length ts).symm;have hd2:ts.drop ss.length=[t]:=by rw[zY (by omega:ss.length<ts.length)];rw[ct (by omega:ss.length<ts.length)]at rb;cases rb;rw[Er (by omega)]
  rw[hd2]at this;exact this
 rw[<-az];exact aq
theorem aa2{C f:Addr}{fd:c1}(F:b6 K "last_house" "Walk.last_house" yA f fd)(cH:qC K C):a4 P w K ae base bu 1 f fd ["self","number"] (Hy C):=by
 refine F.ok aem (λvs H Q E h=>?_) (λbK A outer s H vs Q E ay h=>?_)
 .obtain⟨x,n,g,st,gs,ls,ak,k,ss,s',rfl,_⟩:=h;rfl
 .obtain⟨x,n,g,st,gs,ls,ak,k,ss,s',rfl,W,es,q⟩:=h;obtain⟨av,ao⟩:=W.ins;obtain⟨l,ts,t,gH,aq,cO⟩:=Tn W es;refine⟨_,(b8 (dE (cz d5 (cz gS (cz gS (hA (ah 0) (by rfl)) (ah 1) (λ_ _=>rfl)) (DU Dp bF) (λ_ _=>rfl)) bF (λ_ _=>rfl)))),?_⟩;have ag:ar.f3 (aW (ts++[t])) (-1)=some (.ref t):=by unfold aW;rw[fo];exact Ä
  exact⟨_,rfl,x,C,av,_,_,rfl,ao,cH.cl,cH.ns,rfl,_,rfl,st,_,_,_,rfl,rfl,aS.of W.steps,jo (by unfold aW;rw[cM,gH];rfl),_,rfl,l,_,_,_,rfl,rfl,aS.of aq,ag,t,_,_,_,rfl,rfl,b2.of cO,rfl,q⟩
noncomputable abbrev vB:Stmt:=i8 (top 13) 5
theorem aen:d0 ["self","number"] ["self","number"] (dx vB):=⟨rfl,rfl,rfl,by decide+kernel,rfl,by decide+kernel,by decide+kernel⟩
theorem aa3{C f:Addr}{fd:c1}(F:b6 K "last_turn" "Walk.last_turn" vB f fd)(cH:qC K C):a4 P w K ae base bu 1 f fd ["self","number"] (CO C):=by
 refine F.ok aen (λvs H Q E h=>?_) (λbK A outer s H vs Q E ay h=>?_)
 .obtain⟨x,n,g,st,gs,ls,ak,k,ss,s',rfl,_⟩:=h;rfl
 .obtain⟨x,n,g,st,gs,ls,ak,k,ss,s',rfl,W,es,q⟩:=h;obtain⟨av,ao⟩:=W.ins;obtain⟨l,ts,t,gH,aq,cO⟩:=Tn W es;refine⟨_,(b8 (dE (cz d5 (cz gS (cz gS (hA (ah 0) (by rfl)) (ah 1) (λ_ _=>rfl)) (DU Dp bF) (λ_ _=>rfl)) bF (λ_ _=>rfl)))),?_⟩;have ag:ar.f3 (aW (ts++[t])) (-1)=some (.ref t):=by unfold aW;rw[fo];exact Ä
  exact⟨_,rfl,x,C,av,_,_,rfl,ao,cH.cl,cH.ns,rfl,_,rfl,st,_,_,_,rfl,rfl,aS.of W.steps,jo (by unfold aW;rw[cM,gH];rfl),_,rfl,l,_,_,_,rfl,rfl,aS.of aq,ag,t,_,_,_,rfl,rfl,b2.of cO,rfl,q⟩
noncomputable def D'(s:Step)(g:Str):ar.V:=if s.fK=g then .int s.bO else .bV
inductive aa4(C:Addr)(vs:a')(H:aa)(Q:bl)(bM:cE):Prop where
 |mk (x n g st:Addr) (gs:bR) (ls:b4) (ak:dh) (k:Nat) (ss:List Step) (s:Step) (y:Str) (b0:vs=[.ref x,.int k]) (bH:WalkAt C H x n g st gs ls ak) (cu:ak[k]?=some (ss++[s])) (cS:gs[k]?=some y) (dw:Q (D' s y) H)
noncomputable def Ra(C:Addr):c9:=λvs H Q bM=>aa4 C vs H Q bM
noncomputable abbrev DA:Stmt:=i8 (top 13) 6
theorem aeo:d0 ["self","number"] ["self","number"] (dx DA):=⟨rfl,rfl,rfl,by decide+kernel,rfl,by decide+kernel,by decide+kernel⟩
theorem abo{C f f1 f2:Addr}{fd eU gI:c1}(F:b6 K "home_turn" "Walk.home_turn" DA f fd)(cH:qC K C)(sC:eJ K C "last_house" "Walk.last_house" yA ["self","number"] f1 eU)(Me:a4 P w K ae base bu 1 f1 eU ["self","number"] (Hy C))(nE:eJ K C "last_turn" "Walk.last_turn" vB ["self","number"] f2 gI)(AP:a4 P w K ae base bu 1 f2 gI ["self","number"] (CO C)):a4 P w K ae base bu 2 f fd ["self","number"] (Ra C):=by
 have l7:=cH.cl;refine F.ok aeo (λvs H Q E h=>?_) (λbK A outer s H vs Q E ay h=>?_)
 .obtain⟨x,n,g,st,gs,ls,ak,k,ss,s',y,rfl,_⟩:=h;rfl
 .obtain⟨x,n,g,st,gs,ls,ak,k,ss,s',y,rfl,W,es,d2,q⟩:=h;obtain⟨av,ao⟩:=W.ins;refine⟨_,(bQ (gd (fP tq (ib (ah 0) l7 sC.gM Me (ay.mono (by decide)) sC.bd .nil dQ (aA (ah 1) a5)) (cz gS (hA (ah 0) (by rfl)) (ah 1) (λ_ _=>rfl)) (eD _)) (b8 (dE l')) gb)
   (b8 (dE (ib (ah 0) l7 nE.gM AP (ay.mono (by decide)) nE.bd .nil dQ (aA (ah 1) a5))))),?_⟩
  have La:ar.f3 (gs.map V.str) (k:Int)=some (.str y):=jo (by rw[cM,d2];rfl);refine⟨_,rfl,x,av,_,rfl,ao,rfl,_,rfl,x,n,g,st,gs,ls,ak,k,ss,s',rfl,W,es,?_⟩;refine⟨_,rfl,x,C,av,_,_,rfl,ao,cH.cl,cH.j2,rfl,_,rfl,g,_,_,_,rfl,rfl,aS.of W.goals,La,rfl,_,rfl,?_⟩;unfold D' at q;by_cases he:s'.fK=y
  .rw[aO he]at q;exact eF (by rw[he];simp) ⟨_,rfl,x,av,_,rfl,ao,rfl,_,rfl,x,n,g,st,gs,ls,ak,k,ss,s',rfl,W,es,q⟩
  .rw[aJ he]at q;exact fi (by simp[he]) q
noncomputable def qu(d:nA):List ar.V:=[.str d.1,.int d.2.1,.str d.2.2]
noncomputable def iC(d:nA):List Step:=[⟨d.2.1,none,d.1,d.2.1⟩]
inductive afG(C:Addr)(vs:a')(H:aa)(Q:bl)(bM:cE):Prop where
 |mk (x av n ef:Addr) (rs:b4) (ds:l1) (b0:vs=[.ref x,.ref n,.ref ef]) (bH:H x=some (.ins C av [])) (cu:H ef=some (.lst (aW rs))) (cS:eh H rs (ds.map qu)) (dw:rs.length<=100) (en:∀(H':aa)(g st:Addr)(m2:b4),SameBut x H H'->WalkAt C H' x n g st (ds.map λd=>d.2.2) m2 (ds.map iC)->H g=none->H st=none->m2.Nodup->(∀l∈m2,H l=none/\l≠st/\l≠g)->g≠st->Q .bV H')
noncomputable def Jm(C:Addr):c9:=λvs H Q bM=>afG C vs H Q bM
noncomputable abbrev zV:Stmt:=i8 (top 13) 0
inductive aep(C:Addr)(vs:a')(H:aa)(Q:bl)(bM:cE):Prop where
 |mk (x av n g st r:Addr) (gs:bR) (ls:b4) (d:nA) (b0:vs=[.ref x,.ref r]) (bH:H x=some (.ins C av (Ic n g st))) (cu:H g=some (.lst (gs.map V.str))) (cS:H st=some (.lst (aW ls))) (dw:g≠st) (en:H r=some (.tup (qu d))) (ha:gs.length<=100) (iT:ls.length<=100) (ot:∀(H':aa)(l t:Addr),(∀b o,b≠g->b≠st->H b=some o->H' b=some o)->H' g=some (.lst ((gs++[d.2.2]).map V.str))->H' st=some (.lst (aW (ls++[l])))->H l=none->H t=none->H' l=some (.lst [.ref t])->H' t=some (.tup (Df ⟨d.2.1,none,d.1,d.2.1⟩))->Q .bV H')
noncomputable def IV(C:Addr):c9:=λvs H Q bM=>aep C vs H Q bM
noncomputable abbrev DS:Stmt:=i8 (top 13) 1
theorem afH:d0 ["self","letter"] ["self","letter"] (dx DS):=⟨rfl,rfl,rfl,by decide+kernel,rfl,by decide+kernel,by decide+kernel⟩
theorem aeq{C f:Addr}{fd:c1}(F:b6 K "take_in" "Walk.take_in" DS f fd)(cH:qC K C):a4 P w K ae base bu 1 f fd ["self","letter"] (IV C):=by
 refine F.ok afH (λvs H Q E h=>?_) (λbK A outer s H vs Q E ay h=>?_)
 .obtain⟨x,av,n,g,st,r,gs,ls,d,rfl,_⟩:=h;rfl
 .obtain⟨x,av,n,g,st,r,gs,ls,d,rfl,ao,bx,mT,Zg,hd,L9,fI,q⟩:=h;refine⟨_,(bQ (ia (n4 oF oG oH mJ (hA (ah 0) (by rfl)) (aA (cz d5 (ah 1) bF (λ_ _=>rfl)) a5)))
   (b8 (ia (n4 oF oG oH mJ (hA (ah 0) (by rfl)) (aA (l_ (aA (jS (aA (cz d5 (ah 1) bF (λ_ _=>rfl)) (aA l' (aA (cz d5 (ah 1) bF (λ_ _=>rfl)) (aA (cz d5 (ah 1) bF (λ_ _=>rfl)) a5))))) a5)) a5))))),?_⟩
  have vo:x≠g:=hO ao bx (by intro z;cases z);have yq:x≠st:=hO ao mT (by intro z;cases z);have anw:r≠g:=hO hd bx (by intro z;cases z);have asd:r≠st:=hO hd mT (by intro z;cases z);refine⟨_,rfl,x,C,av,_,_,rfl,ao,cH.cl,cH.j2,rfl,.inl ⟨rfl,_,aS.of bx⟩,_,rfl,r,_,_,_,rfl,rfl,b2.of hd,rfl,g,_,_,rfl,rfl,bx,e1 (by rw[bh];omega),?_⟩;have Nw:upd H g (.lst (gs.map V.str++[V.str d.2.2])) x=_:=(aL vo).trans ao;have qp:upd H g (.lst (gs.map V.str++[V.str d.2.2])) st=_:=(aL Zg.symm).trans mT;have MQ:upd H g (.lst (gs.map V.str++[V.str d.2.2])) r=_:=(aL anw).trans hd;refine⟨_,rfl,x,C,av,_,_,rfl,Nw,cH.cl,cH.ns,rfl,.inl ⟨rfl,_,aS.of qp⟩,?_⟩;refine⟨_,rfl,r,_,_,_,rfl,rfl,b2.of MQ,rfl,_,rfl,r,_,_,_,rfl,rfl,b2.of MQ,rfl,_,rfl,r,_,_,_,rfl,rfl,b2.of MQ,rfl,(by show 4<=sizeLine;decide),λt el=>⟨(by show 1<=sizeLine;decide),λl nl=>?_⟩⟩;have FK:∀{b},upd H g (.lst (gs.map V.str++[V.str d.2.2])) b=none->H b=none/\b≠g:=λ{b}e=>by
   have nb:b≠g:=λz=>by rw[z,a8]at e;cases e
   rw[aL nb]at e;exact⟨e,nb⟩
  have CB:l≠t:=λz=>by rw[z,a8]at nl;cases nl
  have vp:=nl;rw[aL CB]at vp;have km:=(cV (o:=.lst [.ref t]) nl) _ _ ((cV (o:=.tup (Df ⟨d.2.1,none,d.1,d.2.1⟩)) el) _ _ qp);have oa:t≠st:=λz=>by rw[z,qp]at el;cases el
  have GY:l≠st:=λz=>by rw[z,qp]at vp;cases vp
  refine⟨st,_,_,rfl,rfl,km,e1 (by rw[fO];omega),?_⟩;refine q _ l t (λb o ag af e=>?_) ?_ ?_ (FK vp).1 (FK el).1 ?_ ?_
  .have ax:upd H g (.lst (gs.map V.str++[V.str d.2.2])) b=some o:=by rw[aL ag];exact e
   rw[aL af];exact(cV nl) _ _ ((cV el) _ _ ax)
  .rw[aL Zg,aL (FK vp).2.symm,aL (FK el).2.symm,a8,fo];rfl
  .rw[a8,u_]
  .rw[aL GY,a8]
  .rw[aL oa,aL CB.symm,a8];rfl
theorem VD:d0 ["self","net","letters","letter"] ["self","net","letters"] (dx zV):=⟨rfl,rfl,rfl,by decide+kernel,rfl,by decide+kernel,by decide+kernel⟩
theorem afl{C f f1:Addr}{fd eU:c1}(F:b6 K "__init__" "Walk.__init__" zV f fd)(cH:qC K C)(FP:eJ K C "take_in" "Walk.take_in" DS ["self","letter"] f1 eU)(apf:a4 P w K ae base bu 1 f1 eU ["self","letter"] (IV C)):a4 P w K ae base bu 2 f fd ["self","net","letters"] (Jm C):=by
 have l7:=cH.cl;refine F.ok VD (λvs H Q E h=>?_) (λbK A outer s H vs Q E ay h=>?_)
 .obtain⟨x,av,n,ef,rs,ds,rfl,_⟩:=h;rfl
 .obtain⟨x,av,n,ef,rs,ds,rfl,ao,ig,cc,c7,q⟩:=h;refine⟨_,(bQ (vA (ah 0) (ah 1) rfl)
   (bQ (vA (ah 0) (l_ a5) rfl)
   (bQ (vA (ah 0) (l_ a5) rfl)
   (b8 (kC jJ rfl (i1 (ah 2)) (d1 (i:=3) VD.aK rfl (cY rfl))
    (b8 (ia (ib (ah 0) l7 FP.gM apf (ay.mono (by decide)) FP.bd .nil dQ (aA (ah 3) a5))))))))),?_⟩
  refine⟨_,rfl,_,rfl,x,C,av,_,rfl,ao,cH.cl,cH.nn,(by show 0<1000;decide),?_⟩;have yn:ef≠x:=hO ig ao (by intro z;cases z);refine⟨(by show 0<=sizeLine;decide),λg j2=>?_⟩;have vo:g≠x:=λz=>by rw[z,a8]at j2;cases j2
  have yj:=j2;rw[aL vo]at yj;refine⟨_,rfl,x,C,av,_,rfl,(by rw[aL vo.symm,a8]),cH.cl,cH.j2,(by show 1<1000;decide),(by show 0<=sizeLine;decide),λst oa=>?_⟩;have yq:st≠x:=λz=>by rw[z,a8]at oa;cases oa
  rw[aL yq]at oa;have vu:st≠g:=λz=>by rw[z,a8]at oa;cases oa
  rw[aL vu,aL yq]at oa;refine⟨_,rfl,x,C,av,_,rfl,(by rw[aL yq.symm,a8]),cH.cl,cH.ns,(by show 2<1000;decide),?_⟩;refine⟨_,rfl,ef,rfl,⟨_,aS.of (xs:=aW rs) ?_⟩,?_⟩
  .rw[aL yn,aL (dn ig oa),aL yn,aL (dn ig yj),aL yn];exact ig
  have fL:=fO rs;have amX:rs.length=ds.length:=by have:=h8 cc;rw[bh]at this;exact this
  refine ta (K:=K) (a:=ef) (xs:=aW rs) (λj σ gu=>∃iR m2,σ=[some (.ref x),some (.ref n),some (.ref ef),iR]/\(∀b o,b≠x->H b=some o->gu b=some o)/\gu x=some (.ins C av (Ic n g st))/\gu g=some (.lst (((ds.take j).map λd=>d.2.2).map V.str))/\gu st=some (.lst (aW m2))/\bX (gT gu) m2 ((ds.take j).map iC)/\m2.Nodup/\(∀l∈m2,H l=none/\l≠st/\l≠g))
   ⟨none,[],rfl,λb o nb e=>?_,a8,?_,?_,.nil,pQ,λl aq=>bE aq eZ⟩ (λj σ gu _⟨_,_,_,h,_⟩=>aS.of (h _ _ yn ig)) ?_ ?_
  .rw[aL nb,aL (dn e oa),aL nb,aL (dn e yj),aL nb];exact e
  .rw[aL vo,aL vu.symm,aL vo,a8];rfl
  .rw[aL yq,a8];rfl
  .rintro j z σ gu dO ⟨iR,m2,rfl,lL,xN,u1,xI,ei,aK,fr⟩;unfold aW at dO;rw[cM]at dO;obtain⟨r,d6,rfl⟩:=ft.mp dO;obtain⟨y,d2,aZ⟩:=bX.get cc d6;rw[cM]at d2;obtain⟨d,dv,rfl⟩:=ft.mp d2;have arM:=(gj.mp dv).1;have x6:=h8 ei;rw[bh,f_]at x6;have aG:ds.take (j+1)=ds.take j++[d]:=by rw[mw,dv];rfl
   refine⟨_,rfl,x,av,_,rfl,xN,rfl,_,rfl,x,av,n,g,st,r,_,m2,d,rfl,xN,u1,xI,vu.symm,lL _ _ (hO aZ ao (by intro z;cases z)) aZ,(by rw[bh,f_];omega),(by omega),?_⟩;intro H' l t b5 alV u5 nl el u2 amI;have anr:∀{o},gu l=some o->False:=λ{o}e=>by rw[nl]at e;cases e
   have free:∀{b},gu b=none->H b=none:=λ{b}e=>by
    by_cases U:b=x
    .rw[U,xN]at e;cases e
    .cases az:H b with
     |none=>rfl
     |some o=>rw[lL _ _ U az]at e;cases e
   refine⟨_,m2++[l],rfl,λb o nb e=>?_,b5 _ _ vo.symm yq.symm xN,?_,u5,?_,?_,?_⟩
   .exact b5 _ _ (λz=>by rw[z,yj]at e;cases e) (λz=>by rw[z,oa]at e;cases e) (lL _ _ nb e)
   .rw[alV,aG];simp only[fo,gk,Jw]
   .rw[aG,fo];refine Paired.snoc ⟨[t],u2,.cons amI .nil⟩ ?_;have go:∀{ms:b4}{vS:dh},bX (gT gu) ms vS->(∀l∈ms,l≠st/\l≠g)->bX (gT H') ms vS:=λ{ms vS}p=>by
     induction p with
     |nil=>exactλ_=>.nil
     |cons r t bk=>
      refineλh=>.cons ?_ (bk λl aq=>h l (.tail _ aq))
      obtain⟨ts,ag,af⟩:=r;refine⟨ts,b5 _ _ (h _ (.head _)).2 (h _ (.head _)).1 ag,bX.iN af λa b e=>b5 _ _ (hO e u1 (by intro z;cases z)) (hO e xI (by intro z;cases z)) e⟩
    exact go ei λl aq=>(fr l aq).2
   .rw[ui];refine⟨aK,jf.mpr ⟨eZ,pQ⟩,λa aH b U=>?_⟩;rw[fD]at U;subst U;rintro rfl;obtain⟨i,ai,e⟩:=hq aH;obtain⟨_,_,ts,ag,_⟩:=bX.get ei (gj.mpr ⟨ai,e⟩);exact anr ag
   .intro fy sZ;rw[fY,fD]at sZ;rcases sZ with h|rfl
    .exact fr _ h
    .exact⟨free nl,λz=>(by rw[z]at nl;rw[nl]at xI;cases xI),λz=>(by rw[z]at nl;rw[nl]at u1;cases u1)⟩
  .rintro σ gu ⟨iR,m2,rfl,lL,xN,u1,xI,ei,aK,fr⟩;rw[fL,amX,lY]at u1 ei;exact q gu g st m2 (λb o nb e=>lL b o nb e) ⟨⟨av,xN⟩,u1,xI,ei⟩ yj oa aK fr vu.symm
noncomputable abbrev tj:Stmt:=i8 (top 32) 3
theorem To:d0 ["self","number"] ["self","number"] (dx tj):=⟨rfl,rfl,rfl,by decide+kernel,rfl,by decide+kernel,by decide+kernel⟩
theorem abp{C R f:Addr}{fd:c1}{tV fM mV:String}{bm:b_}(F:b6 K "road" "Net.road" tj f fd)(B:hb ae)(fN:tR K C)(PC:v' tV fM mV bm)(xU:Exc K ae "NoRoad" R bm fM):
  a4 P w K ae base (gP P w) 1 f fd ["self","number"] (Q' C R):=by
 refine yt F To (λvs H Q E h=>?_) (λbK A outer s H vs Q E ay h=>?_)
 .obtain⟨x,bz,a7,xs,ys,k,rfl,_⟩:=h;rfl
 .obtain⟨x,bz,a7,xs,ys,k,rfl,n,q,lH⟩:=h;obtain⟨av,ao⟩:=n.ins;refine⟨_,(bQ (gd (jR (Cn rH yV bF (ah 1) (eo ke (by rfl) B.len jq (aA (hA (ah 0) (by rfl)) a5)))) (b8 (G8 PC xU rfl (aA o4 a5))) gb)
   (b8 (dE (cz gS (hA (ah 0) (by rfl)) (ah 1) (λ_ _=>rfl))))),?_⟩
  refine⟨_,rfl,_,_,rfl,rfl,_,rfl,?_⟩;by_cases h0:0<=k
  .refine fi (dU h0) ⟨_,rfl,x,C,av,_,_,rfl,ao,fN.cl,fN.gi,rfl,a7,_,rfl,.inl (aS.of n.tE),_,_,rfl,rfl,_,rfl,?_⟩;by_cases ag:k<ys.length
   .obtain⟨v,bI,aoe⟩:=q ⟨h0,ag⟩;refine Jk ag ?_;exact⟨_,rfl,x,C,av,_,_,rfl,ao,fN.cl,fN.gi,rfl,_,rfl,a7,_,_,_,rfl,rfl,aS.of n.tE,bI,aoe⟩
   .refine fi (by rw[eM ag];rfl) ?_;exact⟨by show 1<=sizeLine;decide,lH λz=>ag z.2⟩
  .refine eF (eM h0) ⟨_,rfl,?_⟩;exact kH ⟨by show 1<=sizeLine;decide,lH λz=>h0 z.1⟩
end
end fR
namespace cK
open PySem PySem.Spec PyProof.Rows ar PySem.W
noncomputable def g9{α:Type}(lt:hg):KasT α->α
 |.ret a=>a
 |.ask i j k=>g9 lt (k (lt i j))
noncomputable def ko{α:Type}(n:Nat)(P:α->Prop):KasT α->Prop
 |.ret a=>P a
 |.ask i j k=>i<n/\j<n/\∀b,ko n P (k b)
theorem yb{α β:Type}{n:Nat}{P:α->Prop}{R:β->Prop}{f:α->KasT β}(hf:∀a,P a->ko n R (f a)):∀t:KasT α,ko n P t->ko n R (t.bind f)
 |.ret a,h=>hf a h
 |.ask i j k,h=>⟨h.1,h.2.1,λb=>yb hf (k b) (h.2.2 b)⟩
theorem pd{α:Type}{n:Nat}{P:α->Prop}{c:Prop}[Decidable c]{s t:KasT α}(ag:c->ko n P s)(af:¬c->ko n P t):ko n P (if c then s else t):=by
 by_cases h:c
 .rw[aO h];exact ag h
 .rw[aJ h];exact af h
theorem Tp{α:Type}{cmp:Nat->Nat->(Bool->aF->Prop)->aF->Prop}{lt:hg}{n:Nat}{P:α->Prop}{Q:α->aF->Prop}{s:aF}(aC:∀i j C,i<n->j<n->C (lt i j) s->cmp i j C s):
  ∀t:KasT α,ko n P t->(P (g9 lt t)->Q (g9 lt t) s)->t.kasWp cmp Q s
 |.ret a,p,h=>h p
 |.ask i j k,p,h=>aC i j _ p.1 p.2.1 (Tp aC (k (lt i j)) (p.2.2 _) h)
theorem G3{α:Type}{lt:hg}{n:Nat}{P:α->Prop}:∀t:KasT α,ko n P t->P (g9 lt t)
 |.ret _,p=>p
 |.ask i j k,p=>G3 (k (lt i j)) (p.2.2 _)
noncomputable def c8(n:Nat)(p:c'):Prop:=p.Perm (lZ (da n))
theorem c8.lt{n:Nat}{p:c'}(h:c8 n p){x:Nat}(ao:x∈p):x<n:=by
 have:=h.mem_iff.mp ao;have:x∈da n:=by simpa using this
 exact jH.mp this
theorem c8.list{n:Nat}{p:c'}(h:c8 n p):p.toList.Perm (da n):=by have:=þ.mp h;simpa using this
theorem c8.at{n:Nat}{p:c'}(h:c8 n p)(h0:0<n)(k:Nat):p.getD k 0<n:=by
 by_cases aE:k<p.size
 .have e:p.getD k 0=p[k]:=by simp[lR,aE]
  rw[e];exact h.lt (Array.getElem_mem aE)
 .have e:p.getD k 0=0:=by simp[lR,aE]
  rw[e];exact h0
theorem c8.perm{n:Nat}{p q:c'}(h:c8 n p)(e:q.Perm p):c8 n q:=Array.Perm.trans e h
theorem c8.rev{n:Nat}{p:c'}(h:c8 n p)(i j:Nat):c8 n (o6 p i j):=h.perm (mirror_perm ..)
theorem c8.Lw{n:Nat}{p:c'}(h:c8 n p)(i j:Nat):c8 n (oL p i j):=h.perm (bubble_perm ..)
section
variable{n:Nat}
theorem Jo{p:c'}(h0:0<n)(h:c8 n p):∀f k,ko n (λ_=>True) (kas_asc p f k)
 |0,_=>trivial
 |f+1,k=>⟨h.at h0 _,h.at h0 _,λb=>pd (λ_=>trivial) λ_=>Jo h0 h f (k+1)⟩
theorem Ig(h0:0<n):∀(f:Nat)(p:c')(k q:Nat),c8 n p->ko n (λr=>c8 n r.1) (B9 f p k q)
 |0,p,k,q,h=>h
 |f+1,p,k,q,h=>⟨h.at h0 _,h.at h0 _,λb=>pd (λ_=>pd (λ_=>Ig h0 f _ _ _ (h.rev _ _)) λ_=>Ig h0 f _ _ _ h)
   λ_=>⟨h.at h0 _,h.at h0 _,λb=>pd (λ_=>h) λ_=>Ig h0 f _ _ _ h⟩⟩
theorem Tq{p:c'}(h0:0<n)(h:c8 n p)(k m:Nat):ko n (λr=>c8 n r.2) (B' k m p):=by unfold B';refine yb (P:=λ_=>True) (λa _=>?_) _ (Jo h0 (h.rev _ _) _ _);exact h.rev _ _
theorem Ι{p:c'}(h0:0<n)(h:c8 n p)(k m:Nat):ko n (λr=>c8 n r.2) (YO k m p):=
 yb (λr ay=>pd (λ_=>Tq h0 (c8.rev ay _ _) _ _) λ_=>Tq h0 ay _ _) _ (Ig h0 _ _ _ _ h)
theorem aer{p:c'}(h0:0<n)(h:c8 n p)(m:Nat):ko n (λr=>c8 n r.2) (N8 m p):=by unfold N8;refine yb (P:=λ_=>True) (λk _=>?_) _ (Jo h0 h _ _);refine pd (λ_=>h) λ_=>pd (λ_=>⟨h.at h0 _,h.at h0 _,λb=>pd (λ_=>h) λ_=>Ι h0 (h.rev _ _) _ _⟩) λ_=>Ι h0 h _ _
theorem Rb{p:c'}(h0:0<n)(h:c8 n p)(k:Nat):∀f l r,ko n (λ_=>True) (x1 p k f l r)
 |0,_,_=>trivial
 |f+1,l,r=>pd (λ_=>trivial) λ_=>⟨h.at h0 _,h.at h0 _,λb=>pd (λ_=>Rb h0 h k f _ _) λ_=>Rb h0 h k f _ _⟩
theorem Jp(h0:0<n):∀(f:Nat)(p:c')(k:Nat),c8 n p->ko n (c8 n) (N7 f p k)
 |0,p,k,h=>h
 |f+1,p,k,h=>yb (λl _=>Jp h0 f _ _ (h.Lw _ _)) _ (Rb h0 h k _ _ _)
theorem IW(h0:0<n):ko n (c8 n) (x2 n):=by have ay:c8 n (lZ (da n)):=R_ _;unfold x2;refine yb (P:=λr=>c8 n r.2) (λr af=>?_) _ (aer h0 ay n);exact pd (λ_=>Jp h0 _ _ _ af) λ_=>af
end
noncomputable def o'(lt:hg)(n:Nat):List Nat:=if n<2 then da n else(g9 lt (x2 n)).toList
noncomputable def fj{α:Type}(d:α)(lt:hg)(xs:List α):List α:=(o' lt xs.length).map λi=>xs.getD i d
theorem G4{lt:hg}{n i:Nat}(h:i∈o' lt n):i<n:=by
 unfold o' at h;split at h
 .exact jH.mp h
 .rename_i af;exact c8.lt (G3 (lt:=lt) (x2 n) (IW (by omega))) (by simpa using h)
theorem GA(lt:hg)(n:Nat):(o' lt n).Perm (da n):=by
 unfold o';split
 .exact zW _
 .exact c8.list (G3 (lt:=lt) (x2 n) (IW (by omega)))
theorem Å{α:Type}(d:α)(lt:hg)(xs:List α):(fj d lt xs).Perm xs:=by
 have e:xs=(da xs.length).map λi=>xs.getD i d:=by
  apply zZ
  .simp
  .intro i ag af;simp[dr,ag]
 have p:=(GA lt xs.length).map λi=>xs.getD i d;rw[<-e]at p;exact p
theorem xQ{α:Type}(d:α)(lt:hg)(xs:List α):(fj d lt xs).length=xs.length:=(Å d lt xs).length_eq
theorem B0{lt:hg}{xs:a'}{us:b_}(h:cp xs us):cp (fj .bV lt xs) (fj .none lt us):=by
 unfold fj;rw[h.length];have:∀is:List Nat,(∀i∈is,i<xs.length)->cp (is.map λi=>xs.getD i .bV) (is.map λi=>us.getD i .none):=λis=>by
  induction is with
  |nil=>intro _;exact .nil
  |cons i r bk=>
   intro ai;refine .cons ?_ (bk λj aQ=>ai j (.tail _ aQ));have bZ:i<xs.length:=ai i (.head _);have ax:xs[i]?=some xs[i]:=ct bZ;obtain⟨u,az,eA⟩:=h.get ax;show RelV (xs[i]?.getD .bV) (us[i]?.getD .none);rw[ax,az];exact eA
 exact this _ λi ai=>by rw[h.length];exact G4 ai
theorem ì{α:Type}(d:α)(lt:hg){xs:List α}(h:xs.length<2):fj d lt xs=xs:=by
 unfold fj o';rw[aO h];apply zZ
 .simp
 .intro i ag af;simp[dr,af]
noncomputable def mh(a:Addr)(h h':Heap):Prop:=∀b o,b≠a->h.get? b=some o->h'.get? b=some o
section
variable{prog:bP}{w:bt}{A:cU}{E:cx}{s:aF}{vs:b_}{κ:ny}{lt:hg}
theorem Rw{a:Addr}{e:Nat}{R:JU->aF->Prop}(aR:s.heap.get? a=some (fe "list" vs.toArray e))(qg:vs.length<64)(aE:2<=vs.length->∀s1:aF,mh a s.heap s1.heap->∀Q:ny->aF->Prop,Q κ s1->aM (ba prog w) A (Ca vs.toArray) Q (λ_ _=>False) s1)(aq:2<=vs.length->∀s1:aF,mh a s.heap s1.heap->∀i j C,i<vs.length->j<vs.length->C (lt i j) s1->rA prog w A κ vs i j C s1)(h:∀h' c,mh a s.heap h'->h'.get? a=some (fe "list" (lZ (fj dY lt vs)) c)->R (.done (.ret .none)) {s with heap:=h'}):
  aM (ba prog w) A (Builtin.«list.sort» ⟨[.ref a],[]⟩) R E s:=by
 have emptied:=Mg aR λ_=>(#[]:iA)
 obtain⟨ax,s6⟩:∃k,(s.heap.update a (jI λ_=>(#[]:iA))).get? a=some (fe "list" #[] k):=⟨_,emptied⟩
 have fX:mh a s.heap (s.heap.update a (jI λ_=>(#[]:iA))):=λb o U q=>(zN _ _ _ _ U).trans q;have big:∀k,k<64->k<=sizeLine:=λk aE=>by rw[pv];omega
 rw[amZ];refine au (listItems_at aR rfl (au (Ot aR rfl ?_ (by rw[ek];exact big _ qg) (dM _))));refine au (P8 s6 rfl (au (Q0 ?_ (big _ qg))));refine au (DH (iv ?_) (dM _));dsimp only;generalize i5:((s.heap.update a (jI λ_=>(#[]:iA))).push (fe "tuple" vs.toArray 0)).push (fe "list" #[] 0)=aj;have nU:aj.get? a=some (fe "list" #[] ax):=by rw[<-i5];exact c6 _ (c6 _ s6)
 have dJ:mh a s.heap aj:=λb o U q=>by rw[<-i5];exact c6 _ (c6 _ (fX b o U q))
 have tail:∀(x:Unit×SortSt)(out:b_),(gR x.2).map (·.2)=out.toArray->sN x.2=none->out.length<64->out=fj dY lt vs->
   aM (ba prog w) A (do
    let now <-seqEpoch a
    Ĕ (.ref a) λ_=>(gR x.2).map (·.2)
    match sN x.2 with
    |some d6=>do
     rule "list.sort.comparison-raised"
     throw d6
     if(now !=ax)=true then do
      rule "list.sort.modified"
      PM "ValueError" "list modified during sort"
      ret dY
     else ret dY
    |_=>
     if(now !=ax)=true then do
      rule "list.sort.modified"
      PM "ValueError" "list modified during sort"
      ret dY
     else ret dY) R E {s with heap:=aj}:=λx out az cq x5 AZ=>by
  refine au (P8 nU rfl (au (Ot nU rfl ?_ (dM _) ?_)))
  .rw[cq];dsimp only;rw[aJ (by simp)];obtain⟨c,aC⟩:∃c,(aj.update a (jI λ_=>(gR x.2).map (·.2))).get? a=some (fe "list" ((gR x.2).map (·.2)) c):=⟨_,Mg nU λ_=>(gR x.2).map (·.2)⟩
   refine a9 (h _ c (λb o U q=>(zN _ _ _ _ U).trans (dJ b o U q)) ?_);rw[aC,az,AZ]
  .rw[az,ek];have:=big _ x5;omega
 by_cases af:(vs.toArray.size<2)
 .rw[aO af,aO af];have fV:vs.length<2:=by rw[ek]at af;exact af
  refine au (a9 (au (a9 ?_)));refine tail ((),nz general' (vs.toArray.zip vs.toArray) #[] 7 none) vs ?_ rfl qg (ì _ _ fV).symm;show(vs.toArray.zip vs.toArray).map (·.2)=vs.toArray;apply DY.mp;simp only[Ā,Ă];exact abP (b1 _)
 .rw[aJ af,aJ af];have fV:2<=vs.length:=by rw[ek]at af;omega
  refine au (e6 (aE fV {s with heap:=aj} dJ (λv5 s'=>v5=κ/\s'={s with heap:=aj}) ⟨rfl,rfl⟩) ?_ λ_ _ x=>x.elim);rintro v5 s' ⟨rfl,rfl⟩;refine au (e6 (kat_run (κ:=v5) (Q:=λst s'=>s'={s with heap:=aj}/\(gR st).map (·.2)=lZ (fj dY lt vs)/\sN st=none/\(fj dY lt vs).length=vs.length)
   (G:=λp s'=>s'={s with heap:=aj}/\p=g9 lt (x2 vs.length)) rfl fV qg (λp st s' a1 a2 gn iZ=>?_) (Tp (λi j C ai aQ dV=>aq fV _ dJ i j C ai aQ dV) _ (IW (by omega)) λ_=>⟨rfl,rfl⟩)) ?_ λ_ _ x=>x)
  .obtain⟨eC,dT⟩:=iZ;have e:fj dY lt vs=p.toList.map λi=>vs.getD i dY:=by unfold fj o';rw[aJ (by omega),dT]
   refine⟨eC,?_,gn,?_⟩
   .rw[e];exact kat_snds rfl a2
   .rw[e,bh,kQ,a1]
  .rintro⟨⟨⟩,st⟩ s' ⟨rfl,dT,jm,q9⟩;exact tail ((),st) _ dT jm (by omega) rfl
noncomputable def i9(h h':Heap):Prop:=∀b o,h.get? b=some o->h'.get? b=some o
theorem Æ{l:Addr}{Q:cx}(aq:s.heap.IsList l vs.toArray)(qg:vs.length<64)(aE:2<=vs.length->∀s1:aF,i9 s.heap s1.heap->∀Q:ny->aF->Prop,Q κ s1->aM (ba prog w) A.in1.in1 (Ca vs.toArray) Q (λ_ _=>False) s1)(aH:2<=vs.length->∀s1:aF,i9 s.heap s1.heap->∀i j C,i<vs.length->j<vs.length->C (lt i j) s1->rA prog w A.in1.in1 κ vs i j C s1)(h:∀D h' c,s.heap.objs.size<=D->i9 s.heap h'->h'.get? D=some (fe "list" (lZ (fj dY lt vs)) c)->Q (.ref D) {s with heap:=h'}):
  aM (ba prog w) A (call (.builtin "sorted") ([.ref l]:b_)) Q E s:=by
 have big:vs.length<=sizeLine:=by rw[pv];omega
 refine D1 Oc Pm LY (Lo (.ref l)) ?_;unfold Builtin.«sorted»;refine au (m:=LG "sorted" 1 1 _) (a9 (au (collect_list aq ?_ big)));refine au (DH ?_ big);generalize nQ:(s.heap.push (fe "list" #[] 0)).update s.heap.objs.size (jI (·++vs.toArray))=G;have gs:G.objs.size=s.heap.objs.size+1:=by rw[<-nQ,ţ,size_push']
 have fX:i9 s.heap G:=λb o q=>by have U:=dP (dm q);rw[<-nQ,zN _ _ _ _ U];exact c6 _ q
 show aM _ _ _ _ _ {s with heap:=G.push (fe "list" vs.toArray 0)};have ck:(G.push (fe "list" vs.toArray 0)).get? G.objs.size=some (fe "list" vs.toArray 0):=ff _ rfl;have dJ:i9 s.heap (G.push (fe "list" vs.toArray 0)):=λb o q=>c6 _ (fX b o q);have pG:∀h',mh G.objs.size (G.push (fe "list" vs.toArray 0)) h'->i9 s.heap h':=λh' x b o q=>x b o (dP (by rw[gs];exact uo (dm q))) (dJ b o q);refine au (iv (kO Qd ⟨_,ck,rfl⟩ LX ?_ (Ln _)));refine Rw (s:={s with heap:=G.push (fe "list" vs.toArray 0)}) (κ:=κ) (lt:=lt) ck qg (λaf s1 x=>aE af s1 (pG _ x)) (λaf s1 x=>aH af s1 (pG _ x)) λh' c x aC=>?_;exact⟨_,rfl,a9 ⟨_,rfl,h _ h' c (by rw[gs];exact wO _) (pG _ x) aC⟩⟩
noncomputable def lexLt:List br->List br->Bool
 |.inl a::r,.inl b::q=>if a=b then lexLt r q else decide (a<b)
 |.inr a::r,.inr b::q=>if a=b then lexLt r q else decide (a.cps.toList<b.cps.toList)
 |_,_=>false
noncomputable def hS:List br->List Bool:=Ju λk=>match k with
 |.inl _=>true
 |.inr _=>false
theorem abq(a b:Int):g4 (.int a) (.int b)=decide (a=b):=by
 by_cases h:a=b
 .subst h;rw[dU rfl];simp[g4]
 .rw[eM h];simp[g4,h]
theorem í(x y:Str):g4 (.str x) (.str y)=decide (x=y):=by
 by_cases h:x=y
 .subst h;rw[dU rfl];simp[g4]
 .rw[eM h];simp[g4,h]
end
section
variable{prog:bP}{w:bt}{A:cU}{E:cx}{s:aF}
theorem He{Q:Bool->aF->Prop}:∀(d e:List br)(us ws:b_)(i:Nat),cp (d.map di) us->cp (e.map di) ws->hS d=hS e->Q (lexLt d e) s->KatLex prog w A true false Q (us.zip ws) i s
 |[],e,us,ws,i,v1,v2,hs,h=>by
  cases v1;have cI:e=[]:=by
   cases e with
   |nil=>rfl
   |cons _ _=>cases hs
  subst cI;exact kat_nil h
 |.inl a::r,[],_,_,_,_,_,hs,_=>by cases hs
 |.inr a::r,[],_,_,_,_,_,hs,_=>by cases hs
 |.inl a::r,.inr b::q,_,_,_,_,_,hs,_=>by simp[hS]at hs
 |.inr a::r,.inl b::q,_,_,_,_,_,hs,_=>by simp[hS]at hs
 |.inl a::r,.inl b::q,_,_,i,.cons b' t1,.cons df fQ,hs,h=>by
  obtain⟨t,rfl⟩:=b';obtain⟨u,rfl⟩:=df;have u5:hS r=hS q:=by simpa[hS]using hs
  unfold lexLt at h;refine kat_cons (keq_flat (d:=.int a) (e:=.int b) (λ_=>.int a t) (λ_=>.int b u) prog w _ _ ?_);rw[abq];by_cases e:a=b
  .rw[aO e]at h;rw[dU e];exact kat_yes (He r q _ _ _ t1 fQ u5 h)
  .rw[aJ e]at h;rw[eM e];refine kat_no ?_;cases i with
   |zero=>exact oneLt_int h
   |succ i=>exact kat_one _ _ (lt_int h)
 |.inr a::r,.inr b::q,_,_,i,.cons b' t1,.cons df fQ,hs,h=>by
  obtain⟨t,rfl⟩:=b';obtain⟨u,rfl⟩:=df;have u5:hS r=hS q:=by simpa[hS]using hs
  unfold lexLt at h;refine kat_cons (keq_flat (d:=.str a) (e:=.str b) (λ_=>.str a t) (λ_=>.str b u) prog w _ _ ?_);rw[í];by_cases e:a=b
  .rw[aO e]at h;rw[dU e];exact kat_yes (He r q _ _ _ t1 fQ u5 h)
  .rw[aJ e]at h;rw[eM e];refine kat_no ?_;cases i with
   |zero=>exact oneLt_str h
   |succ i=>exact kat_one _ _ (lt_str h)
noncomputable def iM(ds:List (List br))(i j:Nat):Bool:=lexLt (ds.getD i []) (ds.getD j [])
theorem PD:∀{ts:b4}{us:b_},cp (ts.map V.ref) us->us=ts.map dA
 |[],_,.nil=>rfl
 |t::ts,_,.cons r q=>by cases r;rw[PD q];rfl
noncomputable def YK:br->Bool
 |.inl _=>true
 |.inr _=>false
noncomputable def HX(b:Bool):Value:=if b=true then .type "int" else .type "str"
end
theorem IX{P:bP}{w:bt}{H:aa}{h ag:Heap}(ok:fC P w H h)(x:i9 h ag){b:Bool}:∀{ts:b4}{ds:List (List br)},bX (λr d=>H r=some (.tup (d.map di))) ts ds->(∀d∈ds,∃r,hS d=b::r)->
  ∃fs,KatTups ag (ts.map dA) fs/\fs.length=ts.length/\∀v∈fs,∃k:br,YK k=b/\RelV (di k) v
 |[],[],_,_=>⟨[],KatTups.nil,rfl,λ_ h=>bE h eZ⟩
 |t::ts,d::ds,.cons r q,hd=>by
  obtain⟨fs,k1,k2,k3⟩:=IX ok x q λd' h'=>hd d' (.tail _ h');obtain⟨mn,hs⟩:=hd d (.head _);obtain⟨_,its,cg,o,aR,aC,n,hj⟩:=ok t _ r;cases d with
  |nil=>cases hs
  |cons k d=>
   cases cg with
   |cons pk qD=>
    rename_i f fr;refine⟨f::fs,KatTups.cons (x _ _ aR) aC hj (by simp) k1,by simp[k2],λv bI=>?_⟩;rcases fp.mp bI with rfl|amM
    .refine⟨k,?_,pk⟩;have:hS (k::d)=YK k::hS d:=by cases k<;>rfl
     rw[this]at hs;exact(Ua hs).1
    .exact k3 v amM
 |[],d::ds,h,_=>nomatch h
 |t::ts,[],h,_=>nomatch h
section
variable{X:bB}
theorem B1:jn "sorted"=some (.builtin "sorted"):=by decide+kernel
theorem aqd:iF X (.builtin "sorted") (λxs H Q=>∃(p:Addr)(ts:b4)(ds:List (List br))(b:Bool)(ku:List Bool),xs=[.ref p]/\aS X.K H p (ts.map V.ref)/\bX (λr d=>H r=some (.tup (d.map di))) ts ds/\ts.length<64/\(∀d∈ds,hS d=b::ku)/\
  ∀l,H l=none->Q (.ref l) (upd H l (.lst (fj .bV (iM ds) (ts.map V.ref))))):=by
 intro pins s σ H xs us Q I r h;obtain⟨p,ts,ds,b,ku,rfl,bp,cc,qg,mS,q⟩:=h;obtain⟨u,rfl,eA⟩:=vals1 r;cases eA;obtain⟨its,cg,pl,hz⟩:=I.list bp;have hlen:=cg.length;rw[bh]at hlen;obtain rfl:=PD cg;have akD:ts.length=ds.length:=h8 cc;have at_:∀i,i<ts.length->∃d its,(ts.map dA).getD i dY=.ref ts[i]!/\ds.getD i []=d/\hS d=b::ku/\cp (d.map di) its/\ub s.heap ts[i]! its.toArray:=λi ai=>by
  have ax:ts[i]?=some ts[i]:=ct ai;have az:ds[i]?=some ds[i]:=ct (by omega);have cq:ts[i]! =ts[i]:=by simp[ai]
  have aP:H ts[i]=some (.tup (ds[i].map di)):=by
   have:∀{l:b4}{m:List (List br)}{k:Nat}{x:Addr}{y:List br},bX (λr d=>H r=some (.tup (d.map di))) l m->l[k]?=some x->m[k]?=some y->H x=some (.tup (y.map di)):=λ{l m k x y}P=>by
    induction P generalizing k with
    |nil=>intro h;simp at h
    |cons a t bk=>
     cases k with
     |zero=>intro ag af;simp at ag af;subst ag;subst af;exact a
     |succ k=>intro ag af;simp at ag af;exact bk ag af
   exact this cc ax az
  obtain⟨_,its,v1,t1⟩:=I.bo _ _ aP;refine⟨ds[i],its,?_,?_,mS _ (eY _),v1,?_⟩
  .rw[dr,cM,ax,cq];rfl
  .rw[dr,az];rfl
  .rw[cq];exact t1
 refine Æ (κ:=tuples' true) (lt:=iM ds) pl.isList (by rw[bh];exact qg) (λaf s1 x kX dk=>?_) (λaf s1 x i j C ai aQ dV=>?_) λD h' c hle x aC=>?_
 .obtain⟨fs,k1,k2,k3⟩:=IX I.bo x cc λd hd=>⟨ku,mS d hd⟩
  rw[bh]at af;refine kat_kind (T:=HX b) k1 (by omega) (λv bI=>?_) (by cases b<;>decide+kernel) ?_
  .obtain⟨k,eS,pk⟩:=k3 v bI;subst eS;cases k with
   |inl i=>obtain⟨t,rfl⟩:=pk;exact Ez rfl
   |inr i=>obtain⟨t,rfl⟩:=pk;exact Ez rfl
  .have e:(HX b !=mF "tuple")=true:=by cases b<;>decide+kernel
   rw[e];exact dk
 .rw[bh]at ai aQ;obtain⟨d,its,a1,a2,gn,iZ,o,aR,_,n,hj⟩:=at_ i ai;obtain⟨d',its',eC,dT,jm,q9,cQ,jz,_,lB,MV⟩:=at_ j aQ;unfold rA;rw[a1,eC];have gh:=iZ.length;have fy:=q9.length;rw[bh]at gh fy;have kp:d.length=d'.length:=by have e:=e9 uf (gn.trans jm.symm);simpa[hS]using e
  refine kat_lt (b:=true) (x _ _ aR) hj (x _ _ jz) MV ?_;rw[eM (by rw[ek,ek];omega)];refine He d d' its its' 0 iZ q9 (gn.trans jm.symm) ?_;have:iM ds i j=lexLt d d':=by unfold iM;rw[a2,dT]
  rw[<-this];exact dV
 .refine⟨.ref D,_,I.laid (a:=D) (o:=.lst (fj .bV (iM ds) (ts.map V.ref))) (t':=s.toks) (λb o q=>x b o q) hle ?_,rfl,q D (I.bo.fresh hle)⟩;refine⟨?_,_,c,B0 cg,aC⟩;rw[xQ,bh,pv];omega
noncomputable def kS(h:Heap)(d:Addr)(es:Array r_)(ep:Nat):Prop:=∃o,h.get? d=some o/\o.ExactDict/\o.data=.dict es ep
end
section
variable{prog:bP}{w:bt}{A:cU}{E:cx}{s:aF}{it d:Addr}{i ep:Nat}{es:Array r_}{ok eH:Value}
theorem aes{Q:Option Value->aF->Prop}(hit:ua s.heap it d i es.size ep ok eH)(hd:kS s.heap d es ep)(ai:i<es.size)(dk:∀h',TK h' it d (i+1) es.size ep es[i].key es[i].val s.heap.objs.size->h'.get? s.heap.objs.size=some {cls:=.type "tuple",data:=.seq #[es[i].key,es[i].val]}->
   (∀b o,b≠it->s.heap.get? b=some o->h'.get? b=some o)->Q (some (.ref s.heap.objs.size)) {s with heap:=h'}):aM (ba prog w) A (iP (.ref it)) Q E s:=by
 obtain⟨G,hi,uL,aG,os⟩:=s;obtain⟨o,aR,_,hj⟩:=hd;have T0:J6 ⟨G,hi,uL,aG,os⟩ (.ref it) "dict_itemiterator":=⟨_,hit,rfl⟩
 have tm:¬((dA d==dY)=true):=fz;have own:D0 "dict_itemiterator"=true:=by decide
 have lit:it<G.objs.size:=dm hit;unfold iP;refine au (yZ (y0 (name:=j_ "__next__") T0 F.slot_dict_itemiterator_next (kO F.slot_dict_itemiterator_next T0 F.entry_dict_itemiterator_next ?_ (F.args_dict_itemiterator_next_1 _))));refine au (a9 (au (au ?_)))
 first
 |refine au (Q3 T0 (a9 (au (rW hit rfl ?_))))
 |refine au (Q5 T0 (a9 (au (rW hit rfl ?_))))
 simp only[own,if_true];change aM _ _ (ite ((dA d==dY)=true) _ _) _ _ _;rw[aJ tm];refine au (a9 (au (y1 aR hj ?_)));rw[aJ (by simp)];refine au (a9 (au (DD aR hj ?_)));rw[aJ (by simp)];refine a9 ?_;simp only[show¬((i:Int)<0)from by omega,if_false,lX,qY ai];refine au ?_
 first
 |refine au (Q3 T0 (a9 (au (QY T0 ?_))))
 |refine au (Q5 T0 (a9 (au (QY T0 ?_))))
 show aM _ _ (tG (.ref it) 3 (h3 ((i:Int)+1)) >>=_) _ _ ⟨G,hi,uL,aG,os⟩;refine au (H7 hit (by simp) λpK ax eO=>?_);have eO:kx it G pK:=eO;have ax:ua pK it d (i+1) es.size ep ok eH:=by
  have z:((i+1:Nat):Int)=(i:Int)+1:=by omega
  unfold ua;rw[z];simpa[h3]using ax
 have Au:J6 ⟨pK,hi,uL,aG,os⟩ (.ref it) "dict_itemiterator":=⟨_,ax,rfl⟩
 refine au (iv (au (QY Au (au (QY Au ?_)))));show aM _ _ (Đ (.ref it) 6 es[i].key es[i].val) _ _ ⟨pK,hi,uL,aG,os⟩;simp only[Đ];refine au (Q0 ?_);have b0:pK.objs.size=G.objs.size:=eO.1;have az:ua (pK.push {cls:=.type "tuple",data:=.seq #[es[i].key,es[i].val]}) it d (i+1) es.size ep ok eH:=c6 _ ax;have fQ:(pK.push {cls:=.type "tuple",data:=.seq #[es[i].key,es[i].val]}).get? G.objs.size=some {cls:=.type "tuple",data:=.seq #[es[i].key,es[i].val]}:=by rw[<-b0];exact ff _ rfl
 have k2:∀b u,b≠it->G.get? b=some u->(pK.push {cls:=.type "tuple",data:=.seq #[es[i].key,es[i].val]}).get? b=some u:=λb u U q=>c6 _ (eO.extBut b u U q);show aM _ _ (ď (.ref it) >>=_) _ _ ⟨pK.push {cls:=.type "tuple",data:=.seq #[es[i].key,es[i].val]},hi,uL,aG,os⟩;rw[b0];generalize pK.push {cls:=.type "tuple",data:=.seq #[es[i].key,es[i].val]}=S5 at az fQ k2⊢;refine au ?_;unfold ď;refine au (QX az rfl (x:=.none) rfl (a9 ?_));simp only[if_true];refine au (QX az rfl (x:=ok) rfl (au (QX az rfl (x:=eH) rfl ?_)));refine au (H7 az (by simp) λI8 cq vk=>?_);have vk:kx it S5 I8:=vk;have cq:ua I8 it d (i+1) es.size ep es[i].key eH:=cq;refine au (H7 cq (by simp) λI9 et Ck=>?_);have Ck:kx it I8 I9:=Ck;have et:ua I9 it d (i+1) es.size ep es[i].key es[i].val:=et;refine au (H7 et (by simp) λI' g6 Cm=>?_);have Cm:kx it I9 I':=Cm;have g6:TK I' it d (i+1) es.size ep es[i].key es[i].val G.objs.size:=g6;refine au (H7 g6 (by simp) λD6 kA Ov=>?_);have Ov:kx it I' D6:=Ov;have kA:TK D6 it d (i+1) es.size ep es[i].key es[i].val G.objs.size:=kA;have all:∀b u,b≠it->S5.get? b=some u->D6.get? b=some u:=λb u U q=>Ov.extBut b u U (Cm.extBut b u U (Ck.extBut b u U (vk.extBut b u U q)));exact au (DG (a9 (a9 ⟨_,rfl,a9 (dk D6 kA (all _ _ (uq lit) fQ) λb u U q=>all b u U (k2 b u U q))⟩)))
theorem aet{Q:Option Value->aF->Prop}(dy:A.handled=none)(hit:ua s.heap it d i es.size ep ok eH)(hd:kS s.heap d es ep)(ai:es.size<=i)(dk:∀h',Ee it s.heap h'->Q none {s with heap:=h'}):
  aM (ba prog w) A (iP (.ref it)) Q E s:=by
 obtain⟨o,aR,_,hj⟩:=hd;have T0:s.TypeIs (.ref it) "dict_itemiterator":=⟨_,hit,rfl⟩
 have tm:¬((dA d==dY)=true):=fz;have own:D0 "dict_itemiterator"=true:=by decide
 unfold iP;refine au (yZ (y0 (name:=j_ "__next__") T0 F.slot_dict_itemiterator_next (kO F.slot_dict_itemiterator_next T0 F.entry_dict_itemiterator_next ?_ (F.args_dict_itemiterator_next_1 _))));refine au (a9 (au (au ?_)))
 first
 |refine au (Q3 T0 (a9 (au (rW hit rfl ?_))))
 |refine au (Q5 T0 (a9 (au (rW hit rfl ?_))))
 simp only[own,if_true];change aM _ _ (ite ((dA d==dY)=true) _ _) _ _ _;rw[aJ tm];refine au (a9 (au (y1 aR hj ?_)));rw[aJ (by simp)];refine au (a9 (au (DD aR hj ?_)));rw[aJ (by simp)];refine a9 ?_;simp only[show¬((i:Int)<0)from by omega,if_false,lX,tU ai];refine au ?_
 first
 |refine au (Q3 T0 (a9 ?_))
 |refine au (Q5 T0 (a9 ?_))
 change aM _ _ (tG (.ref it) 2 dY >>=_) _ _ s;refine au (rX hit rfl (by simp) ?_);change aM _ _ (Cz (.type "StopIteration") [] >>=_) _ _ _;refine au ?_;simp only[Cz,newTuple];refine au (nh ?_ (by size_fits));refine au (m:=Bo _ _) (y2 (a:=dY) (by first|rfl|(simp only[Bo];rfl)) (nh ?_ (by size_fits)));have iK:A.in1.handled=none:=dy;simp only[PN];refine au (Û ?_);rw[iK];refine au (a9 (à ?_));refine au (H4 (b:=true) (T:="StopIteration") ⟨_,ff _ rfl,rfl⟩ YM ?_);exact a9 (dk _ (zM (zM (Ef (ow ..)) _) _))
theorem abr{v:Addr}{Q:cx}(bI:s.heap.IsItemsView v d)(hd:kS s.heap d es ep)(dk:Q (.ref s.heap.objs.size) {s with heap:=s.heap.push {cls:=.type "dict_itemiterator",data:=.fields #[.none,.bool false,.ref d,.int 0 0,.int es.size 0,.int ep 0,.none,.none]}}):aM (ba prog w) A (vF (.ref v)) Q E s:=by
 obtain⟨kI,ag,_,jQ⟩:=id bI;obtain⟨o,aR,_,hj⟩:=hd;have tm:¬((dA d==dY)=true):=fz;have own:D0 "dict_itemiterator"=true:=by decide
 have Au:=bI.typeIs;refine H5 Au F.slot_dict_items_iter (kO F.slot_dict_items_iter Au F.entry_dict_items_iter ?_ (F.args_dict_items_iter_1 _));unfold Builtin.«dict_items.__iter__» aqs;refine au (a9 (au ?_));refine au (QX ag jQ (x:=.ref d) rfl (a9 (au ?_)));unfold aqt;refine au (y1 aR hj (au (DD aR hj ?_)));simp only[own,if_true];refine nh ?_ (by simp only[pv,sizeOk,Ď,e8,ek,hH,sj];omega);refine a9 ⟨_,rfl,"dict_itemiterator",_,⟨_,ff _ rfl,rfl⟩,F.slot_dict_itemiterator_next.lookup,?_⟩;simpa[h3,Ď]using dk
theorem Ĩ{Q:cx}(hs:(d==j4)=false)(hd:kS s.heap d es ep)(dk:Q (.ref s.heap.objs.size) {s with heap:=s.heap.push {cls:=.type "dict_items",data:=.fields #[.ref d]}}):
  aM (ba prog w) A (call (.builtin "dict.items") ([.ref d]:b_)) Q E s:=by
 obtain⟨o,aR,ao,hj⟩:=hd;have T0:s.TypeIs (.ref d) "dict":=⟨o,aR,ao.1⟩
 refine kO F.slot_dict_items T0 F.entry_dict_items ?_ (F.args_dict_items_1 _);unfold Builtin.«dict.items»;refine au ?_;unfold aqq;refine au (apI T0 ?_);show aM _ _ (pure d) _ _ s;refine a9 ?_;change aM _ _ (It d >>=_) _ _ s;unfold It;rw[aJ (by rw[hs];exact fz)];exact au (a9 (au (nh (a9 ⟨_,rfl,dk⟩))))
end
section
variable{X:bB}{pins:cG}{σ:ar.St}{H:aa}{s:aF}{a:Addr}{u u':d4}
theorem Im(I:Inv X pins σ H s)(aH:H a=some u)(gB:∀xs,u≠.tup xs)(ew:∀y,u≠.own y)(new:er X.prog X.w (upd H a u') s.heap a u')(f1:∀xs,X.lV a≠some (.tup xs))(f2:∀o v,X.lV a≠some (.ee o v))(dB:∀ps,X.lV a≠some (.pz ps)):Inv X pins σ (upd H a u') s:=by
 have other:∀{b:Addr},H b=none->upd H a u' b=none:=λ{b}e=>by rw[aL (λz=>by rw[z,aH]at e;cases e)];exact e
 refine⟨I.ok,I.os,I.bare,⟨I.base.keep,I.base.slot,λb o e n ao=>other (I.base.free b o e n ao),I.base.there,λb xs e=>?_,λb o v e=>?_,λb ps e=>?_⟩,I.loc,I.cell,other I.free,λx c e=>other (I.l9 x c e),λp aP=>?_,λb o e=>?_,I.len⟩
 .rw[aL (λz=>by rw[z]at e;exact f1 xs e)];exact I.base.ir b xs e
 .rw[aL (λz=>by rw[z]at e;exact f2 o v e)];exact I.base.jt b o v e
 .rw[aL (λz=>by rw[z]at e;exact dB ps e)];exact I.base.j5 b ps e
 .obtain⟨ag,af,aV,bU,dq⟩:=I.pin p aP;exact⟨ag,other af,aV,bU,dq⟩
 .by_cases U:b=a
  .subst U;rw[a8]at e;cases e;exact new
  .rw[aL U]at e;refine(I.bo b o e).oj (λc v _ q=>q) (λc q=>?_) λc xs q=>?_
   .rw[aL (λz=>by rw[z,aH]at q;exact ew _ (gZ q))];exact q
   .rw[aL (λz=>by rw[z,aH]at q;exact gB _ (gZ q))];exact q
inductive ain(b3:TE)(σ:ar.St)(H:aa)(Q:bl):Prop where
 |mk (a:_) (kvs:_) (b0:H a=some (.c4 kvs)) (bH:∀o,b3 σ (upd H a (.ee o (.c4 kvs))) λv H'=>H' a=some (.ee o (.c4 kvs))/\Q v (upd H' a (.c4 kvs)))
noncomputable def aoQ(b3:TE):TE:=λσ H Q=>ain b3 σ H Q
theorem ag2{e:Expr}{b3:TE}(he:bN X e b3):bN X e (aoQ b3):=by
 intro pins s σ H Q I h;obtain⟨a,kvs,aH,h⟩:=h;have f1:∀xs,X.lV a≠some (.tup xs):=λxs z=>by have:=I.base.ir a xs z;rw[aH]at this;cases this
 have f2:∀o v,X.lV a≠some (.ee o v):=λo v z=>by have:=I.base.jt a o v z;rw[aH]at this;cases this
 have dB:∀ps,X.lV a≠some (.pz ps):=λps z=>by obtain⟨m,e⟩:=I.base.j5 a ps z;rw[aH]at e;cases e
 obtain⟨z,y,xs,r,o,es,ep,e,c⟩:=I.bo a _ aH;have anQ:∀{H':aa}{b:Addr}{ys:a'},H b=some (.tup ys)->upd H a (.ee o (.c4 kvs)) b=some (.tup ys):=λ{H' b ys}q=>by rw[aL (λw=>by rw[w,aH]at q;cases q)];exact q
 have aX:Inv X pins σ (upd H a (.ee o (.c4 kvs))) s:=Im I aH (by intro _ w;cases w) (by intro _ w;cases w) ⟨e,z,y,xs,bX.iN r λp q w=>⟨w.1,anQ (H':=H) w.2.1,w.2.2⟩,o,es,ep,e,c⟩ f1 f2 dB;refine bS (he pins s σ _ _ aX (h o)) λv s1⟨x,H1,bT,cg,mb,bq⟩=>?_;obtain⟨ax,b0,qT,ap1,b',kI,ie,LZ,az,eE⟩:=bT.bo a _ mb;refine⟨x,upd H1 a (.c4 kvs),Im bT (u':=.c4 kvs) mb (by intro _ w;cases w) (by intro _ w;cases w) ⟨b0,qT,ap1,bX.iN b' λp q w=>⟨w.1,?_,w.2.2⟩,kI,ie,LZ,az,eE⟩ f1 f2 dB,cg,bq⟩;have gO:=w.2.1;rw[aL (λt=>by rw[t,mb]at gO;cases gO)];exact gO
end
noncomputable def Jg(a:Addr)(o:Obj)(kvs:List (List br×V)):e7:=
 ⟨λi H=>H a=some (.ee o (.c4 kvs))/\i<kvs.length,λi H v H'=>∃p b k x,H p=none/\v=.ref p/\kvs[i]?=some (k,x)/\H b=some (.tup (k.map di))/\H'=upd H p (.tup [.ref b,x]),λi H=>H a=some (.ee o (.c4 kvs))/\kvs.length<=i⟩
theorem Rx{P:bP}{w:bt}{H:aa}{h:Heap}{a:Addr}{o:Obj}{kvs:List (List br×V)}(ok:fC P w H h)(aH:H a=some (.ee o (.c4 kvs))):h.get? a=some o/\(a==j4)=false/\o.ExactDict/\∃es ep,o.data=.dict es ep/\es.size=kvs.length/\
  ∀(i:Nat)(k:List br)(x:V),kvs[i]?=some (k,x)->∃b v,(∃ai:i<es.size,es[i].key=.ref b/\es[i].val=v)/\H b=some (.tup (k.map di))/\RelV x v:=by
 obtain⟨cI,_,y,xs,r,cQ,es,ep,ax,ao,hd,he,_⟩:=ok a _ aH;rw[cI]at ax;cases ax;have gh:kvs.length=xs.length:=h8 r;have fy:es.size=xs.length:=by have:=e9 uf he;simpa using this
 refine⟨cI,y,ao,es,ep,hd,by omega,λi k x ai=>?_⟩;have lt:i<kvs.length:=(gj.mp ai).1;have pick:∀{l:List (List br×V)}{m:List (List br×Addr×Value)}{j:Nat}{p:List br×V},bX (λ(p:List br×V)(q:List br×Addr×Value)=>p.1=q.1/\H q.2.1=some (.tup (p.1.map di))/\RelV p.2 q.2.2) l m->l[j]?=some p->∃q,m[j]?=some q/\p.1=q.1/\H q.2.1=some (.tup (p.1.map di))/\RelV p.2 q.2.2:=λ{l m j p}R=>by
  induction R generalizing j with
  |nil=>intro h;simp at h
  |cons a t bk=>
   cases j with
   |zero=>intro h;simp at h;subst h;exact⟨_,rfl,a⟩
   |succ j=>intro h;simp at h;simpa using bk h
 obtain⟨q,bp,_,af,aV⟩:=pick r ai;have sY:i<es.size:=by omega
 have cq:es[i]=WJ (tM (hx P w)) q:=by
  have et:es.toList[i]?=some (WJ (tM (hx P w)) q):=by rw[he,cM,bp];rfl
  have g6:es.toList[i]?=some es[i]:=by simp[sY]
  rw[g6]at et;exact gZ et
 exact⟨q.2.1,q.2.2,⟨sY,by rw[cq];rfl,by rw[cq];rfl⟩,af,aV⟩
theorem ĩ{P:bP}{w:bt}{K:aY}{elts:gm}{k:Nat}{pos:Pos}{o:Obj}{kvs:List (List br×V)}{es:Array r_}{ep:Nat}(a it:Addr)(hd:o.data=.dict es ep):
  Turn P w K (.Tuple elts k pos) (Jg a o kvs) [it] it (λi h=>∃x y,ua h it a i es.size ep x y)where
 mem:=by simp
 obj:=λi h st b U=>by
  obtain⟨x,y,he⟩:=st;have q:b=it:=by simpa using U
  subst q;exact⟨_,he,λv z=>by
   have dz:SO _=SN v:=z;cases dz⟩
 keep:=λi h h' st cm=>by obtain⟨x,y,he⟩:=st;exact⟨x,y,cm it (by simp) _ he⟩
 item:=by
  intro X f' hw fa aC i pins s σ H E I hf st bx;subst f' hw fa;obtain⟨x0,ap3,he⟩:=st;obtain⟨aH,ai⟩:=bx;obtain⟨go,_,bg,js,ra,hP,gs,ge⟩:=Rx I.bo aH;rw[hd]at hP;cases hP;obtain⟨n3,uP⟩:∃q,kvs[i]?=some q:=⟨_,ct ai⟩
  obtain⟨b,v,⟨sY,eS,ev⟩,U,cg⟩:=ge i n3.1 n3.2 uP;obtain⟨f0,f1,f2,dB,f4,e_⟩:=hf it (by simp);refine aes he ⟨o,go,bg,hd⟩ sY λag aR i6 aE=>⟨_,rfl,?_⟩
  refine wpAny_letOwnedTupleGo_items aR λaf BC km=>?_;have km:kx it ag af:=km;rw[eS,ev]at i6;have aD:H s.heap.objs.size=none:=I.fresh;have lit:it<s.heap.objs.size:=dm he;have ph:∀c u,c∉[it]->s.heap.get? c=some u->af.get? c=some u:=λc u jX q=>by have u0:c≠it:=λz=>jX (by simp[z]);exact(km.2 c u0).trans (aE c u u0 q)
  have Mz:af.get? s.heap.objs.size=some {cls:=.type "tuple",data:=.seq #[.ref b,v]}:=(km.2 _ (uq lit)).trans i6;have pf:∀c q,H c=some q->c∉[it]:=λc q jX z=>by
   have dz:c=it:=by simpa using z
   subst dz;rw[f0]at jX;cases jX
  refine⟨.ref s.heap.objs.size,upd H s.heap.objs.size (.tup [.ref b,n3.2]),?_,rfl,⟨s.heap.objs.size,b,n3.1,n3.2,aD,rfl,uP,U,rfl⟩,⟨_,_,BC⟩,λc jX=>?_⟩
  .show Inv X pins σ (upd H s.heap.objs.size (.tup [.ref b,n3.2])) {s with heap:=af,gens:=s.gens,drawn:=s.drawn,toks:=s.toks};refine I.step (g':=s.gens) (d':=s.drawn) (t':=s.toks) (h':=af) (ch:=[it]) (λc jX=>?_) (λc u _ _ jX q _=>ph c u jX q) (λc u _ _ jX q _=>⟨u.slots,ph c u jX q⟩) (λc u jX q n=>?_)
    (λc u jX q=>⟨u,ph c u jX q⟩) (λc ys q=>?_) (λc u v q=>?_) (λc ps q=>⟨#[],?_⟩) (λm hm=>?_) (λc u q=>?_) I.bare
   .have dz:c=it:=by simpa using jX
    subst dz;exact⟨dB,f1,f4,e_⟩
   .rw[aL (dP (dm q))];exact n
   .rw[aL (dn q aD)];exact q
   .rw[aL (dn q aD)];exact q
   .rw[aL (dn q aD),q];simp
   .obtain⟨u,sM,akW,cJ,r⟩:=hm;refine⟨u,sM,akW,ph _ u (λz=>?_) cJ,r⟩;exact f1 (by simpa using z:X.env.locals=it).symm
   .by_cases F3:c=s.heap.objs.size
    .subst F3;rw[a8]at q;cases q;exact⟨(by show 2<=sizeLine;decide),[.ref b,v],.cons rfl (.cons cg .nil),_,Mz,rfl,_,rfl⟩
    .rw[aL F3]at q;refine(I.bo c u q).oj (λdp y xB z=>ph dp y ?_ z) (λdp z=>by rw[aL (dn z aD)];exact z) λdp ys z=>by rw[aL (dn z aD)];exact z
     rcases xB with rfl|xB
     .exact pf _ _ q
     .exact pf _ _ xB
  .have dz:c=it:=by simpa using jX
   subst dz;rw[aL (dP lit)];exact f0
 done:=by intro X f' hw fa aC i pins s σ H E I hf st bx;subst f' hw fa;obtain⟨x0,ap3,he⟩:=st;obtain⟨aH,ai⟩:=bx;obtain⟨go,_,bg,js,ra,hP,gs,ge⟩:=Rx I.bo aH;rw[hd]at hP;cases hP;obtain⟨f0,f1,f2,dB,f4,e_⟩:=hf it (by simp);exact aet (I.ok.hd aC) he ⟨o,go,bg,hd⟩ (by omega) λh' dN=>⟨rfl,I.turned (t':=s.toks) (λb o U e=>dN b o U e) f0 f1 dB f4 e_⟩
 self:=λ_ _ _ _ _ st h=>by obtain⟨x,y,he⟩:=st;exact PySem.W.kcp_self he h
section
variable{X:bB}{elts:gm}{k:Nat}{Dv:Pos}
noncomputable def afm(eg:TE):TI:=λσ H R=>eg σ H λx H1=>∃a o kvs,x=.ref a/\H1 a=some (.ee o (.c4 kvs))/\R (Jg a o kvs) H1
theorem ab0{o:Expr}{eg:TE}{fE fF:Pos}(aR:bN X o eg)(MH:AA o "items" X.env (eval o X.env)=eval o X.env:=by rfl)(M7:(fE.endLine==fF.line)=true:=by rfl):
  my X (.Tuple elts k Dv) (.Call (.Attribute o "items" fE) [] [] fF) (afm eg):=by
 intro pins s σ H R I h;refine wpAny_Call_method0_late MH M7 (bS (aR pins s σ H _ I h) λv s1⟨x,H1,aX,b',a,ob,kvs,ex,aH,bq⟩=>?_);subst ex;cases b';obtain⟨go,Ml,bg,es,ep,hP,gs,ge⟩:=Rx aX.bo aH;refine⟨"dict","dict.items",Vc,PySem.F.slot_dict_items,PySem.F.type_dict_items,⟨ob,go,bg.1⟩,λb e=>?_,IA rfl (PySem.evalArgs_none ?_)⟩
 .cases e;exact⟨ob,go,bg.2.1⟩
 .refine Ĩ Ml ⟨ob,go,bg,hP⟩ ?_;have k1:∀b o,s1.heap.get? b=some o->(s1.heap.push {cls:=.type "dict_items",data:=.fields #[.ref a]}).get? b=some o:=λb o e=>c6 _ e;refine abr (d:=a) (es:=es) (ep:=ep) ⟨_,ff _ rfl,rfl,rfl⟩ ⟨ob,k1 _ _ go,bg,hP⟩ ?_;have bT:Inv X pins σ H1 {s1 with heap:=s1.heap.push {cls:=.type "dict_items",data:=.fields #[.ref a]}}:=aX.kept (t':=s1.toks) k1;refine⟨(s1.heap.push {cls:=.type "dict_items",data:=.fields #[.ref a]}).objs.size,[(s1.heap.push {cls:=.type "dict_items",data:=.fields #[.ref a]}).objs.size],_,_,H1,rfl,bT.kept (t':=s1.toks) λb o e=>c6 _ e,ĩ a _ hP,⟨.none,.none,ff _ rfl⟩,λb U=>?_,bq⟩;have z:b=(s1.heap.push {cls:=.type "dict_items",data:=.fields #[.ref a]}).objs.size:=by simpa using U
  subst z;exact bT.rf (b1 _) (bT.bo.fresh (b1 _))
end
section
variable{prog:bP}{w:bt}{A:cU}{E:cx}{s:aF}{it d:Addr}{i ep:Nat}{es:Array r_}
theorem Uu{Q:Option Value->aF->Prop}(hit:s.heap.IsKeyIter it d i es.size ep)(hd:kS s.heap d es ep)(ai:i<es.size)(dk:∀h',h'.IsKeyIter it d (i+1) es.size ep->kx it s.heap h'->Q (some es[i].key) {s with heap:=h'}):aM (ba prog w) A (iP (.ref it)) Q E s:=by
 obtain⟨yr,kl,u0,jx⟩:=id hit;obtain⟨o,aR,_,hj⟩:=hd;have T0:=hit.typeIs;have tm:¬((dA d==dY)=true):=fz;have own:D0 "dict_keyiterator"=false:=by decide
 unfold iP;refine au (yZ (y0 (name:=j_ "__next__") T0 F.slot_dict_keyiterator_next (kO F.slot_dict_keyiterator_next T0 F.entry_dict_keyiterator_next ?_ (F.args_dict_keyiterator_next_1 _))));refine au (a9 (au (au ?_)))
 first
 |refine au (Q4 T0 (a9 (au (rW kl jx ?_))))
 |refine au (Q6 T0 (a9 (au (rW kl jx ?_))))
 simp only[own,tW,if_false];change aM _ _ (ite ((dA d==dY)=true) _ _) _ _ s;rw[aJ tm];refine au (a9 (au (y1 aR hj ?_)));rw[aJ (by simp)];refine au (a9 (au (DD aR hj ?_)));rw[aJ (by simp)];refine a9 ?_;simp only[show¬((i:Int)<0)from by omega,if_false,lX,qY ai];refine au ?_
 first
 |refine au (Q4 T0 (a9 (au (Ü T0 ?_))))
 |refine au (Q6 T0 (a9 (au (Ü T0 ?_))))
 change aM _ _ (tG (.ref it) 1 (h3 ((i:Int)+1)) >>=_) _ _ s;refine au (rX kl jx (by simp) ?_);have next:(s.heap.update it (q6 (·.setIfInBounds 1 (h3 ((i:Int)+1))))).IsKeyIter it d (i+1) es.size ep:=
  ⟨_,mu _ kl (Af (oE jx _)),(JL ..).trans u0,by simp[oE jx,h3]⟩
 refine au (iv (au (Ü (s:={s with heap:=s.heap.update it (q6 (·.setIfInBounds 1 (h3 ((i:Int)+1))))}) next.typeIs ?_)));exact a9 (a9 ⟨_,rfl,a9 (dk _ next (ow ..))⟩)
theorem Tr{Q:Option Value->aF->Prop}(dy:A.handled=none)(hit:s.heap.IsKeyIter it d i es.size ep)(hd:kS s.heap d es ep)(ai:es.size<=i)(dk:∀h',Ee it s.heap h'->Q none {s with heap:=h'}):
  aM (ba prog w) A (iP (dA it)) Q E s:=by
 obtain⟨yr,kl,u0,jx⟩:=id hit;obtain⟨o,aR,_,hj⟩:=hd;have T0:=hit.typeIs;have tm:¬((dA d==dY)=true):=fz;have own:D0 "dict_keyiterator"=false:=by decide
 unfold iP;refine au (yZ (y0 (name:=j_ "__next__") T0 F.slot_dict_keyiterator_next (kO F.slot_dict_keyiterator_next T0 F.entry_dict_keyiterator_next ?_ (F.args_dict_keyiterator_next_1 _))));refine au (a9 (au (au ?_)))
 first
 |refine au (Q4 T0 (a9 (au (rW kl jx ?_))))
 |refine au (Q6 T0 (a9 (au (rW kl jx ?_))))
 simp only[own,tW,if_false];change aM _ _ (ite ((dA d==dY)=true) _ _) _ _ s;rw[aJ tm];refine au (a9 (au (y1 aR hj ?_)));rw[aJ (by simp)];refine au (a9 (au (DD aR hj ?_)));rw[aJ (by simp)];refine a9 ?_;simp only[show¬((i:Int)<0)from by omega,if_false,lX,tU ai];refine au ?_
 first
 |refine au (Q4 T0 (a9 ?_))
 |refine au (Q6 T0 (a9 ?_))
 change aM _ _ (tG (.ref it) 0 dY >>=_) _ _ s;refine au (rX kl jx (by simp) ?_);change aM _ _ (Cz (.type "StopIteration") [] >>=_) _ _ _;refine au ?_;simp only[Cz,newTuple];refine au (nh ?_ (by size_fits));refine au (m:=Bo _ _) (y2 (a:=dY) (by first|rfl|(simp only[Bo];rfl)) (nh ?_ (by size_fits)));have iK:A.in1.handled=none:=dy;simp only[PN];refine au (Û ?_);rw[iK];refine au (a9 (à ?_));refine au (H4 (b:=true) (T:="StopIteration") ⟨_,ff _ rfl,rfl⟩ YM ?_);exact a9 (dk _ (zM (zM (Ef (ow ..)) _) _))
theorem Ts{Q:cx}(hs:(d==j4)=false)(hd:kS s.heap d es ep)(dk:Q (.ref s.heap.objs.size) {s with heap:=s.heap.push {cls:=.type "dict_keyiterator",data:=.fields #[.ref d,.int 0 0,.int es.size 0,.int ep 0]}}):aM (ba prog w) A (vF (.ref d)) Q E s:=by
 obtain⟨o,aR,ao,hj⟩:=hd;have T0:s.TypeIs (.ref d) "dict":=⟨o,aR,ao.1⟩
 refine H5 T0 F.slot_dict_iter (kO F.slot_dict_iter T0 F.entry_dict_iter ?_ (F.args_dict_iter_1 _));unfold Builtin.«dict.__iter__» aqp;refine au (au (apI T0 ?_));change aM _ _ (pure (dA d)) _ _ s;refine a9 ?_;change aM _ _ (It d >>=_) _ _ s;unfold It;rw[aJ (by rw[hs];exact fz)];refine au (a9 (au (y1 aR hj (au (DD aR hj ?_)))));refine au (nh ?_);refine a9 ⟨_,rfl,"dict_keyiterator",_,⟨_,ff _ rfl,rfl⟩,F.slot_dict_keyiterator_next.lookup,?_⟩;simpa[h3]using dk
end
section
variable{X:bB}{o e f:Expr}{eg ty tN:TE}{fE fF:Pos}
noncomputable def afn(eg ty tN:TE):TE:=λσ H Q=>eg σ H λx H1=>∃a,x=.ref a/\El H1 a/\ty σ H1 λy aj=>tN σ aj λz bL=>∃kvs k,y=di k/\bL a=some (.cD kvs)/\kvs.length<sizeLine/\
 (∀v,cW kvs k=some v->Q v bL)/\(cW kvs k=none->Q z (upd bL a (.cD (ez kvs k z))))
theorem ab1(aR:bN X o eg)(he:bN X e ty)(hf:bN X f tN)(m:M2 X o "setdefault" fE e f fF):bN X (.Call (.Attribute o "setdefault" fE) [e,f] [] fF) (afn eg ty tN):=by
 intro pins s σ H Q I h;refine apz m.base m.c7 m.line Vc adG PySem.F.type_dict_setdefault (bS (aR pins s σ H _ I h) λu s1⟨x,H1,aX,bC,a,ex,d,bq⟩=>?_);subst ex;obtain rfl:u=dA a:=bC;obtain⟨t1,fQ,_⟩:=T1 aX d;refine⟨t1,fQ,?_⟩;rw[m.trees];refine IA rfl (IB (IC (bS (he pins s1 σ H1 _ aX bq) λjZ s2⟨y,aj,bT,bW,cj⟩=>IC (bS (hf pins s2 σ aj _ bT cj) λala s3⟨z,bL,c_,ZU,kvs,k,d2,bw,lk,q,dj⟩=>SG ?_))));subst d2;obtain⟨DV,hs,vs,rel,dd⟩:=D2 c_.bo bw;have hz:vs.length<=sizeLine:=by rw[<-rel.length];exact DV
 have r0:=rel.val k;refine LD adG dd.typeIs PySem.F.entry_dict_setdefault (PySem.F.args_dict_setdefault_3 _ _ _) (kt_meets_setdefault (hx X.prog X.w) a (vR bW) hs ala) ⟨vs,dd,hz,λv bI=>?_,λaD h' oN s_=>?_⟩
 .rw[bI]at r0;cases ev:cW kvs k with
  |none=>rw[ev]at r0;exact r0.elim
  |some v1=>
   rw[ev]at r0;exact⟨v1,bL,c_.tok _,r0,q v1 ev⟩
 .have v0:cW kvs k=none:=by
   rw[aD]at r0;cases ev:cW kvs k with
   |none=>rfl
   |some v=>rw[ev]at r0;exact r0.elim
  have aq:(ez kvs k z).length<=sizeLine:=by have:=BU kvs k z;omega
  have BC:∃q,h'.get? a=some q:=let⟨q,_,_,bp,_⟩:=oN;⟨q,bp⟩
  exact⟨z,_,Hu (ob:=.cD (ez kvs k z)) c_ (by rw[bw];exact mD) s_ BC (Iz aq hs (rel.put k ZU) oN),ZU,dj v0⟩
end
section
variable{prog:bP}{w:bt}{A:cU}{E:cx}{s:aF}{d:Addr}{ep:Nat}{es:Array r_}
theorem kS.lt{h:Heap}(x:kS h d es ep):d<h.objs.size:=let⟨_,aR,_⟩:=x;dm aR
theorem kS.at'{h h':Heap}(x:kS h d es ep)(k:∀o,h.get? d=some o->h'.get? d=some o):kS h' d es ep:=let⟨o,aR,r⟩:=x;⟨o,k o aR,r⟩
theorem Ī(dy:A.handled=none)(I:Addr)(nT:d≠I):Walks prog w A I [I,d] [I] es.size (λi v=>∃e,es[i]?=some e/\v=e.key) (λi h=>h.IsKeyIter I d i es.size ep/\kS h d es ep)where
 sub:=λb U=>by simp at U;simp[U]
 frame:=λ_ _ _ st aE=>⟨st.1.at λo e=>aE I (by simp) o e,st.2.at' λo e=>aE d (by simp) o e⟩
 item:=λi s Q E ai st dk=>by refine Uu st.1 st.2 ai λh' aN b5=>dk _ h' s.toks ⟨es[i],by simp[ai],rfl⟩ ⟨aN,st.2.at' λo e=>(b5.2 d nT).trans e⟩ λb o U e=>(b5.2 b (λz=>U (by simp[z]))).trans e
 done:=λs Q E st dk=>Tr dy st.1 st.2 (b1 _) λh' dN=>dk h' s.toks λb o U e=>dN b o (λz=>U (by simp[z])) e
 self:=λ_ _ _ _ st dk=>wpAny_pyIter_keyiter st.1 dk
theorem ab5(lo:(d==j4)=false):KdlSrc prog w "dict" d d es.size (λi v=>∃e,es[i]?=some e/\v=e.key) (λh=>kS h d es ep)where
 type:=λ_ hm=>let⟨o,aR,ao,_⟩:=hm;⟨o,aR,ao.1⟩
 there:=λ_ hm=>⟨hm.lt,hm.lt⟩
 keep:=λ_ _ hm aE=>hm.at' λo e=>aE d (.inl rfl) o e
 notList:=by decide
 notTuple:=by decide
 hint:=λ_ _ _ _ hm bp=>kdl_hint_dict (let⟨o,aR,ao,_⟩:=hm;⟨o,aR,ao.1⟩) bp
 iter:=λ_ s dy hm=>⟨_,_,(λ_ _ bp=>Ts lo hm bp),Ī dy _ (dP hm.lt),⟨⟨_,ff _ rfl,rfl,rfl⟩,hm.at' λo e=>c6 _ e⟩⟩
theorem ī{vs:b_}{κ:ny}{lt:hg}{Q:cx}(lo:(d==j4)=false)(dy:A.handled=none)(hm:kS s.heap d es ep)(bI:vs=es.toList.map (·.key))(qg:vs.length<64)(aE:2<=vs.length->∀s1:aF,i9 s.heap s1.heap->∀Q:ny->aF->Prop,Q κ s1->aM (ba prog w) A.in1.in1 (Ca vs.toArray) Q (λ_ _=>False) s1)(aH:2<=vs.length->∀s1:aF,i9 s.heap s1.heap->∀i j C,i<vs.length->j<vs.length->C (lt i j) s1->rA prog w A.in1.in1 κ vs i j C s1)(h:∀ag D h' t c,i9 s.heap ag->ag.objs.size<=D->i9 ag h'->h'.get? D=some (fe "list" (lZ (fj dY lt vs)) c)->Q (.ref D) {s with heap:=h',toks:=t}):
  aM (ba prog w) A (call (.builtin "sorted") ([.ref d]:b_)) Q E s:=by
 have big:vs.length<=sizeLine:=by rw[pv];omega
 have sY:es.size=vs.length:=by rw[bI,bh,kQ]
 refine D1 Oc Pm LY (Lo (.ref d)) ?_;unfold Builtin.«sorted»;refine au (m:=LG "sorted" 1 1 _) (a9 ?_);refine au (kdu_collect (A:=A.in1) (ab5 (ep:=ep) (es:=es) lo) dy hm (by rw[sY];exact big) λag aG acc fX oZ=>?_);have bw:acc.toList=vs:=by
  apply Et;intro j;rw[bI,cM];by_cases aQ:j<es.size
  .have BK:j<acc.size:=by rw[oZ.1];exact aQ
   obtain⟨e,ax,az⟩:=oZ.2 j acc[j] (by simp[BK]);rw[qZ,qZ,ax,qY BK];exact e9 some az
  .rw[qZ,qZ,tU (by rw[oZ.1];omega),tU (by omega)];rfl
 rw[bw];refine au (DH ?_ big);have ck:(ag.push (fe "list" vs.toArray 0)).get? ag.objs.size=some (fe "list" vs.toArray 0):=ff _ rfl;have dJ:i9 s.heap (ag.push (fe "list" vs.toArray 0)):=λb o q=>c6 _ (fX b o q);have pG:∀h',mh ag.objs.size (ag.push (fe "list" vs.toArray 0)) h'->i9 s.heap h':=λh' x b o q=>x b o (dP (dm (fX b o q))) (dJ b o q);have vY:∀h',mh ag.objs.size (ag.push (fe "list" vs.toArray 0)) h'->i9 ag h':=λh' x b o q=>x b o (dP (dm q)) (c6 _ q);refine au (iv (kO Qd ⟨_,ck,rfl⟩ LX ?_ (Ln _)));refine Rw (s:={s with heap:=ag.push (fe "list" vs.toArray 0),toks:=aG}) (κ:=κ) (lt:=lt) ck qg (λaf s1 x=>aE af s1 (pG _ x)) (λaf s1 x=>aH af s1 (pG _ x)) λh' c x aC=>?_;exact⟨_,rfl,a9 ⟨_,rfl,h ag _ h' _ c fX (b1 _) (vY _ x) aC⟩⟩
end
end cK
namespace fR
open PySem ar cK de
noncomputable abbrev gw:=Int×Nat
abbrev kb:= List (gw×List Nat)
noncomputable def pj:de.fv:=⟨0,0,0,0⟩
noncomputable def pD(hs:bD)(ds:b7)(r:Nat):Str:=S (hs.getD (ds.getD r pj).a [])
noncomputable def lE(hs:bD)(ds:b7)(r:Nat):Str:=S (hs.getD (ds.getD r pj).b [])
noncomputable def rO(ds:b7)(r:Nat):Int:=(ds.getD r pj).t
noncomputable def kL(ds:b7)(r:Nat):Int:=(ds.getD r pj).m
noncomputable def stepK(hs:bD)(ds:b7)(k:gw):Step:=⟨k.1,some k.2,lE hs ds k.2,k.1+rO ds k.2⟩
noncomputable def iG(st:Step)(ns:bj)(ak:dh):List (List Step):=ak.mapIdx λi ss=>if i∈ns then ss++[st]else ss
theorem Cb(st:Step)(ns:bj)(ak:dh):(iG st ns ak).length=ak.length:=by unfold iG;rw[List.length_mapIdx]
theorem va(st:Step)(ns:bj)(ak:dh)(i:Nat):(iG st ns ak)[i]?=(ak[i]?).map λss=>if i∈ns then ss++[st]else ss:=by unfold iG;rw[List.getElem?_mapIdx]
theorem PE(st:Step)(ak:dh):iG st [] ak=ak:=by apply Et;intro i;rw[va];simp
theorem O_(st:Step){ns:bj}{n:Nat}(h:n∉ns){ak:dh}{ss:List Step}(e:ak[n]?=some ss):iG st (ns++[n]) ak=(iG st ns ak).set n (ss++[st]):=by
 apply Et;intro i;rw[va,List.getElem?_set,va,Cb];by_cases ai:n=i
 .subst ai;have aq:=(gj.mp e).1;rw[aO rfl,aO aq,e];simp
 .rw[aJ ai];have:(i∈ns++[n])↔i∈ns:=by rw[fY,fD];exact⟨λz=>z.elim id λw=>bE w.symm ai,.inl⟩
  simp only[this]
noncomputable def mask(H:aa)(ts:b4):aa:=λb=>if b∈ts then none else H b
theorem ry{H:aa}{ts:b4}{b:Addr}{o:d4}(e:H b=some o)(n:b∉ts):mask H ts b=some o:=by unfold mask;rw[aJ n];exact e
theorem aeu{H:aa}{ts:b4}{b:Addr}(h:b∈ts):mask H ts b=none:=aO h
theorem aab(H:aa)(ts:b4):aT (mask H ts) H:=λb o e=>by
 unfold mask at e;split at e
 .cases e
 .exact e
noncomputable def hY(H:aa)(a:Addr)(b:gw×List Nat):Prop:=∃c,H a=some (.tup [.int b.1.1,.int b.1.2,.ref c])/\H c=some (.tup (b.2.map λn:Nat=>V.int n))
theorem hY.same{H H':aa}{a:Addr}{b:gw×List Nat}(h:hY H a b)(aI:aT H H'):hY H' a b:=let⟨c,ag,af⟩:=h;⟨c,aI _ _ ag,aI _ _ af⟩
structure n5(C:Addr)(H:aa)(x n g st:Addr)(gs:bR)(ls:b4):Prop where
 ins:∃av,H x=some (.ins C av (Ic n g st))
 goals:H g=some (.lst (gs.map V.str))
 steps:H st=some (.lst (aW ls))
theorem n5.same{C:Addr}{H H':aa}{x n g st:Addr}{gs:bR}{ls:b4}(h:n5 C H x n g st gs ls)(aI:aT H H'):n5 C H' x n g st gs ls:=
 let⟨av,e⟩:=h.ins;⟨⟨av,aI _ _ e⟩,aI _ _ h.goals,aI _ _ h.steps⟩
theorem n5.at_{C:Addr}{H:aa}{x n g st:Addr}{gs:bR}{ls:b4}{ak:dh}(h:n5 C H x n g st gs ls)(e:bX (gT H) ls ak):WalkAt C H x n g st gs ls ak:=⟨h.ins,h.goals,h.steps,e⟩
theorem gT.same{H H':aa}{l:Addr}{ss:List Step}(h:gT H l ss)(aI:aT H H'):gT H' l ss:=let⟨ts,a,b⟩:=h;⟨ts,aI _ _ a,b.same aI⟩
theorem Ç{H H':aa}{ls:b4}{ak:dh}(h:bX (gT H) ls ak)(aI:aT H H'):bX (gT H') ls ak:=bX.iN h λ_ _ e=>e.same aI
theorem WalkAt.same{C:Addr}{H H':aa}{x n g st:Addr}{gs:bR}{ls:b4}{ak:dh}(h:WalkAt C H x n g st gs ls ak)(aI:aT H H'):WalkAt C H' x n g st gs ls ak:=
 let⟨av,e⟩:=h.ins;⟨⟨av,aI _ _ e⟩,aI _ _ h.goals,aI _ _ h.steps,Ç h.each aI⟩
theorem î{H H':aa}{l:Addr}{HI:List Step}(new:gT H' l HI)(old:∀ij ss,ij≠l->gT H ij ss->gT H' ij ss):∀{ls:b4}{ak:dh}{n:Nat},bX (gT H) ls ak->ls.Nodup->ls[n]?=some l->bX (gT H') ls (ak.set n HI)
 |_,_,n,.nil,_,e=>by simp at e
 |a::ls,s0::ak,0,.cons r t,aK,e=>by
  simp only[Ui,U6]at e;subst e;rw[jf]at aK;refine .cons new ?_;have:∀{ms:b4}{vS:dh},bX (gT H) ms vS->a∉ms->bX (gT H') ms vS:=λ{ms vS}p=>by
   induction p with
   |nil=>exactλ_=>.nil
   |cons r t bk=>exactλh=>.cons (old _ _ (λz=>h (by rw[z];exact .head _)) r) (bk λz=>h (.tail _ z))
  exact this t aK.1
 |a::ls,s0::ak,n+1,.cons r t,aK,e=>by
  rw[jf]at aK;have b9:ls[n]?=some l:=by simpa using e
  exact .cons (old _ _ (λz=>aK.1 (by rw[z];exact eQ b9)) r) (î new old t aK.2 b9)
section
variable{P:bP}{w:bt}{K:aY}{ae:cN}{base:Heap}
inductive ab6(C:Addr)(vs:a')(H:aa)(Q:bl)(bM:cE):Prop where
 |mk (x bz a7:Addr) (xs ys:a') (k:Int) (v:ar.V) (b0:vs=[.ref x,.int k]) (bH:lz C H x bz a7 xs ys) (cu:0<=k) (cS:k<ys.length) (dw:ar.f3 ys k=some v) (en:Q v H)
noncomputable def HA(C:Addr):c9:=λvs H Q bM=>ab6 C vs H Q bM
theorem ab7{C f:Addr}{fd:c1}(F:b6 K "road" "Net.road" tj f fd)(B:hb ae)(fN:tR K C):a4 P w K ae base bu 1 f fd ["self","number"] (HA C):=by
 refine F.ok To (λvs H Q E h=>?_) (λbK A outer s H vs Q E ay h=>?_)
 .obtain⟨x,bz,a7,xs,ys,k,v,rfl,_⟩:=h;rfl
 .obtain⟨x,bz,a7,xs,ys,k,v,rfl,n,h0,ag,bI,q⟩:=h;obtain⟨av,ao⟩:=n.ins;refine⟨_,(bQ (gd (jR (Cn rH yV bF (ah 1) (eo ke (by rfl) B.len jq (aA (hA (ah 0) (by rfl)) a5)))) (b8 Qn) gb)
   (b8 (dE (cz gS (hA (ah 0) (by rfl)) (ah 1) (λ_ _=>rfl))))),?_⟩
  refine⟨_,rfl,_,_,rfl,rfl,_,rfl,?_⟩;refine fi (dU h0) ⟨_,rfl,x,C,av,_,_,rfl,ao,fN.cl,fN.gi,rfl,a7,_,rfl,.inl (aS.of n.tE),_,_,rfl,rfl,_,rfl,?_⟩;refine Jk ag ?_;exact⟨_,rfl,x,C,av,_,_,rfl,ao,fN.cl,fN.gi,rfl,_,rfl,a7,_,_,_,rfl,rfl,aS.of n.tE,bI,q⟩
inductive aev(C bA:Addr)(vs:a')(H:aa)(Q:bl)(bM:cE):Prop where
 |mk (pL:aa) (x n g st bz a7 gc:Addr) (gs:bR) (ls rs:b4) (ak:dh) (hs:bD) (ds:b7) (b:gw×List Nat) (b0:vs=[.ref x,.ref gc]) (bH:aT pL H) (cu:n5 C pL x n g st gs ls) (cS:bX (gT H) ls ak) (dw:ls.Nodup) (en:(∀l∈ls,pL l=none)) (ha:lz bA pL n bz a7 (dC hs) (aW rs)) (iT:hy pL hs rs ds) (ot:hY pL gc b) (v3:b.1.2<ds.length) (DK:b.2.Nodup) (ä:(∀i∈b.2,i<ak.length)) (aqg:(∀ss∈ak,ss.length<=100)) (aqh:∀H',aT pL H'->bX (gT H') ls (iG (stepK hs ds b.1) b.2 ak)->Q .bV H')
noncomputable def IH(C bA:Addr):c9:=λvs H Q bM=>aev C bA vs H Q bM
noncomputable abbrev y7:Stmt:=i8 (top 13) 2
theorem II:d0 ["self","bag","road","number"] ["self","bag"] (dx y7):=⟨rfl,rfl,rfl,by decide+kernel,rfl,by decide+kernel,by decide+kernel⟩
theorem aew{C bA f f1:Addr}{fd eU:c1}(F:b6 K "send" "Walk.send" y7 f fd)(cH:qC K C)(hh:ho K bA)(nI:eJ K bA "road" "Net.road" tj ["self","number"] f1 eU)(uV:a4 P w K ae base bu 1 f1 eU ["self","number"] (HA bA)):
  a4 P w K ae base bu 2 f fd ["self","bag"] (IH C bA):=by
 refine F.ok II (λvs H Q E h=>?_) (λbK A outer s H vs Q E ay h=>?_)
 .obtain⟨pL,x,n,g,st,bz,a7,gc,gs,ls,rs,ak,hs,ds,b,rfl,_⟩:=h;rfl
 .obtain⟨pL,x,n,g,st,bz,a7,gc,gs,ls,rs,ak,hs,ds,b,rfl,b5,W,each,aK,fr,N,R,xA,lx,Cy,bZ,c7,q⟩:=h;obtain⟨av,ao⟩:=W.ins;obtain⟨fH,aD⟩:=N.ins;obtain⟨c,hC,gK⟩:=xA;have e5:=R.len;refine⟨_,(bQ (dG (i:=2) II.aK rfl (cY rfl) (ib (hA (ah 0) (by rfl)) hh nI.gM uV (ay.mono (by decide)) nI.bd .nil dQ (aA (cz d5 (ah 1) bF (λ_ _=>rfl)) a5)))
   (b8 (kC jJ rfl (IG (cz d5 (ah 1) bF (λ_ _=>rfl))) (d1 (i:=3) II.aK rfl (cY rfl))
    (b8 (ia (n4 oF oG oH mJ (cz gS (hA (ah 0) (by rfl)) (ah 3) (λ_ _=>rfl)) (aA (jS (aA (cz d5 (ah 1) bF (λ_ _=>rfl)) (aA (cz d5 (ah 1) bF (λ_ _=>rfl)) (aA (cz d5 (ah 2) bF (λ_ _=>rfl)) (aA (cZ iB (cz d5 (ah 1) bF (λ_ _=>rfl)) (cz d5 (ah 2) bF (λ_ _=>rfl))) a5))))) a5))))))),?_⟩
  obtain⟨r,d6⟩:∃r,rs[b.1.2]?=some r:=⟨_,ct (by omega)⟩
  obtain⟨d,dv,_,hd⟩:=R.get d6;have cI:ds.getD b.1.2 pj=d:=me dv;refine⟨_,rfl,x,C,av,_,_,rfl,b5 _ _ ao,cH.cl,cH.nn,rfl,n,fH,_,rfl,b5 _ _ aD,rfl,_,rfl,gc,_,_,_,rfl,rfl,b2.of (b5 _ _ hC),rfl,n,bz,a7,_,_,_,_,rfl,N.same b5,(by omega),(by have:=fO rs;omega),(jo (by unfold aW;rw[cM,d6];rfl)),?_⟩;refine⟨_,rfl,gc,_,_,_,rfl,rfl,b2.of (b5 _ _ hC),rfl,c,rfl,?_⟩;refine⟨⟨_,b2.of (b5 _ _ gK)⟩,?_⟩;have LP:m7 hs d=[.str (pD hs ds b.1.2),.str (lE hs ds b.1.2),.int (rO ds b.1.2),.int (kL ds b.1.2)]:=by unfold m7 pD lE rO kL;rw[cI]
  rw[LP]at hd;refine SY (K:=K) (a:=c) (xs:=b.2.map λn:Nat=>V.int n) (λj σ gu=>∃iR,σ=[some (.ref x),some (.ref gc),some (.ref r),iR]/\aT pL gu/\bX (gT gu) ls (iG (stepK hs ds b.1) (b.2.take j) ak))
   ⟨none,rfl,b5,by rw[uj,PE];exact each⟩ (λj σ gu _⟨_,_,h,_⟩=>b2.of (h _ _ gK)) ?_ ?_
  .rintro j z σ gu dO ⟨iR,rfl,lL,ei⟩;rw[cM]at dO;obtain⟨i,e',rfl⟩:=ft.mp dO;have ai:=bZ i (eQ e');obtain⟨ss,es⟩:∃ss,ak[i]?=some ss:=⟨_,ct ai⟩
   have yk:i∉b.2.take j:=λz=>by
    have aQ:=(gj.mp e').1;have az:=so j b.2;rw[zY aQ]at az;rw[<-az,ui]at Cy;have cq:b.2[j]=i:=by rw[ct aQ]at e';exact gZ e'
    exact Cy.2.2 i z i (by rw[cq];exact .head _) rfl
   have ga:(iG (stepK hs ds b.1) (b.2.take j) ak)[i]?=some ss:=by rw[va,es];simp[yk]
   have ln:=h8 ei;obtain⟨l,gH⟩:∃l,ls[i]?=some l:=⟨_,ct (by rw[Cb]at ln;omega)⟩
   obtain⟨aoL,sM,ts,aq,cc⟩:=bX.get ei gH;rw[ga]at sM;cases sM;have ME:=b2.of (K:=K) (lL _ _ hC);have xD:=b2.of (K:=K) (lL _ _ hd);have c3:=cc.len;rw[bh]at c3;have fs:=c7 ss (eQ es);have fI:(aW ts).length<sizeLine:=e1 (by rw[fO];omega);refine⟨_,rfl,x,C,av,_,_,rfl,lL _ _ ao,cH.cl,cH.ns,rfl,_,rfl,st,_,_,_,rfl,rfl,aS.of (lL _ _ W.steps),(show ar.f3 (aW ls) (i:Int)=some (.ref l)from jo (by unfold aW;rw[cM,gH];rfl)),.inl ⟨rfl,_,aS.of aq⟩,?_⟩;refine⟨_,rfl,gc,_,_,_,rfl,rfl,ME,rfl,_,rfl,gc,_,_,_,rfl,rfl,ME,rfl,_,rfl,r,_,_,_,rfl,rfl,xD,rfl,_,rfl,gc,_,_,_,rfl,rfl,ME,rfl,_,rfl,r,_,_,_,rfl,rfl,xD,rfl,_,_,rfl,rfl,(by show 4<=sizeLine;decide),λt el=>?_⟩;have Dc:=cV (o:=.tup [V.int b.1.1,V.int b.1.2,V.str (lE hs ds b.1.2),V.int (b.1.1+rO ds b.1.2)]) el;have sZ:=Dc _ _ aq;refine⟨l,_,_,rfl,rfl,sZ,fI,_,rfl,?_,?_⟩
   .exact h_ (fr l (eQ gH)) (lL.trans Dc)
   .have aG:b.2.take (j+1)=b.2.take j++[i]:=by rw[mw,e'];rfl
    rw[aG,O_ _ yk es];refine î ?_ (λij HI nl h=>?_) ei aK gH
    .refine⟨ts++[t],by rw[a8];unfold aW;rw[fo];rfl,?_⟩;rw[fo];refine Paired.snoc ?_ ((cc.same Dc).upd sZ (by intro d z;cases z));show upd _ l _ t=some (.tup (Df (stepK hs ds b.1)));rw[aL (dn aq el).symm,a8];rfl
    .obtain⟨hl,ag,af⟩:=h;exact⟨hl,by rw[aL nl];exact Dc _ _ ag,(af.same Dc).upd sZ (by intro d z;cases z)⟩
  .rintro σ gu ⟨iR,rfl,lL,ei⟩;refine q gu lL ?_;rw[bh,lY]at ei;exact ei
noncomputable abbrev y8:Stmt:=i8 (top 13) 3
theorem afo:d0 ["self","number"] ["self","number"] (dx y8):=⟨rfl,rfl,rfl,by decide+kernel,rfl,by decide+kernel,by decide+kernel⟩
theorem aex{C f:Addr}{fd:c1}(F:b6 K "goal" "Walk.goal" y8 f fd)(cH:qC K C):a4 P w K ae base bu 1 f fd ["self","number"] (IU C):=by
 refine F.ok afo (λvs H Q E h=>?_) (λbK A outer s H vs Q E ay h=>?_)
 .obtain⟨x,n,g,st,gs,ls,ak,k,y,rfl,_⟩:=h;rfl
 .obtain⟨x,n,g,st,gs,ls,ak,k,y,rfl,W,d2,q⟩:=h;obtain⟨av,ao⟩:=W.ins;refine⟨_,(b8 (dE (cz gS (hA (ah 0) (by rfl)) (ah 1) (λ_ _=>rfl)))),?_⟩;exact⟨_,rfl,x,C,av,_,_,rfl,ao,cH.cl,cH.j2,rfl,_,rfl,g,_,_,_,rfl,rfl,aS.of W.goals,jo (by rw[cM,d2];rfl),q⟩
theorem aey{wi:TI}{cs:jj}{b3:TE}{σ rest:ar.St}{H H1:aa}{Q:bl}{J:e7}{xs:a'}(hw:∀R:e7->aa->Prop,R J H1->wi σ H R)(gp:gW cs σ=none::rest)(jF:l3 J H1 xs)(aq:xs.length<sizeLine)(F:Nat->ar.V->aa->Prop)(st:∀i v aj bL,aT aj bL->F i v aj->F i v bL)(sl:∀i v aj D ys zs,aj D=some (.lst ys)->F i v aj->F i v (upd aj D (.lst zs)))(elt:∀(i:Nat)(x:ar.V)(aj:aa)(R:bl),xs[i]?=some x->aT H1 aj->(∀v bY,aT aj bY->F i v bY->R v bY)->b3 (some x::rest) aj R)(fin:∀(D:Addr)(H':aa)(vs:a'),H1 D=none->H' D=some (.lst vs)->vs.length=xs.length->(∀i v,vs[i]?=some v->F i v H')->aT H1 H'->Q (.ref D) H'):kM wi cs (g5 0) px b3 σ H Q:=by
 refine hw _ λD ck=>?_;refine⟨λi m ys a_ H'=>m=xs.length-i/\i<=xs.length/\(ys.length=i/\∀j v,ys[j]?=some v->F j v H')/\(∃o,a_=o::rest)/\aT H1 H'/\H' D=some (.lst ys),⟨xs.length,by simp,dM _,⟨rfl,λj v e=>by simp at e⟩,⟨none,by rw[gp]⟩,λb o e=>?_,a8⟩,?_⟩
 .rw[aL (dn e ck)];exact e
 .rintro i m ys a_ H' ⟨rfl,ai,⟨vZ,aZ⟩,⟨o,rfl⟩,aI,eG⟩;obtain⟨gO,hV,iu⟩:=jF H' aI;refine⟨eG,mx (by omega) aq,?_⟩;by_cases bZ:i<xs.length
  .refine .inr ⟨hV i bZ,λx aj y=>?_⟩;obtain⟨rfl,ex⟩:=iu i x aj bZ y;show b3 (some x::rest) aj _;refine elt i x aj _ ex aI λv bY s5 bI=>⟨s5 _ _ eG,xs.length-(i+1),by omega,rfl,bZ,⟨by rw[e8,vZ];rfl,λj u e=>?_⟩,⟨_,rfl⟩,λb ob e=>?_,a8⟩
   .refine sl j u bY D ys _ (s5 _ _ eG) ?_;by_cases aQ:j<ys.length
    .rw[Uh aQ]at e;exact st j u _ _ s5 (aZ j u e)
    .rw[Jr (by omega)]at e;have ei:j=i:=by
      by_cases hz:j-ys.length=0
      .omega
      .rw[sg (by simp;omega)]at e;cases e
     subst ei;rw[vZ,UU]at e;cases e;exact bI
   .rw[aL (dn e ck)];exact s5 _ _ (aI _ _ e)
  .have e:i=xs.length:=by omega
   subst e;exact .inl ⟨gO,fin D H' ys ck eG vZ aZ aI⟩
end
end fR
namespace de
noncomputable def j1(c:Int):Int:=c*1099087573%10000000000037
noncomputable def mj(n:Nat)(c:Int):Int:=j1 c%n
noncomputable def qv(n:Nat)(c:Int):Int:=(mj n c+1+j1 c/n%((n:Int)-1))%n
noncomputable def rL(c:Int):Int:=if j1 c/27000%5=0 then 1+j1 c/135000%10 ^ 9 else 1+j1 c/9000%3
noncomputable def GN(n:Nat)(c:Int):fv:=⟨(mj n c).toNat,(qv n c).toNat,1+j1 c/1000%9,rL c⟩
theorem afp{n:Nat}(h:1<n)(c:Int):(GN n c).Ok n:=by
 have eC:0<=mj n c:=ky _ (by omega);have dT:mj n c<n:=kU _ (by omega);have ax:0<=qv n c:=ky _ (by omega);have az:qv n c<n:=kU _ (by omega);have jQ:0<=j1 c/n%((n:Int)-1):=ky _ (by omega);have w9:j1 c/n%((n:Int)-1)<(n:Int)-1:=kU _ (by omega);have ne:mj n c≠qv n c:=by
  intro z;have cq:qv n c=(mj n c+1+j1 c/n%((n:Int)-1))%n:=rfl;generalize j1 c/n%((n:Int)-1)=x at jQ w9 cq;by_cases bZ:mj n c+1+x<n
  .rw[Jf (by omega) bZ]at cq;omega
  .have dq:(mj n c+1+x)%(n:Int)=(mj n c+1+x-n)%(n:Int):=by rw[aah]
   rw[dq,Jf (by omega) (by omega)]at cq;omega
 have t1:0<=j1 c/1000%9:=ky _ (by decide);have fQ:j1 c/1000%9<9:=kU _ (by decide);have m:1<=rL c/\rL c<=1000000000:=by
  unfold rL;split
  .have an1:(10:Int) ^ 9=1000000000:=by decide
   rw[an1];omega
  .omega
 exact⟨by show(mj n c).toNat < n;omega,by show(qv n c).toNat < n;omega,by show(mj n c).toNat≠(qv n c).toNat;omega,by show 1<=1+_/\1+_<=9;omega,m⟩
end de
namespace fR
open PySem ar cK de
inductive afq(vs:a')(H:aa)(Q:bl)(bM:cE):Prop where
 |mk (c:Int) (a:Addr) (hs:bD) (b0:vs=[.int c,.ref a]) (bH:H a=some (.lst (dC hs))) (cu:2<=hs.length) (cS:hs.length<=12) (dw:∀r,H r=none->Q (.ref r) (upd H r (.tup (m7 hs (GN hs.length c)))))
noncomputable def JC:c9:=λvs H Q bM=>afq vs H Q bM
theorem aez{t:e0}{D:Ends}{σ:ar.St}{H:aa}(P:Ends->Prop)(ag:P D)(af:∀fA,P fA->t fA σ H):t D σ H:=af D ag
section
variable{P:bP}{w:bt}{K:aY}{ae:cN}{base:Heap}
noncomputable abbrev z4:Stmt:=top 40
noncomputable abbrev aio:List Str:=["_law_cell","_law_names","_law_n","_law_many","_law_first","_law_last","_law_room"]
theorem vV:d0 aio ["_law_cell","_law_names"] (dx z4):=⟨rfl,rfl,rfl,by decide+kernel,rfl,by decide+kernel,by decide+kernel⟩
theorem aff{f:Addr}{fd:c1}(F:b6 K "_law_road" "_law_road" z4 f fd)(B:hb ae):a4 P w K ae base bu 1 f fd ["_law_cell","_law_names"] JC:=by
 refine F.ok vV (λvs H Q E h=>?_) (λbK A outer s H vs Q E ay h=>?_)
 .obtain⟨c,a,hs,rfl,_⟩:=h;rfl
 .obtain⟨c,a,hs,rfl,aH,af,xu,q⟩:=h;refine⟨_,(bQ (dG (i:=2) vV.aK rfl (cY rfl) (cZ ic (cZ rB (ah 0) bF) bF))
   (bQ (dG (i:=3) vV.aK rfl (cY rfl) (eo ke (by rfl) B.len jq (aA (ah 1) a5)))
   (bQ (dG (i:=4) vV.aK rfl (cY rfl) (cZ ic (ah 2) (ah 3)))
   (bQ (dG (i:=5) vV.aK rfl (cY rfl) (cZ ic (cZ iB (cZ iB (ah 4) bF) (cZ ic (cZ oT (ah 2) (ah 3)) (cZ Dn (ah 3) bF))) (ah 3)))
   (bQ (dG (i:=6) vV.aK rfl (cY rfl) (cZ iB bF (cZ ic (cZ oT (ah 2) bF) bF)))
   (bQ (gd (fP rG (cZ ic (cZ oT (ah 2) bF) bF) bF (eD _)) (b8 (dG (i:=6) vV.aK rfl (cY rfl) (cZ iB bF (cZ ic (cZ oT (ah 2) bF) (cZ TX bF bF))))) gb)
   (b8 (dE (jS (aA (cz gS (ah 1) (ah 4) (λ_ _=>rfl)) (aA (cz gS (ah 1) (ah 5) (λ_ _=>rfl)) (aA (cZ iB bF (cZ ic (cZ oT (ah 2) bF) bF)) (aA (ah 6) a5))))))))))))),?_⟩
  have aq:=x_ hs;have eC:0<=mj hs.length c:=ky _ (by omega);have dT:mj hs.length c<hs.length:=kU _ (by omega);have ax:0<=qv hs.length c:=ky _ (by omega);have az:qv hs.length c<hs.length:=kU _ (by omega);refine⟨_,rfl,_,_,rfl,rfl,.inr ⟨by decide,by decide⟩,_,_,rfl,rfl,(by show(0:Int)<10000000000037;decide),?_⟩;refine⟨_,rfl,a,_,rfl,.inl (aS.of aH),?_⟩;rw[aq];refine⟨_,rfl,_,rfl,_,_,rfl,rfl,(by show(0:Int)<(hs.length:Int);omega),?_⟩;refine⟨_,rfl,_,_,rfl,rfl,_,rfl,_,rfl,_,_,rfl,rfl,⟨by show(0:Int)<(hs.length:Int);omega,by show(hs.length:Int)<1073741824;omega⟩,_,rfl,_,_,rfl,rfl,_,_,rfl,rfl,(by show(0:Int)<(hs.length:Int)-1;omega),_,_,rfl,rfl,_,rfl,_,_,rfl,rfl,(by show(0:Int)<(hs.length:Int);omega),?_⟩;refine⟨_,rfl,_,_,rfl,rfl,⟨by decide,by decide⟩,_,_,rfl,rfl,(by show(0:Int)<3;decide),_,_,rfl,rfl,?_⟩;dsimp only[g5,qP];refine aez (t:=J4 _ _ _) (λfA=>fA.cy [some (.int c),some (.ref a),some (.int (j1 c)),some (.int hs.length),some (.int (mj hs.length c)),some (.int (qv hs.length c)),some (.int (rL c))] H) ?_ λfA rest=>?_
  .refine⟨_,rfl,_,rfl,a,_,_,_,rfl,rfl,aS.of aH,Ia eC dT,_,rfl,_,rfl,a,_,_,_,rfl,rfl,aS.of aH,Ia ax az,_,rfl,_,_,rfl,rfl,⟨by decide,by decide⟩,_,_,rfl,rfl,(by show(0:Int)<9;decide),_,_,rfl,rfl,_,rfl,(by show 4<=sizeLine;decide),q⟩
  .refine⟨_,rfl,_,_,rfl,rfl,⟨by decide,by decide⟩,_,_,rfl,rfl,(by show(0:Int)<5;decide),rfl,_,rfl,?_⟩;by_cases dq:j1 c/27000%5=0
   .refine fi (by show decide (V.int (j1 c/27000%5)=V.int 0)=true;rw[dq];decide) ?_;refine⟨_,rfl,_,_,rfl,rfl,⟨by decide,by decide⟩,_,_,rfl,rfl,⟨by decide,by decide,by decide⟩,_,_,rfl,rfl,(by show(0:Int)<10 ^ (9:Int).toNat;decide),_,_,rfl,rfl,?_⟩;have kA:rL c=1+j1 c/135000%10 ^ (9:Int).toNat:=by unfold rL;rw[aO dq];rfl
    rw[kA]at rest;exact rest
   .refine eF (by show decide (V.int (j1 c/27000%5)=V.int 0)=false;exact eM λz=>dq (V.int.inj z)) ?_;have kA:rL c=1+j1 c/9000%3:=by unfold rL;rw[aJ dq]
    rw[kA]at rest;exact rest
theorem Rh(i j:Int):decide (V.int i=V.int j)=decide (i=j):=by
 by_cases h:i=j
 .rw[dU h,dU (e9 V.int h)]
 .rw[eM h,eM λz=>h (V.int.inj z)]
inductive ĭ(vs:a')(H:aa)(Q:bl)(bM:cE):Prop where
 |mk (a:Addr) (hs:iY) (v u:ar.V) (d e:PyData) (b0:vs=[.ref a,v,u]) (bH:gy H (.ref a) (.list hs)) (cu:gy H v d) (cS:gy H u e) (dw:d.depth<=60) (en:e.depth<=60) (ha:Q (.bf (k' hs d e)) H)
noncomputable def PF:c9:=λvs H Q bM=>ĭ vs H Q bM
theorem Į{f:Addr}{fd:c1}(F:b6 K "are_unlike_houses" "are_unlike_houses" vg f fd):a4 P w K ae base bu 1 f fd ["houses","one","other"] PF:=by
 refine F.ok ê (λvs H Q E h=>?_) (λbK A outer s H vs Q E ay h=>?_)
 .obtain⟨a,hs,v,u,d,e,rfl,_⟩:=h;rfl
 .obtain⟨a,hs,v,u,d,e,rfl,aH,bI,cJ,dd,LK,q⟩:=h;refine⟨_,(b8 (dE (lq (lg (T2 (VS ay)) (ah 1) (ah 0) (by rfl)) (lq (lg (T2 (VS ay)) (ah 2) (ah 0) (by rfl)) (nZ (lg (Dr ay.units) (ah 1) (ah 2) (eD _))))))),?_⟩;have nH:pW hs=true:=aH.nH;have cX:mB d=true:=q' bI.nH dd (by decide);have hT:mB e=true:=q' cJ.nH LK (by decide);have q:Q (.bf (inD d hs&&inD e hs&&!g4 d e)) H:=q;refine⟨_,rfl,_,rfl,d,hs,bI.lb,aH.lb,cX,nH,_,rfl,?_⟩;show if inD d hs=true then _ else _
  cases ag:inD d hs with
  |false=>
   rw[ag]at q;exact lD q
  |true=>
   rw[ag]at q;refine kH ⟨_,rfl,_,rfl,e,hs,cJ.lb,aH.lb,hT,nH,_,rfl,?_⟩;show if inD e hs=true then _ else _
   cases af:inD e hs with
   |false=>
    rw[af]at q;exact lD q
   |true=>
    rw[af]at q;exact kH ⟨_,rfl,_,rfl,d,e,bI.lb,cJ.lb,cX,hT,q⟩
theorem τ{ys:bR}{x:Str}(h:x∉ys):qr (.str x) (ys.map V.str)=false:=by unfold qr;rw[Ir];intro z;obtain⟨v,bI,e⟩:=pN.mp z;obtain⟨y,aZ,rfl⟩:=cf.mp bI;have b9:(y==x)=true:=e;exact h (eq_of_beq b9▸aZ)
theorem rz{α:Type}{l:List α}{i:Nat}{d x:α}(h:l[i]?=some x):l.getD i d=x:=by rw[dr,h];rfl
inductive aeA(C R:Addr)(vs:a')(H:aa)(Q:bl)(E:cE):Prop where
 |mk (x bz a7:Addr) (hs:bD) (zs:a') (h:Str) (b0:vs=[.ref x,.str h]) (bH:lz C H x bz a7 (dC hs) zs) (cu:(h∈hs.map S->Q .bV H)) (cS:(h∉hs.map S->E (.ref R) none H))
noncomputable def Io(C R:Addr):c9:=λvs H Q E=>aeA C R vs H Q E
noncomputable abbrev yX:Stmt:=i8 (top 32) 7
theorem afg:d0 ["self","house"] ["self","house"] (dx yX):=⟨rfl,rfl,rfl,by decide+kernel,rfl,by decide+kernel,by decide+kernel⟩
theorem aeB{C R f:Addr}{fd:c1}{tV fM mV:String}{bm:b_}(F:b6 K "need_house" "Net.need_house" yX f fd)(fN:tR K C)(Pa:v' tV fM mV bm)(xO:Exc K ae "NoHouse" R bm fM):
  a4 P w K ae base (gP P w) 1 f fd ["self","house"] (Io C R):=by
 refine yt F afg (λvs H Q E h=>?_) (λbK A outer s H vs Q E ay h=>?_)
 .obtain⟨x,bz,a7,hs,zs,h',rfl,_⟩:=h;rfl
 .obtain⟨x,bz,a7,hs,zs,h',rfl,n,q,lH⟩:=h;obtain⟨av,ao⟩:=n.ins;refine⟨_,(b8 (gd (fP Zz (ah 1) (hA (ah 0) (by rfl)) (by rfl)) (b8 (G8 Pa xO rfl (aA o4 a5))) gb)),?_⟩;have aq:aS K H bz ((hs.map S).map V.str):=by rw[<-Q7];exact aS.of n.Nd
  refine⟨_,rfl,_,rfl,x,C,av,_,_,rfl,ao,fN.cl,fN.OU,rfl,bz,_,rfl,.inl aq,rfl,GO _,_,rfl,?_⟩;by_cases hm:h'∈hs.map S
  .exact eF (by rw[Hx hm];rfl) (q hm)
  .exact fi (by rw[τ hm];rfl) ⟨by show 1<=sizeLine;decide,lH hm⟩
theorem aai{α β:Type}(xs:List α)(q:Nat->Bool)(g:Nat->β):(xs.zipIdx.filter λz=>q z.2).map (λz=>g z.2)=((da xs.length).filter q).map g:=by
 have e:xs.zipIdx.map (·.2)=da xs.length:=by rw[abZ,abW]
 rw[<-e,z0,fS];rfl
noncomputable def jP:de.fv:=⟨0,0,0,0⟩
noncomputable def yB(hs:bD)(ds:b7)(rK:de.fv->Nat)(h:Str):List Nat:=(da ds.length).filter λi=>decide (V.str (S (hs.getD (rK (ds.getD i jP)) []))=V.str h)
noncomputable def iq(hs:bD)(ds:b7)(rK:de.fv->Nat)(h:Str):List Int:=(yB hs ds rK h).map λi:Nat=>(i:Int)
theorem È(hs:bD)(ds:b7)(rK:de.fv->Nat)(h:Str):(iq hs ds rK h).length<=ds.length:=by unfold iq yB;rw[bh];exact hc (si _ _) (by rw[j8];exact b1 _)
inductive afh(C R:Addr)(rK:de.fv->Nat)(vs:a')(H:aa)(Q:bl)(E:cE):Prop where
 |mk (x bz a7:Addr) (hs:bD) (rs:b4) (ds:b7) (h:Str) (b0:vs=[.ref x,.str h]) (bH:lz C H x bz a7 (dC hs) (aW rs)) (cu:hy H hs rs ds) (cS:rs.length<=40) (dw:(h∈hs.map S->∀(p:Addr)(H':aa),H p=none->aT H H'->H' p=some (.lst ((iq hs ds rK h).map V.int))->Q (.ref p) H')) (en:(h∉hs.map S->E (.ref R) none H))
noncomputable def D_(C R:Addr)(rK:de.fv->Nat):c9:=λvs H Q E=>afh C R rK vs H Q E
noncomputable abbrev wC:Stmt:=i8 (top 32) 4
theorem ag3:d0 ["self","house"] ["self","house"] (dx wC):=⟨rfl,rfl,rfl,by decide+kernel,rfl,by decide+kernel,by decide+kernel⟩
theorem afi{C R f fn:Addr}{fd W7:c1}(F:b6 K "out_of" "Net.out_of" wC f fd)(B:hb ae)(fN:tR K C)(p4:eJ K C "need_house" "Net.need_house" yX ["self","house"] fn W7)(uC:a4 P w K ae base (gP P w) 1 fn W7 ["self","house"] (Io C R)):
  a4 P w K ae base (gP P w) 2 f fd ["self","house"] (D_ C R (·.a)):=by
 have hh:=fN.cl;refine yt F ag3 (λvs H Q E h=>?_) (λbK A outer s H vs Q E ay h=>?_)
 .obtain⟨x,bz,a7,hs,rs,ds,h',rfl,_⟩:=h;rfl
 .obtain⟨x,bz,a7,hs,rs,ds,h',rfl,n,cF,c7,q,lH⟩:=h;obtain⟨av,ao⟩:=n.ins;refine⟨_,(bQ (ia (ib (ah 0) hh p4.gM uC (ay.mono (by decide)) p4.bd .nil CK (aA (ah 1) a5)))
   (b8 (dE (pb (N':=["number","road","house"]) (cs:=[none,none,some 1]) rfl (vf rfl B.enumerate (aA (hA (ah 0) (by rfl)) a5)) rfl (by decide+kernel) rfl (by decide+kernel) (i2 (kV.mpr ⟨rfl,(λp aP=>bE aP (eZ))⟩)) rfl
    (.own (.own (.jO rfl (.inl rfl) (.inl rfl) rfl .nil)))
    (λC s3 bL cw d_=>⟨(x' (K:=K) (n:=2) rfl rfl (hK (d1 (i:=0) (by show(["number","road","house"]:bR).Nodup;decide+kernel) rfl (.inl rfl)) (hK (d1 (i:=1) (by show(["number","road","house"]:bR).Nodup;decide+kernel) rfl (.inl rfl)) oS))),(ve (fP rG (cz (td (K:=K) rfl) (ah 1) bF (λ_ _=>rfl)) (ah 2) (eD _))),(ah 0)⟩))))),?_⟩
  have aq:=fO rs;have rm:=cF.len;refine⟨_,rfl,x,av,_,rfl,ao,rfl,_,rfl,x,bz,a7,hs,_,h',rfl,n,λhm=>?_,lH⟩;refine⟨_,rfl,x,C,av,_,_,rfl,ao,fN.cl,fN.gi,rfl,a7,rfl,⟨_,aS.of n.tE⟩,?_⟩;refine SQ (rest:=[some (.str h')]) rfl (aS.of n.tE) (e1 (by omega)) (λi _=>decide (V.str (S (hs.getD (ds.getD i jP).a []))=V.str h')) (λi _=>.int i) (λi v aj R ev aI oX=>?_) (λi v aj R ev _ aI oX=>⟨_,rfl,oX aj (aT.refl _)⟩) (λD H' ag af aV=>q hm D H' ag aV ?_)
  .unfold aW at ev;rw[cM]at ev;obtain⟨r,d6,rfl⟩:=ft.mp ev;obtain⟨d,dv,ok,hd⟩:=cF.get d6;have cI:ds.getD i jP=d:=rz dv;rw[cI]at oX;exact⟨_,rfl,r,_,_,_,rfl,rfl,b2.of (aI _ _ hd),rfl,_,rfl,rfl,_,rfl,oX aj (aT.refl _)⟩
  .rw[af,aai (aW rs) (λi=>decide (V.str (S (hs.getD (ds.getD i jP).a []))=V.str h')) (λi=>V.int i),aq,rm];unfold iq;rw[fS];rfl
noncomputable abbrev dt:=List (List br×ar.V)
noncomputable def d3(h g:Str):List br:=[.inr h,.inr g]
noncomputable def mZ(n t:Addr):List (Str×ar.V):=[("net",.ref n),("told",.ref t)]
structure kD(C bA:Addr)(H:aa)(x n t bz a7:Addr)(xs ys:a')(kvs:dt):Prop where
 ins:∃av,H x=some (.ins C av (mZ n t))
 jB:lz bA H n bz a7 xs ys
 told:H t=some (.c4 kvs)
theorem kD.same{C bA:Addr}{H H':aa}{x n t bz a7:Addr}{xs ys:a'}{kvs:dt}(W:kD C bA H x n t bz a7 xs ys kvs)(aI:aT H H'):kD C bA H' x n t bz a7 xs ys kvs:=
 let⟨av,h⟩:=W.ins
 ⟨⟨av,aI _ _ h⟩,W.jB.same aI,aI _ _ W.told⟩
end
structure o_(K:aY)(C:Addr):Prop where
 cl:ho K C
 nn:dg K (.ref C) "net"=some none
 el:dg K (.ref C) "told"=some none
inductive ag4(C:Addr)(vs:a')(H:aa)(Q:bl)(bM:cE):Prop where
 |mk (x av:Addr) (v:ar.V) (b0:vs=[.ref x,v]) (bH:H x=some (.ins C av [])) (cu:∀t,H t=none->Q .bV (upd (upd H t (.c4 [])) x (.ins C av [("net",v),("told",.ref t)])))
noncomputable def ER(C:Addr):c9:=λvs H Q bM=>ag4 C vs H Q bM
inductive ag5(C bA fq:Addr)(vs:a')(H:aa)(Q:bl)(E:cE):Prop where
 |mk (x n t bz a7:Addr) (hs:bD) (ys:a') (kvs:dt) (v u:ar.V) (d e:PyData) (b0:vs=[.ref x,v,u]) (bH:kD C bA H x n t bz a7 (dC hs) ys kvs) (cu:Good hs) (cS:gy H v d) (dw:gy H u e) (en:d.depth<=60) (ha:e.depth<=60) (iT:(k' (ck hs) d e=true->∀H',aT H H'->Q .bV H')) (ot:(k' (ck hs) d e=false->∀H',aT H H'->E (.ref fq) none H'))
noncomputable def ES(C bA fq:Addr):c9:=λvs H Q E=>ag5 C bA fq vs H Q E
inductive ag6(C bA fq nu:Addr)(vs:a')(H:aa)(Q:bl)(E:cE):Prop where
 |mk (x n t bz a7:Addr) (hs:bD) (rs:b4) (ds:b7) (kvs:dt) (h g:Str) (i:Int) (b0:vs=[.ref x,.str h,.str g,.int i]) (bH:kD C bA H x n t bz a7 (dC hs) (aW rs) kvs) (cu:Good hs) (cS:hy H hs rs ds) (dw:rs.length<=40) (en:gy H (.str h) (.str h)) (ha:gy H (.str g) (.str g)) (iT:kvs.length<sizeLine) (ot:(k' (ck hs) (.str h) (.str g)=true->i∈iq hs ds (·.a) h->∀H',aT H H'->Q .bV (upd H' t (.c4 (ez kvs (d3 h g) (.int i)))))) (v3:(k' (ck hs) (.str h) (.str g)=false->∀H',aT H H'->E (.ref fq) none H')) (DK:(k' (ck hs) (.str h) (.str g)=true->i∉iq hs ds (·.a) h->∀H',aT H H'->E (.ref nu) none H'))
noncomputable def ET(C bA fq nu:Addr):c9:=λvs H Q E=>ag6 C bA fq nu vs H Q E
theorem aak(ys:fh):(ys.map V.int).all qw=true:=by rw[Eo];intro x ao;obtain⟨y,_,rfl⟩:=cf.mp ao;rfl
theorem aeC{ys:fh}{x:Int}(h:x∈ys):qr (.int x) (ys.map V.int)=true:=by unfold qr;rw[pN];exact⟨.int x,cf.mpr ⟨x,h,rfl⟩,by show(x==x)=true;exact beq_self_eq_true x⟩
theorem ĺ{ys:fh}{x:Int}(h:x∉ys):qr (.int x) (ys.map V.int)=false:=by unfold qr;rw[Ir];intro z;obtain⟨v,bI,e⟩:=pN.mp z;obtain⟨y,aZ,rfl⟩:=cf.mp bI;have b9:(y==x)=true:=e;exact h (eq_of_beq b9▸aZ)
theorem Pb{hs:bD}{h g:Str}(c:k' (ck hs) (.str h) (.str g)=true):h∈hs.map S/\g∈hs.map S:=by unfold k' at c;simp only[kR]at c;exact⟨Ğ λn=>by rw[T7 n]at c;exact fz c.1.1,Ğ λn=>by rw[T7 n]at c;exact fz c.1.2⟩
section
variable{P:bP}{w:bt}{K:aY}{ae:cN}{base:Heap}
noncomputable abbrev yP:Stmt:=i8 (top 34) 0
theorem aip:d0 ["self","net"] ["self","net"] (dx yP):=⟨rfl,rfl,rfl,by decide+kernel,rfl,by decide+kernel,by decide+kernel⟩
theorem ag7{C f:Addr}{fd:c1}(F:b6 K "__init__" "Ways.__init__" yP f fd)(cH:o_ K C):a4 P w K ae base bu 1 f fd ["self","net"] (ER C):=by
 refine F.ok aip (λvs H Q E h=>?_) (λbK A outer s H vs Q E ay h=>?_)
 .obtain⟨x,av,v,rfl,_⟩:=h;rfl
 .obtain⟨x,av,v,rfl,ao,q⟩:=h;refine⟨_,(bQ (vA (ah 0) (ah 1) rfl)
   (b8 (vA (ah 0) è rfl))),?_⟩
  refine⟨_,rfl,_,rfl,x,C,av,_,rfl,ao,cH.cl,cH.nn,(by show 0<1000;decide),?_⟩;intro t el;have tn:t≠x:=λe=>by rw[e,a8]at el;cases el
  rw[aL tn]at el;refine⟨_,rfl,x,C,av,_,rfl,(by rw[aL (d8 tn)];exact a8),cH.cl,cH.el,(by show 1<1000;decide),?_⟩;have ax:upd (upd (upd H x (.ins C av [("net",v)])) t (.c4 [])) x (.ins C av [("net",v),("told",.ref t)])=upd (upd H t (.c4 [])) x (.ins C av [("net",v),("told",.ref t)]):=by
   funext b;by_cases U:b=x
   .rw[U,a8,a8]
   .rw[aL U,aL U];by_cases aC:b=t
    .rw[aC,a8,a8]
    .rw[aL aC,aL aC,aL U]
  show Q .bV (upd (upd (upd H x (.ins C av [("net",v)])) t (.c4 [])) x (.ins C av [("net",v),("told",.ref t)]));rw[ax];exact q t el
noncomputable abbrev yN:Stmt:=i8 (top 34) 6
theorem aiq:d0 ["self","house","goal"] ["self","house","goal"] (dx yN):=⟨rfl,rfl,rfl,by decide+kernel,rfl,by decide+kernel,by decide+kernel⟩
theorem ag8{C bA fq f f1 f2:Addr}{fd eU gI:c1}{tV fM mV:String}{bm:b_}(F:b6 K "need_pair" "Ways.need_pair" yN f fd)(cH:o_ K C)(hh:ho K bA)(Pa:v' tV fM mV bm)(xO:Exc K ae "NoHouse" fq bm fM)(p5:eJ K bA "houses" "Net.houses" xT ["self"] f1 eU)(uJ:a4 P w K ae base bu 1 f1 eU ["self"] (GP bA))(p3:dS K ae "are_unlike_houses" vg ["houses","one","other"] f2 gI)(AL:a4 P w K ae base bu 1 f2 gI ["houses","one","other"] PF):
  a4 P w K ae base (gP P w) 2 f fd ["self","house","goal"] (ES C bA fq):=by
 refine yt F aiq (λvs H Q E h=>?_) (λbK A outer s H vs Q E ay h=>?_)
 .obtain⟨x,n,t,bz,a7,hs,ys,kvs,v,u,d,e,rfl,_⟩:=h;rfl
 .obtain⟨x,n,t,bz,a7,hs,ys,kvs,v,u,d,e,rfl,W,G,bI,cJ,dd,LK,q,lH⟩:=h;obtain⟨av,ao⟩:=W.ins;refine⟨_,(b8 (gd (jR (ki (f5 AL (ay.mono (by decide)) (by rfl) p3.at_ p3.fn.cT p3.bd .nil dQ (aA (xR (hA (ah 0) (by rfl)) hh p5.gM uJ (ay.mono (by decide)) p5.bd .nil dQ) (aA (ah 1) (aA (ah 2) a5)))))) (b8 (G8 Pa xO rfl (aA o4 a5))) gb)),?_⟩;obtain⟨fH,aD⟩:=W.jB.ins;refine⟨_,rfl,x,C,av,_,_,rfl,ao,cH.cl,cH.nn,rfl,n,fH,_,rfl,aD,rfl,n,bz,a7,_,_,rfl,W.jB,λl nl=>?_⟩;have sl:=cV (o:=.lst (dC hs)) nl;refine⟨_,rfl,_,rfl,l,ck hs,v,u,d,e,rfl,agU G a8,bI.same sl,cJ.same sl,dd,LK,_,rfl,?_⟩;cases aC:k' (ck hs) d e with
  |true=>exact q aC _ sl
  |false=>exact⟨by show 1<=sizeLine;decide,lH aC _ sl⟩
noncomputable abbrev yO:Stmt:=i8 (top 34) 1
theorem air:d0 ["self","house","goal","road"] ["self","house","goal","road"] (dx yO):=⟨rfl,rfl,rfl,by decide+kernel,rfl,by decide+kernel,by decide+kernel⟩
theorem ag9{C bA fq nu f f1 f2:Addr}{fd eU gI:c1}{tV fM mV:String}{bm:b_}(F:b6 K "set_way" "Ways.set_way" yO f fd)(cH:o_ K C)(hh:ho K bA)(PC:v' tV fM mV bm)(xU:Exc K ae "NoRoad" nu bm fM)(sH:eJ K bA "out_of" "Net.out_of" wC ["self","house"] f1 eU)(xl:a4 P w K ae base (gP P w) 2 f1 eU ["self","house"] (D_ bA fq (·.a)))(sD:eJ K C "need_pair" "Ways.need_pair" yN ["self","house","goal"] f2 gI)(w7:a4 P w K ae base (gP P w) 2 f2 gI ["self","house","goal"] (ES C bA fq)):
  a4 P w K ae base (gP P w) 3 f fd ["self","house","goal","road"] (ET C bA fq nu):=by
 have kf:=cH.cl;refine yt F air (λvs H Q E h=>?_) (λbK A outer s H vs Q E ay h=>?_)
 .obtain⟨x,n,t,bz,a7,hs,rs,ds,kvs,h',g',i,rfl,_⟩:=h;rfl
 .obtain⟨x,n,t,bz,a7,hs,rs,ds,kvs,h',g',i,rfl,W,G,cF,c7,bI,cJ,xj,q,lH,aob⟩:=h;obtain⟨av,ao⟩:=W.ins;obtain⟨fH,aD⟩:=W.jB.ins;refine⟨_,(bQ (ia (ib (ah 0) kf sD.gM w7 (ay.mono (by decide)) sD.bd .nil CK (aA (ah 1) (aA (ah 2) a5))))
   (bQ (gd (fP Zz (ah 3) (ib (hA (ah 0) (by rfl)) hh sH.gM xl (ay.mono (by decide)) sH.bd .nil CK (aA (ah 1) a5)) (by rfl)) (b8 (G8 PC xU rfl (aA o4 a5))) gb)
   (b8 (Hv (ju ay) (hA (ah 0) (by rfl)) (jS (aA (ah 1) (aA (ah 2) a5))) (ah 3) rfl)))),?_⟩
  refine⟨_,rfl,x,av,_,rfl,ao,rfl,_,rfl,_,rfl,x,n,t,bz,a7,hs,_,kvs,.str h',.str g',.str h',.str g',rfl,W,G,bI,cJ,(by show 0<=60;decide),(by show 0<=60;decide),λaC H1 s1=>?_,lH⟩;have hm:=Pb aC;refine⟨_,rfl,_,rfl,x,C,av,_,_,rfl,s1 _ _ ao,cH.cl,cH.nn,rfl,n,fH,_,rfl,s1 _ _ aD,rfl,_,rfl,n,bz,a7,hs,rs,ds,h',rfl,W.jB.same s1,cF.same s1,c7,λ_ p aj np s2 aP=>?_,λmQ=>bE hm.1 mQ⟩;have gC:=s1.trans s2;refine⟨p,_,rfl,.inl (aS.of aP),rfl,aak _,_,rfl,?_⟩;by_cases ai:i∈iq hs ds (·.a) h'
  .refine eF (by rw[aeC ai];rfl) ?_;refine⟨_,rfl,_,rfl,x,C,av,_,_,rfl,gC _ _ ao,cH.cl,cH.el,rfl,_,rfl,_,rfl,(by show 2<=sizeLine;decide),λr gi=>?_⟩;have s3:=cV (o:=.tup [V.str h',V.str g']) gi;exact⟨t,_,rfl,qR.t (k:=d3 h' g') ((gC.trans s3) _ _ W.told) a8 xj,q aC ai _ (gC.trans s3)⟩
  .refine fi (by rw[ĺ ai];rfl) ⟨by show 1<=sizeLine;decide,aob aC ai _ gC⟩
inductive aha(C:Addr)(vs:a')(H:aa)(Q:bl)(bM:cE):Prop where
 |mk (e s:Addr) (v:ar.V) (zs:a') (b0:vs=[.ref e,v,.ref s]) (bH:H e=some (nL e C)) (cu:H s=some (.lst zs)) (cS:∀(av l:Addr)(H':aa),H av=none->H l=none->av≠l->(∀b o,H b=some o->b≠e->H' b=some o)->H' e=some (nK e C av)->H' av=some (tQ av [("reason",v),("seen",.ref l)])->H' l=some (.lst zs)->Q .bV H')
noncomputable def EU(C:Addr):c9:=λvs H Q bM=>aha C vs H Q bM
inductive Out where
 |ok (aG:bj)
 |no (why:Str) (sn:bR)
noncomputable def iH(kvs:dt)(h g:Str):Option Nat:=match cW kvs (d3 h g)with|some (.int k)=>some k.toNat|_=>none
noncomputable def hR(hs:bD)(ds:b7)(k:Nat):Str:=S (hs.getD (ds.getD k jP).b [])
noncomputable def pa(kvs:dt)(hs:bD)(ds:b7)(g:Str):Nat->Str->List Str->List Nat->Out
 |0,_,_,aG=>.ok aG
 |n+1,h,sn,aG=>if h=g then .ok aG else match iH kvs h g with
  |none=>.no "none" sn
  |some k=>if hR hs ds k∈sn then .no "round" (sn++[hR hs ds k])else pa kvs hs ds g n (hR hs ds k) (sn++[hR hs ds k]) (aG++[k])
structure ji(kvs:dt)(m:Nat):Prop where
 val:∀k v,cW kvs k=some v->∃i:Nat,v=.int (i:Int)/\i<m
theorem ji.get{kvs:dt}{m:Nat}(t:ji kvs m)(h g:Str):(cW kvs (d3 h g)=none/\iH kvs h g=none)\/∃i:Nat,cW kvs (d3 h g)=some (.int (i:Int))/\iH kvs h g=some i/\i<m:=by
 cases e:cW kvs (d3 h g)with
 |none=>exact .inl ⟨rfl,by unfold iH;rw[e]⟩
 |some v=>
  obtain⟨i,rfl,ai⟩:=t.val _ _ e;exact .inr ⟨i,rfl,by unfold iH;rw[e];simp,ai⟩
noncomputable def nats(aG:bj):List ar.V:=aG.map λk:Nat=>V.int (k:Int)
noncomputable def og(sn:bR):List ar.V:=sn.map V.str
noncomputable def J'(hr:Addr)(o:Out)(H:aa)(Q:bl)(E:cE):Prop:=match o with
 |.ok aG=>∀l H',H l=none->aT H H'->H' l=some (.lst (nats aG))->Q (.ref l) H'
 |.no why sn=>∀av l H',H av=none->H l=none->av≠l->aT H H'->H' av=some (tQ av [("reason",.str why),("seen",.ref l)])->H' l=some (.lst (og sn))->E (.ref hr) (some av) H'
inductive ahb(C bA fq hr:Addr)(vs:a')(H:aa)(Q:bl)(E:cE):Prop where
 |mk (x n t bz a7:Addr) (hs:bD) (rs:b4) (ds:b7) (kvs:dt) (h g:Str) (b0:vs=[.ref x,.str h,.str g]) (bH:kD C bA H x n t bz a7 (dC hs) (aW rs) kvs) (cu:Good hs) (cS:hy H hs rs ds) (dw:ji kvs ds.length) (en:(h∈hs.map S->g∈hs.map S->J' hr (pa kvs hs ds g 13 h [h] []) H Q E)) (ha:(h∉hs.map S\/g∉hs.map S->E (.ref fq) none H))
noncomputable def Kd(C bA fq hr:Addr):c9:=λvs H Q E=>ahb C bA fq hr vs H Q E
theorem oO{α:Type}[DecidableEq α]:∀{sn L:List α},sn.Nodup->(∀y∈sn,y∈L)->sn.length<=L.length
 |[],_,_,_=>dM _
 |x::r,L,aK,h=>by have ao:=h x (.head _);have bk:=oO (sn:=r) (L:=L.erase x) (jf.mp aK).2 (λy aZ=>(List.mem_erase_of_ne (show y≠x fromλe=>(jf.mp aK).1 (by rw[<-e];exact aZ))).mpr (h y (.tail _ aZ)));rw[List.length_erase_of_mem ao]at bk;have:=List.length_pos_of_mem ao;rw[hH];omega
theorem GB{α:Type}{l:List α}{x:α}(aK:l.Nodup)(h:x∉l):(l++[x]).Nodup:=by rw[ui];exact⟨aK,jf.mpr ⟨eZ,pQ⟩,λa aH b U e=>h (by rw[<-fD.mp U,<-e];exact aH)⟩
theorem getD_mem'{α:Type}{l:List α}{i:Nat}{d:α}(h:i<l.length):l.getD i d∈l:=by rw[dr,ct h];exact eY h
theorem ó(sn:bR)(c:Str):ar.f3 (og (sn++[c])) (-1)=some (.str c):=by
 unfold og;rw[fo];generalize sn.map V.str=zs;unfold ar.f3 ar.mW;rw[e8,aJ (by decide),aO (by show -((zs.length+1:Nat):Int)<=-1;omega)];show(zs++[V.str c])[((-1:Int)+((zs.length+1:Nat):Int)).toNat]?=_;have e:((-1:Int)+((zs.length+1:Nat):Int)).toNat=zs.length:=by omega
 rw[e];simp
theorem none_of{H H1:aa}{a:Addr}(aI:aT H H1)(h:H1 a=none):H a=none:=by
 cases e:H a with
 |none=>rfl
 |some o=>rw[aI _ _ e]at h;cases h
theorem VE{hr p:Addr}{why:Str}{sn:bR}{H H1:aa}{Q:bl}{E:cE}{e:Addr}(q:J' hr (.no why sn) H Q E)(aI:aT H H1)(bU:H1 p=some (.lst (og sn)))(ne:H1 e=none):
  EU hr (V.ref e::[.str why,.ref p]) (upd H1 e (nL e hr)) (λv aj=>v=.bV/\∃av,aj e=some (nK e hr av)/\E (.ref hr) (some av) (del aj e)) v9:=by
 refine⟨e,p,.str why,og sn,rfl,a8,cV ne _ _ bU,λav l H' aK nl GS keep he BB aq=>⟨rfl,av,he,?_⟩⟩;have vm:av≠e:=λz=>by rw[z,a8]at aK;cases aK
 have ym:l≠e:=λz=>by rw[z,a8]at nl;cases nl
 rw[aL vm]at aK;rw[aL ym]at nl;refine q av l (del H' e) (none_of aI aK) (none_of aI nl) GS (λb o U=>?_) ?_ ?_
 .have hC:=aI _ _ U;have jw:b≠e:=λz=>by rw[z,ne]at hC;cases hC
  rw[qt jw];exact keep b o (by rw[aL jw];exact hC) jw
 .rw[qt vm];exact BB
 .rw[qt ym];exact aq
end
theorem aal{K:aY}{wi:TI}{cs:jj}{b3:TE}{σ rest:ar.St}{H H1:aa}{Q:bl}{a:Addr}{o:Obj}{kvs:List (List br×ar.V)}(hw:∀R:e7->aa->Prop,R (Jg a o kvs) H1->wi σ H R)(gp:gW cs σ=none::none::rest)(aH:H1 a=some (.ee o (.c4 kvs)))(aq:kvs.length<sizeLine)(f:Nat->List ar.V)(elt:∀(i:Nat)(k:List br)(x:ar.V)(b:Addr)(aj:aa)(R:bl),kvs[i]?=some (k,x)->aT H1 aj->aj b=some (.tup (k.map di))->(∀r bY,aT aj bY->bY r=some (.tup (f i))->R (.ref r) bY)->b3 (some (.ref b)::some x::rest) aj R)(fin:∀(D:Addr)(H':aa)(rs:b4),H1 D=none->H' D=some (.lst (aW rs))->eh H' rs ((da kvs.length).map f)->aT H1 H'->Q (.ref D) H'):
  kM wi cs (wA K 2 (rI (g5 0) (rI (g5 1) zR))) px b3 σ H Q:=by
 refine hw _ λD ck=>?_;refine⟨λi m ys a_ H'=>m=kvs.length-i/\i<=kvs.length/\(∃rs,ys=aW rs/\eh H' rs ((da i).map f))/\(∃kI vw,a_=kI::vw::rest)/\aT H1 H'/\H' D=some (.lst ys),⟨kvs.length,by simp,dM _,⟨[],rfl,.nil⟩,⟨none,none,gp⟩,λb o e=>?_,a8⟩,?_⟩
 .rw[aL (dn e ck)];exact e
 .rintro i m ys a_ H' ⟨rfl,ai,⟨rs,rfl,cc⟩,⟨kI,vw,rfl⟩,aI,eG⟩;have ln:=cc.len;rw[bh,j8]at ln;refine⟨eG,mx (by rw[fO];omega) aq,?_⟩;by_cases bZ:i<kvs.length
  .refine .inr ⟨⟨aI _ _ aH,bZ⟩,λx aj y=>?_⟩;obtain⟨p,b,k,qS,aP,rfl,uP,U,rfl⟩:=y;have s2:=cV (o:=.tup [V.ref b,qS]) aP;refine⟨p,_,rfl,b2.of a8,rfl,_,_,rfl,_,_,rfl,rfl,?_⟩;refine elt i k qS b _ _ uP (aI.trans s2) (s2 _ _ U) λr bY s5 ay=>⟨s5 _ _ (s2 _ _ eG),kvs.length-(i+1),by omega,rfl,bZ,⟨rs++[r],u_ rs r,?_⟩,⟨_,_,rfl⟩,λc ob e=>?_,a8⟩
   .rw[z3,fo];exact eh.upd (Paired.snoc (F:=λr d=>bY r=some (.tup d)) ay ((cc.same s2).same s5)) (s5 _ _ (s2 _ _ eG)) (by intro d z;cases z)
   .rw[aL (dn e ck)];exact s5 _ _ (s2 _ _ (aI _ _ e))
  .have e:i=kvs.length:=by omega
   subst e;exact .inl ⟨⟨aI _ _ aH,b1 _⟩,fin D H' rs ck eG cc aI⟩
noncomputable abbrev Row:=Str×Str×Int
noncomputable def pB(r:Row):List br:=[.inr r.1,.inr r.2.1,.inl r.2.2]
noncomputable def m4(r:Row):List ar.V:=[.str r.1,.str r.2.1,.int r.2.2]
noncomputable def du(rs:List Row):List (List br×ar.V):=rs.map λr=>([.inr r.1,.inr r.2.1],.int r.2.2)
noncomputable def JD(rs:List Row):List Nat:=o' (iM (rs.map pB)) rs.length
noncomputable def r0:Row:=(kZ,kZ,0)
noncomputable def y9(rs:List Row):List Row:=(JD rs).map λi=>rs.getD i r0
theorem row_shape(rs:List Row):∀d∈rs.map pB,hS d=false::[false,true]:=λd hd=>by obtain⟨r,_,rfl⟩:=cf.mp hd;rfl
theorem aam{H:aa}{ts:b4}{rs:List Row}(h:eh H ts (rs.map m4)):bX (λr d=>H r=some (.tup (d.map di))) ts (rs.map pB):=by
 have:∀{ts:b4}{rs:List Row},eh H ts (rs.map m4)->bX (λr d=>H r=some (.tup (d.map di))) ts (rs.map pB):=λ{ts rs}=>by
  induction rs generalizing ts with
  |nil=>intro h;cases h;exact .nil
  |cons r q bk=>intro h;cases h with|cons a t=>exact .cons a (bk t)
 exact this h
inductive ahc(C bA fq:Addr)(vs:a')(H:aa)(Q:bl)(E:cE):Prop where
 |mk (x n t bz a7:Addr) (hs:bD) (ys:a') (kvs:dt) (h g:Str) (b0:vs=[.ref x,.str h,.str g]) (bH:kD C bA H x n t bz a7 (dC hs) ys kvs) (cu:Good hs) (cS:gy H (.str h) (.str h)) (dw:gy H (.str g) (.str g)) (en:(k' (ck hs) (.str h) (.str g)=true->∀H',aT H H'->Q ((cW kvs (d3 h g)).getD .bV) H')) (ha:(k' (ck hs) (.str h) (.str g)=false->∀H',aT H H'->E (.ref fq) none H'))
noncomputable def Ke(C bA fq:Addr):c9:=λvs H Q E=>ahc C bA fq vs H Q E
section
variable{P:bP}{w:bt}{K:aY}{ae:cN}{base:Heap}
noncomputable abbrev C':Stmt:=i8 (top 34) 3
theorem ais:d0 ["self","house","goal"] ["self","house","goal"] (dx C'):=⟨rfl,rfl,rfl,by decide+kernel,rfl,by decide+kernel,by decide+kernel⟩
theorem ahd{C bA fq f f2:Addr}{fd gI:c1}(F:b6 K "way" "Ways.way" C' f fd)(cH:o_ K C)(sD:eJ K C "need_pair" "Ways.need_pair" yN ["self","house","goal"] f2 gI)(w7:a4 P w K ae base (gP P w) 2 f2 gI ["self","house","goal"] (ES C bA fq)):
  a4 P w K ae base (gP P w) 3 f fd ["self","house","goal"] (Ke C bA fq):=by
 have kf:=cH.cl;refine yt F ais (λvs H Q E h=>?_) (λbK A outer s H vs Q E ay h=>?_)
 .obtain⟨x,n,t,bz,a7,hs,ys,kvs,h',g',rfl,_⟩:=h;rfl
 .obtain⟨x,n,t,bz,a7,hs,ys,kvs,h',g',rfl,W,G,bI,cJ,q,lH⟩:=h;obtain⟨av,ao⟩:=W.ins;refine⟨_,(bQ (ia (ib (ah 0) kf sD.gM w7 (ay.mono (by decide)) sD.bd .nil CK (aA (ah 1) (aA (ah 2) a5))))
   (b8 (dE (G9 (ju ay) (hA (ah 0) (by rfl)) (jS (aA (ah 1) (aA (ah 2) a5))) ⟨rfl,rfl,rfl,rfl⟩)))),?_⟩
  refine⟨_,rfl,x,av,_,rfl,ao,rfl,_,rfl,_,rfl,x,n,t,bz,a7,hs,_,kvs,.str h',.str g',.str h',.str g',rfl,W,G,bI,cJ,(by show 0<=60;decide),(by show 0<=60;decide),λaC H1 s1=>?_,lH⟩;refine⟨_,rfl,x,C,av,_,_,rfl,s1 _ _ ao,cH.cl,cH.el,rfl,t,rfl,.inr ⟨_,.inl (s1 _ _ W.told)⟩,_,rfl,_,rfl,(by show 2<=sizeLine;decide),λr gi=>?_⟩;have s3:=cV (o:=.tup [V.str h',V.str g']) gi;exact⟨_,h1.t (k:=d3 h' g') (s3 _ _ (s1 _ _ W.told)) a8,q aC _ (s1.trans s3)⟩
end
end fR
namespace dK
variable{κ:Type}[DecidableEq κ]
structure hp(κ:Type)where
 a:κ
 b:κ
 t:Int
inductive Path(rs:List (hp κ))(s:κ):κ->Int->Prop
 |nil:Path rs s s 0
 |snoc {v:Int} (e:hp κ):Path rs s e.a v->e∈rs->Path rs s e.b (v+e.t)
theorem Path.cons{rs:List (hp κ)}(e:hp κ)(he:e∈rs){g:κ}{w:Int}(p:Path rs e.b g w):Path rs e.a g (e.t+w):=by
 induction p with
 |nil=>
  have:=Path.snoc e (Path.nil (rs:=rs) (s:=e.a)) he
  rwa [t_,<-Int.add_zero e.t]at this
 |snoc f _ hf bk=>
  rw[<-Int.add_assoc];exact Path.snoc f bk hf
theorem Path.first{rs:List (hp κ)}{s g:κ}{w:Int}(p:Path rs s g w):(s=g/\w=0)\/∃e∈rs,∃u,e.a=s/\Path rs e.b g u/\w=e.t+u:=by
 induction p with
 |nil=>exact .inl ⟨rfl,rfl⟩
 |@snoc v f _ hf bk=>
  refine .inr ?_;rcases bk with⟨rfl,rfl⟩|⟨e,he,u,ax,p,rfl⟩
  .exact⟨f,hf,0,rfl,.nil,by omega⟩
  .exact⟨e,he,u+f.t,ax,.snoc f p hf,by omega⟩
theorem Path.nonneg{rs:List (hp κ)}(aP:∀e∈rs,1<=e.t){s g:κ}{w:Int}(p:Path rs s g w):0<=w:=by
 induction p with
 |nil=>exact zO _
 |snoc e _ he bk=>have:=aP e he;omega
structure Jn(rs:List (hp κ))(s:κ)(d:κ->Option Int):Prop where
 path:∀k v,d k=some v->Path rs s k v
 least:∀k w,Path rs s k w->∃v,d k=some v/\v<=w
structure nt(rs:List (hp κ))(s:κ)(ns:List κ)(d:κ->Option Int):Prop where
 start:d s=some 0
 path:∀k v,d k=some v->Path rs s k v
 c7:∀k v,d k=some v->v<9*(ns.countP λk=>(d k).isSome)
noncomputable def ok(d:κ->Option Int)(e:hp κ):Prop:=∀v,d e.a=some v->∃u,d e.b=some u/\u<=v+e.t
theorem nt.done{rs:List (hp κ)}{s:κ}{ns:List κ}{d:κ->Option Int}(m:nt rs s ns d)(h:∀e∈rs,ok d e):Jn rs s d:=by
 refine⟨m.path,λk w p=>?_⟩
 induction p with
 |nil=>exact⟨0,m.start,zO _⟩
 |snoc e _ he bk=>
  obtain⟨v,ag,af⟩:=bk;obtain⟨u,aV,bU⟩:=h e he v ag;exact⟨u,aV,by omega⟩
noncomputable def put(d:κ->Option Int)(b:κ)(v:Int):κ->Option Int:=λk=>if k=b then some v else d k
theorem count_le{p q:κ->Bool}(h:∀k,p k=true->q k=true):∀ns:List κ,ns.countP p<=ns.countP q
 |[]=>by simp
 |k::r=>by have bk:=count_le h r;simp only[aby];have:=h k;split<;>split<;>simp_all<;>omega
theorem LI{p q:κ->Bool}(h:∀k,p k=true->q k=true){b:κ}(ag:p b=false)(af:q b=true):∀{ns:List κ},b∈ns->ns.countP p<ns.countP q
 |[],z=>by simp at z
 |k::r,z=>by
  simp only[aby];by_cases e:k=b
  .subst e;have:=count_le h r;simp[ag,af];omega
  .have bk:=LI h ag af (ns:=r) (by rcases fp.mp z with z|z;exact bE z.symm e;exact z);have:=h k;split<;>split<;>simp_all<;>omega
theorem Uv{f g:κ->Nat}(h:∀k,f k<=g k):∀ns:List κ,(ns.map f).sum<=(ns.map g).sum
 |[]=>by simp
 |k::r=>by have:=Uv h r;have:=h k;simp only[gk,oB];omega
theorem Uw{f g:κ->Nat}(h:∀k,f k<=g k){b:κ}(ag:f b<g b):∀{ns:List κ},b∈ns->(ns.map f).sum<(ns.map g).sum
 |[],z=>by simp at z
 |k::r,z=>by
  simp only[gk,oB];by_cases e:k=b
  .subst e;have:=Uv h r;omega
  .have bk:=Uw h ag (ns:=r) (by rcases fp.mp z with z|z;exact bE z.symm e;exact z);have:=h k;omega
noncomputable def val(n:Nat):Option Int->Nat
 |none=>n
 |some v=>v.toNat
noncomputable def ik(ns:List κ)(d:κ->Option Int):Nat:=(ns.map λk=>val (9*ns.length) (d k)).sum
theorem nt.put{rs:List (hp κ)}{s:κ}{ns:List κ}{d:κ->Option Int}(m:nt rs s ns d)(aP:∀e∈rs,1<=e.t/\e.t<=9){e:hp κ}(he:e∈rs)(U:e.b∈ns){v:Int}(aH:d e.a=some v)(hs:∀u,d e.b=some u->v+e.t<u):
  nt rs s ns (put d e.b (v+e.t))/\ik ns (dK.put d e.b (v+e.t))<ik ns d:=by
 have bI:0<=v:=(m.path _ _ aH).nonneg λe he=>(aP e he).1;have cO:=aP e he;have an8:∀k w,dK.put d e.b (v+e.t) k=some w->Path rs s k w:=λk w h=>by
  unfold dK.put at h;split at h
  .rename_i q;cases h;rw[q];exact .snoc e (m.path _ _ aH) he
  .exact m.path k w h
 have hm:∀k,(d k).isSome=true->(dK.put d e.b (v+e.t) k).isSome=true:=λk h=>by
  unfold dK.put;split
  .rfl
  .exact h
 have c7:∀k w,dK.put d e.b (v+e.t) k=some w->w<9*(ns.countP λk=>(dK.put d e.b (v+e.t) k).isSome):=λk w h=>by
  have hle:=count_le hm ns;by_cases q:k=e.b
  .have h':w=v+e.t:=by unfold dK.put at h;rw[aO q]at h;exact(gZ h).symm
   have arD:=m.c7 _ _ aH;cases hd:d e.b with
   |some u=>
    have:=hs u hd;have:=m.c7 _ _ hd;omega
   |none=>
    have bZ:ns.countP (λk=>(d k).isSome)<ns.countP λk=>(dK.put d e.b (v+e.t) k).isSome:=LI hm (b:=e.b) (by rw[hd];rfl) (by unfold dK.put;rw[aO rfl];rfl) U;omega
  .have h':d k=some w:=by
    unfold dK.put at h
    rwa [aJ q]at h
   have:=m.c7 k w h';omega
 refine⟨⟨?_,an8,c7⟩,?_⟩
 .unfold dK.put;split
  .rename_i q;rw[<-q]at hs;have:=hs 0 m.start;omega
  .exact m.start
 .have aC:ns.countP (λk=>(dK.put d e.b (v+e.t) k).isSome)<=ns.length:=abz;have aD:=c7 e.b (v+e.t) (by unfold dK.put;rw[aO rfl]);have lt:val (9*ns.length) (dK.put d e.b (v+e.t) e.b)<val (9*ns.length) (d e.b):=by
   have ax:dK.put d e.b (v+e.t) e.b=some (v+e.t):=by unfold dK.put;rw[aO rfl]
   have hz:((v+e.t).toNat:Int)=v+e.t:=Ej (by omega);rw[ax];cases hd:d e.b with
   |some u=>
    have:=hs u hd;show(v+e.t).toNat < u.toNat
    omega
   |none=>
    show(v+e.t).toNat < 9*ns.length;omega
  refine Uw (λk=>?_) (b:=e.b) lt U;by_cases q:k=e.b
  .subst q;exact pT lt
  .have az:dK.put d e.b (v+e.t) k=d k:=by unfold dK.put;rw[aJ q]
   rw[az];exact b1 _
theorem nt.begin{rs:List (hp κ)}{s:κ}{ns:List κ}(hs:s∈ns):nt rs s ns (λk=>if k=s then some 0 else none):=by
 refine⟨by simp,λk v h=>?_,λk v h=>?_⟩
 .split at h
  .rename_i q;cases h;rw[q];exact .nil
  .cases h
 .split at h
  .cases h;have:0<ns.countP λk=>((if k=s then some (0:Int)else none).isSome):=abA.mpr ⟨s,hs,by simp⟩;omega
  .cases h
structure EM(rs:List (hp κ))(f:κ->Option Int)(g:κ):Prop where
 path:∀k v,f k=some v->Path rs k g v
 least:∀k w,Path rs k g w->∃v,f k=some v/\v<=w
section
variable{rs:List (hp κ)}{f:κ->Option Int}{g:κ}(F:EM rs f g)(aP:∀e∈rs,1<=e.t)
include F
theorem EM.back{e:hp κ}(he:e∈rs){u:Int}(h:f e.b=some u):∃v,f e.a=some v/\v<=u+e.t:=by obtain⟨v,ag,af⟩:=F.least _ _ (Path.cons e he (F.path _ _ h));exact⟨v,ag,by omega⟩
include aP in
theorem EM.other{k:κ}{v:Int}(aE:k≠g)(h:f k=some v):1<=v/\∃e∈rs,∃u,e.a=k/\f e.b=some u/\v=u+e.t:=by
 rcases(F.path _ _ h).first with⟨e,_⟩|⟨e,he,u,rfl,p,rfl⟩
 .exact bE e aE
 .have ag:=p.nonneg aP;have af:=aP e he;obtain⟨u',aV,bU⟩:=F.least _ _ p;obtain⟨tO,dq,rk⟩:=F.back he aV;rw[h]at dq;cases dq;exact⟨by omega,e,he,u',rfl,aV,by omega⟩
end
theorem Path.min{rs:List (hp κ)}(aP:∀e∈rs,1<=e.t){s g:κ}:∀(n:Nat)(w:Int),w.toNat=n->Path rs s g w->∃v,Path rs s g v/\(∀u,Path rs s g u->v<=u):=by
 intro n
 induction n using Nat.strongRecOn with
 |_ n bk=>
  intro w hw p;by_cases h:∃u,Path rs s g u/\u<w
  .obtain⟨u,pu,cJ⟩:=h;have ag:=pu.nonneg aP;exact bk u.toNat (by omega) u rfl pu
  .refine⟨w,p,λu pu=>?_⟩;by_cases q:w<=u
   .exact q
   .exact bE ⟨u,pu,by omega⟩ h
open Classical in
noncomputable def dist(rs:List (hp κ))(s g:κ):Option Int:=if h:∃v,Path rs s g v/\∀u,Path rs s g u->v<=u then some (ğ h)else none
theorem akz{rs:List (hp κ)}{s:κ}{d:κ->Option Int}(L:Jn rs s d)(g:κ):d g=dist rs s g:=by
 unfold dist;cases hd:d g with
 |some v=>
  have p:=L.path g v hd;have Y5:∀u,Path rs s g u->v<=u:=λu pu=>by obtain⟨tO,ag,af⟩:=L.least g u pu;rw[hd]at ag;cases ag;exact af
  have h:∃v,Path rs s g v/\∀u,Path rs s g u->v<=u:=⟨v,p,Y5⟩
  rw[dif_pos h];have c:=IE h;congr 1;have a:=Y5 _ c.1;have b:=c.2 _ p;omega
 |none=>
  have h:¬∃v,Path rs s g v/\∀u,Path rs s g u->v<=u:=λ⟨v,p,_⟩=>by obtain⟨tO,ag,_⟩:=L.least g v p;rw[hd]at ag;cases ag
  rw[dif_neg h]
theorem WU{rs:List (hp κ)}(aP:∀e∈rs,1<=e.t)(g:κ):EM rs (λk=>dist rs k g) g:=by
 refine⟨λk v h=>?_,λk w p=>?_⟩
 .unfold dist at h;split at h
  .rename_i q;cases h;exact(IE q).1
  .cases h
 .have q:=p.min aP _ _ rfl;show∃v,dist rs k g=some v/\v<=w;unfold dist;rw[dif_pos q];exact⟨_,rfl,(IE q).2 _ p⟩
end dK
namespace fR
open PySem ar cK de
noncomputable def dv(hs:bD)(d:de.fv):dK.hp Str:=⟨S (hs.getD d.a []),S (hs.getD d.b []),d.t⟩
noncomputable def jr(hs:bD)(ds:b7):List (dK.hp Str):=ds.map (dv hs)
structure Tab(kvs:List (br×ar.V))(D:k4):Prop where
 at_:∀k:Str,cW kvs (fw k:br)=(D k).map V.int
 ks:∀cA∈kvs,∃k:Str,cA.1=(fw k:br)
theorem ad6{kvs:List (br×ar.V)}(h:∀cA∈kvs,∃k:Str,cA.1=(fw k:br))(b:Str)(v:ar.V):∀cA∈ez kvs (fw b:br) v,∃k:Str,cA.1=(fw k:br):=by
 intro cA aE;unfold ez at aE;split at aE
 .obtain⟨q,bp,e⟩:=cf.mp aE;obtain⟨k,eS⟩:=h q bp;split at e
  .exact⟨k,by rw[<-e];exact eS⟩
  .exact⟨k,by rw[<-e];exact eS⟩
 .rcases fY.mp aE with z|z
  .exact h cA z
  .exact⟨b,by rw[fD.mp z]⟩
theorem Tab.put{kvs:List (br×ar.V)}{D:k4}(T:Tab kvs D)(b:Str)(v:Int):Tab (ez kvs (fw b:br) (.int v)) (dK.put D b v):=⟨λk=>by
 rw[Cq];unfold dK.put;by_cases h:k=b
 .rw[aO h,aO (e9 fw h)];rfl
 .rw[aJ h,aJ λz=>h (J8 z)];exact T.at_ k,ad6 T.ks b _⟩
theorem R2{κ:Type}[DecidableEq κ]{kvs:List (κ×ar.V)}{k:κ}{u:ar.V}(v:ar.V)(h:cW kvs k=some u):(ez kvs k v).length=kvs.length:=by unfold ez;rw[aO (by rw[oQ,h];rfl),bh]
noncomputable def vK(D:k4)(e:dK.hp Str):Bool:=match D e.a with
 |none=>false
 |some v=>match D e.b with
  |none=>true
  |some u=>decide (v+e.t<u)
theorem aqe{D:k4}{e:dK.hp Str}(h:vK D e=true):∃v,D e.a=some v/\∀u,D e.b=some u->v+e.t<u:=by
 unfold vK at h;cases aH:D e.a with
 |none=>rw[aH]at h;cases h
 |some v=>
  rw[aH]at h;refine⟨v,rfl,λu cJ=>?_⟩;rw[cJ]at h;exact kJ h
theorem aph{D:k4}{e:dK.hp Str}(h:vK D e=false):dK.ok D e:=by
 intro v aH;unfold vK at h;rw[aH]at h;cases U:D e.b with
 |none=>rw[U]at h;cases h
 |some u=>
  rw[U]at h;exact⟨u,rfl,by have:=of_decide_eq_false h;omega⟩
inductive abk(vs:a')(H:aa)(Q:bl)(bM:cE):Prop where
 |mk (r f:Addr) (hs:bD) (d:de.fv) (kvs:List (br×ar.V)) (D:k4) (b0:vs=[.ref r,.ref f]) (bH:H r=some (.tup (m7 hs d))) (cu:H f=some (.cD kvs)) (cS:Tab kvs D) (dw:Q (.bf (vK D (dv hs d))) H)
noncomputable def Ry:c9:=λvs H Q bM=>abk vs H Q bM
inductive abl(K:aY)(vs:a')(H:aa)(Q:bl)(bM:cE):Prop where
 |mk (b:Addr) (hs:bD) (rs:b4) (ds:b7) (h:Str) (b0:vs=[.ref b,.str h]) (bH:aS K H b (aW rs)) (cu:hy H hs rs ds) (cS:hs.length<=12) (dw:h∈hs.map S) (en:∀(p:Addr)(H':aa)(kvs:List (br×ar.V))(D:k4),H p=none->aT H H'->H' p=some (.cD kvs)->Tab kvs D->dK.Jn (jr hs ds) h D->Q (.ref p) H')
noncomputable def Rz(K:aY):c9:=λvs H Q bM=>abl K vs H Q bM
section
variable{P:bP}{w:bt}{K:aY}{ae:cN}{base:Heap}
noncomputable abbrev Dw:Stmt:=top 30
noncomputable abbrev Dx:Stmt:=top 31
theorem ad7:d0 ["road","found"] ["road","found"] (dx Dw):=⟨rfl,rfl,rfl,by decide+kernel,rfl,by decide+kernel,by decide+kernel⟩
theorem yc:d0 ["roads","house","found","changed","road"] ["roads","house"] (dx Dx):=⟨rfl,rfl,rfl,by decide+kernel,rfl,by decide+kernel,by decide+kernel⟩
theorem abm{f:Addr}{fd:c1}(F:b6 K "is_shorter_by" "is_shorter_by" Dw f fd):a4 P w K ae base bu 1 f fd ["road","found"] Ry:=by
 refine F.ok ad7 (λvs H Q E h=>?_) (λbK A outer s H vs Q E ay h=>?_)
 .obtain⟨r,eT,hs,d,kvs,D,rfl,_⟩:=h;rfl
 .obtain⟨r,eT,hs,d,kvs,D,rfl,cF,hf,T,q⟩:=h;refine⟨_,(bQ (gd (aeK (Χ (ju ay) (cz d5 (ah 0) bF (λ_ _=>rfl)) (ah 1))) (b8 (dE kE)) gb)
   (b8 (dE (agp (aeJ (Χ (ju ay) (cz d5 (ah 0) bF (λ_ _=>rfl)) (ah 1))) (nZ (lg yV (cZ iB (te (ju ay) (ah 1) (cz d5 (ah 0) bF (λ_ _=>rfl)) (λ_ _=>rfl)) (cz d5 (ah 0) bF (λ_ _=>rfl))) (te (ju ay) (ah 1) (cz d5 (ah 0) bF (λ_ _=>rfl)) (λ_ _=>rfl)) (eD _))))))),?_⟩
  have gq:=T.at_ (S (hs.getD d.a []));have lK:=T.at_ (S (hs.getD d.b []));have ga:=h1.k (k:=fw (S (hs.getD d.a []))) hf;have jU:=h1.k (k:=fw (S (hs.getD d.b []))) hf;rw[gq]at ga;rw[lK]at jU;unfold vK at q;have bw:(dv hs d).a=S (hs.getD d.a []):=rfl;have dN:(dv hs d).b=S (hs.getD d.b []):=rfl;rw[bw,dN]at q;refine⟨_,rfl,r,_,_,_,rfl,rfl,b2.of cF,rfl,_,rfl,eT,_,rfl,ga,_,rfl,?_⟩;cases aH:D (S (hs.getD d.a []))with
  |none=>
   rw[aH]at q;exact kH q
  |some v=>
   rw[aH]at q ga;refine lD ?_;refine⟨_,rfl,r,_,_,_,rfl,rfl,b2.of cF,rfl,_,rfl,eT,_,rfl,jU,_,rfl,?_⟩;cases U:D (S (hs.getD d.b []))with
   |none=>
    rw[U]at q;exact kH q
   |some u=>
    rw[U]at q jU;refine lD ?_;exact⟨_,rfl,_,rfl,r,_,_,_,rfl,rfl,b2.of cF,rfl,eT,_,rfl,ga,_,rfl,r,_,_,_,rfl,rfl,b2.of cF,rfl,_,_,rfl,rfl,_,rfl,_,rfl,r,_,_,_,rfl,rfl,b2.of cF,rfl,eT,_,rfl,jU,_,_,rfl,rfl,q⟩
inductive ait(b p:Addr)(h':Str)(hs:bD)(ds:b7)(H:aa)(m:Nat)(σ:ar.St)(bJ:aa):Prop where
 |mk (kvs:List (br×ar.V)) (D:k4) (ch:Bool) (H2:l2) (b0:σ=[some (.ref b),some (.str h'),some (.ref p),some (.bf ch),H2]) (bH:aT H bJ) (cu:bJ p=some (.cD kvs)) (cS:Tab kvs D) (dw:kvs.length<=(hs.map S).countP (λk=>(D k).isSome)) (en:dK.nt (jr hs ds) h' (hs.map S) D) (ha:ch=false->∀e∈jr hs ds,dK.ok D e) (iT:m=2*dK.ik (hs.map S) D+(if ch=true then 1 else 0))
inductive aiu(b p:Addr)(h':Str)(hs:bD)(ds:b7)(H:aa)(D:k4)(i:Nat)(σ:ar.St)(eX:aa):Prop where
 |mk (h2:List (br×ar.V)) (fA:k4) (l6:Bool) (rU:l2) (b0:σ=[some (.ref b),some (.str h'),some (.ref p),some (.bf l6),rU]) (bH:aT H eX) (cu:eX p=some (.cD h2)) (cS:Tab h2 fA) (dw:h2.length<=(hs.map S).countP (λk=>(fA k).isSome)) (en:dK.nt (jr hs ds) h' (hs.map S) fA) (ha:(l6=false/\fA=D/\∀j d,j<i->ds[j]?=some d->dK.ok fA (dv hs d))\/(l6=true/\dK.ik (hs.map S) fA<dK.ik (hs.map S) D))
theorem abn{f fs:Addr}{fd sP:c1}(F:b6 K "least_turns_from" "least_turns_from" Dx f fd)(AM:dS K ae "is_shorter_by" Dw ["road","found"] fs sP)(NZ:a4 P w K ae base bu 1 fs sP ["road","found"] Ry):
  a4 P w K ae base bu 2 f fd ["roads","house"] (Rz K):=by
 refine F.ok yc (λvs H Q E h=>?_) (λbK A outer s H vs Q E ay h=>?_)
 .obtain⟨b,hs,rs,ds,h',rfl,_⟩:=h;rfl
 .obtain⟨b,hs,rs,ds,h',rfl,U,cF,c7,hm,q⟩:=h;refine⟨_,(bQ (dG (i:=2) yc.aK rfl (cY rfl) (acI (aau (ah 1) bF acH) rfl rfl (by intro z;cases z) (by decide)))
   (bQ (dG (i:=3) yc.aK rfl (cY rfl) kE)
   (bQ (G5 jJ (ki (ah 3))
    (bQ (dG (i:=3) yc.aK rfl (cY rfl) kE)
   (b8 (kC jJ rfl (i1 (ah 0)) (d1 (i:=4) yc.aK rfl (cY rfl))
    (b8 (gd (ki (f5 NZ (ay.mono (by decide)) (by rfl) AM.at_ AM.fn.cT AM.bd .nil dQ (aA (ah 4) (aA (ah 2) a5)))) (bQ (Hv (ju ay) (ah 2) (cz d5 (ah 4) bF (λ_ _=>rfl)) (cZ iB (te (ju ay) (ah 2) (cz d5 (ah 4) bF (λ_ _=>rfl)) (λ_ _=>rfl)) (cz d5 (ah 4) bF (λ_ _=>rfl))) rfl)
   (b8 (dG (i:=3) yc.aK rfl (cY rfl) kE))) gb))))))
   (b8 (dE (ah 2)))))),?_⟩
  have alN:∀e∈jr hs ds,1<=e.t/\e.t<=9:=λe he=>by obtain⟨d,hd,rfl⟩:=cf.mp he;exact(cF.ok d hd).t
  refineλp aP=>⟨_,rfl,a8,[(fw h',.int 0)],rfl,(by show 1<=15;decide),?_⟩
  have cI:upd (upd H p (.cD [])) p (.cD (yy [] [((fw h':br),V.int 0)]))=upd H p (.cD [((fw h':br),V.int 0)]):=by rw[SW];rfl
  rw[cI];have s0:aT H (upd H p (.cD [((fw h':br),V.int 0)])):=cV aP;have T0:Tab [((fw h':br),V.int 0)] (λk=>if k=h' then some 0 else none):=⟨λk=>by
   by_cases z:k=h'
   .rw[l5 (e9 fw z.symm),aO z];rfl
   .rw[k8 λy=>z (J8 y).symm,aJ z];rfl,λcA aE=>⟨h',by rw[fD.mp aE]⟩⟩
  have m0:dK.nt (jr hs ds) h' (hs.map S) (λk=>if k=h' then some 0 else none):=dK.nt.begin hm;have AG:0<(hs.map S).countP λk=>((if k=h' then some (0:Int)else none).isSome):=abA.mpr ⟨h',hm,by simp⟩;refine⟨ait b p h' hs ds H,
   ⟨_,_,_,true,none,rfl,s0,a8,T0,AG,m0,λz=>(nomatch z),rfl⟩,?_⟩
  rintro m σ bJ ⟨kvs,D,ch,H2,rfl,aI,aE,T,len,mid,bo,rfl⟩;refine⟨_,rfl,_,rfl,?_⟩;cases ch with
  |false=>exact lD ⟨_,rfl,q p bJ kvs D aP aI aE T (mid.done (bo rfl))⟩
  |true=>
   refine kH ⟨λa_ eX=>∃(h2:List (br×ar.V))(fA:k4)(l6:Bool)(rU:l2),a_=[some (.ref b),some (.str h'),some (.ref p),some (.bf l6),rU]/\aT H eX/\eX p=some (.cD h2)/\Tab h2 fA/\
    h2.length<=(hs.map S).countP (λk=>(fA k).isSome)/\dK.nt (jr hs ds) h' (hs.map S) fA/\((l6=false/\fA=D/\∀e∈jr hs ds,dK.ok fA e)\/(l6=true/\dK.ik (hs.map S) fA<dK.ik (hs.map S) D)),?_,?_⟩
   .rintro a_ eX ⟨h2,fA,l6,rU,rfl,oi,qn,ed,Cd,x8,mR⟩;refine⟨_,?_,h2,fA,l6,rU,rfl,oi,qn,ed,Cd,x8,?_,rfl⟩
    .rcases mR with⟨rfl,rfl,_⟩|⟨rfl,bZ⟩
     .simp
     .simp;omega
    .rintro rfl;rcases mR with⟨_,_,aR⟩|⟨z,_⟩
     .exact aR
     .cases z
   .refine⟨_,rfl,b,rfl,⟨_,aI.seq U⟩,?_⟩;refine ta (xs:=aW rs) (aiu b p h' hs ds H D)
     ⟨kvs,D,false,H2,rfl,aI,aE,T,len,mid,.inl ⟨rfl,rfl,λj d aQ _=>bE aQ (z_ _)⟩⟩ ?_ ?_ ?_
    .rintro i a_ eX ai ⟨h2,fA,l6,rU,rfl,oi,_⟩;exact oi.seq U
    .rintro i z a_ eX dO ⟨h2,fA,l6,rU,rfl,oi,qn,ed,Cd,x8,mR⟩;unfold aW at dO;rw[cM]at dO;obtain⟨r,d6,rfl⟩:=ft.mp dO;obtain⟨d,WC,qB,hd⟩:=cF.get d6;have rp:dv hs d∈jr hs ds:=cf.mpr ⟨d,eQ WC,rfl⟩;refine⟨_,rfl,_,rfl,r,p,hs,d,h2,fA,rfl,oi _ _ hd,qn,ed,_,rfl,?_⟩;cases mS:vK fA (dv hs d)with
     |false=>
      refine lD ⟨h2,fA,l6,_,rfl,oi,qn,ed,Cd,x8,?_⟩;rcases mR with⟨rfl,rfl,aR⟩|mR
      .refine .inl ⟨rfl,rfl,λj d' aQ ei=>?_⟩;by_cases M3:j=i
       .subst M3;rw[WC]at ei;cases ei;exact aph mS
       .exact aR j d' (by omega) ei
      .exact .inr mR
     |true=>
      obtain⟨v,aH,u5⟩:=aqe mS;have sU:fA (S (hs.getD d.a []))=some v:=aH;obtain⟨am9,bZ⟩:=x8.put alN rp (o5 qB.b) aH u5;have ga:=h1.k (k:=fw (S (hs.getD d.a []))) qn;rw[ed.at_,sU]at ga;have sX:(hs.map S).countP (λk=>(fA k).isSome)<=(hs.map S).length:=abz;rw[bh]at sX;have s9:=oi _ _ hd;refine kH ?_;refine⟨_,rfl,_,rfl,r,_,_,_,rfl,rfl,b2.of s9,rfl,p,_,rfl,ga,_,rfl,r,_,_,_,rfl,rfl,b2.of s9,rfl,_,_,rfl,rfl,_,rfl,_,rfl,r,_,_,_,rfl,rfl,b2.of s9,rfl,p,_,rfl,qR.k (k:=fw (S (hs.getD d.b []))) qn (e1 (by omega)),?_⟩;refine⟨_,dK.put fA (dv hs d).b (v+(dv hs d).t),true,_,rfl,h_ aP oi,a8,ed.put _ _,?_,am9,.inr ⟨rfl,?_⟩⟩
      .cases c2:fA (S (hs.getD d.b []))with
       |none=>
        have ax:(ez h2 (fw (S (hs.getD d.b [])):br) (V.int (v+d.t))).length=h2.length+1:=by rw[xS _ (by rw[ed.at_,c2];rfl),e8];rfl
        have az:(hs.map S).countP (λk=>(fA k).isSome)<(hs.map S).countP (λk=>(dK.put fA (dv hs d).b (v+(dv hs d).t) k).isSome):=
         dK.LI (b:=S (hs.getD d.b [])) (λk aE=>by unfold dK.put;split;rfl;exact aE) (by rw[c2];rfl) (by unfold dK.put;rw[aO (show S (hs.getD d.b [])=(dv hs d).b from rfl)];rfl) (o5 qB.b)
        exact hc (JI ax) (by omega)
       |some u=>
        have ax:(ez h2 (fw (S (hs.getD d.b [])):br) (V.int (v+d.t))).length=h2.length:=R2 _ (by rw[ed.at_,c2];rfl);have az:(hs.map S).countP (λk=>(fA k).isSome)<=(hs.map S).countP (λk=>(dK.put fA (dv hs d).b (v+(dv hs d).t) k).isSome):=
         dK.count_le (λk aE=>by unfold dK.put;split;rfl;exact aE) _
        exact hc (JI ax) (by omega)
      .rcases mR with⟨_,rfl,_⟩|⟨_,af⟩
       .exact bZ
       .exact UR bZ af
    .rintro a_ eX ⟨h2,fA,l6,rU,rfl,oi,qn,ed,Cd,x8,mR⟩;refine⟨h2,fA,l6,rU,rfl,oi,qn,ed,Cd,x8,?_⟩;rcases mR with⟨rfl,rfl,aR⟩|mR
     .refine .inl ⟨rfl,rfl,λe he=>?_⟩;obtain⟨d,hd,rfl⟩:=cf.mp he;obtain⟨j,aQ⟩:=q1 hd;refine aR j d ?_ aQ;have ag:=(gj.mp aQ).1;have af:=cF.len;rw[fO];omega
     .exact .inr mR
end
end fR
namespace cK
open PySem PySem.Spec PyProof.Rows ar
section
variable{X:bB}
noncomputable def aiv(ts:e0):e0:=λD σ H=>∃a kvs,H a=some (.cD kvs)/\∀o,ts ⟨λa_ H'=>H' a=some (.ee o (.cD kvs))/\D.cy a_ (upd H' a (.cD kvs)),λv H'=>H' a=some (.ee o (.cD kvs))/\D.rt v (upd H' a (.cD kvs)),λa_ H'=>H' a=some (.ee o (.cD kvs))/\D.gU a_ (upd H' a (.cD kvs)),λa_ H'=>H' a=some (.ee o (.cD kvs))/\D.fU a_ (upd H' a (.cD kvs))⟩ σ (upd H a (.ee o (.cD kvs)))
theorem afR{st:Stmt}{ts:e0}(hs:g0 X st ts):g0 X st (aiv ts):=by
 intro pins s σ H D I h;obtain⟨a,kvs,aH,h⟩:=h;have f1:∀xs,X.lV a≠some (.tup xs):=λxs z=>by have:=I.base.ir a xs z;rw[aH]at this;cases this
 have f2:∀o v,X.lV a≠some (.ee o v):=λo v z=>by have:=I.base.jt a o v z;rw[aH]at this;cases this
 have dB:∀ps,X.lV a≠some (.pz ps):=λps z=>by obtain⟨m,e⟩:=I.base.j5 a ps z;rw[aH]at e;cases e
 have ok:=I.bo a _ aH;obtain⟨z,y,vs,rel,o,es,ep,e,c⟩:=id ok;have aX:Inv X pins σ (upd H a (.ee o (.cD kvs))) s:=Im I aH (by intro _ w;cases w) (by intro _ w;cases w) ⟨e,z,y,vs,rel,o,es,ep,e,c⟩ f1 f2 dB;have back:∀{a_:ar.St}{H':aa}{s':aF},Inv X pins a_ H' s'->H' a=some (.ee o (.cD kvs))->Inv X pins a_ (upd H' a (.cD kvs)) s':=λ{a_ H' s'}bT mb=>by obtain⟨ax,b0,qT,apt,aol,kI,ie,LZ,az,eE⟩:=bT.bo a _ mb;exact Im bT (u':=.cD kvs) mb (by intro _ w;cases w) (by intro _ w;cases w) ⟨b0,qT,apt,aol,kI,ie,LZ,az,eE⟩ f1 f2 dB
 refine bS (hs pins s σ _ _ aX (h o)) λf s1 q=>?_;cases f with
 |next=>
  obtain⟨a_,H',bT,mb,q⟩:=q;exact⟨a_,_,back bT mb,q⟩
 |brk=>
  obtain⟨a_,H',bT,mb,q⟩:=q;exact⟨a_,_,back bT mb,q⟩
 |cont=>
  obtain⟨a_,H',bT,mb,q⟩:=q;exact⟨a_,_,back bT mb,q⟩
 |ret v=>
  obtain⟨a_,x,H',bT,cg,mb,q⟩:=q;exact⟨a_,x,_,back bT mb,cg,q⟩
noncomputable def z7(a:Addr)(o:Obj)(kvs:List (br×V)):e7:=
 ⟨λi H=>H a=some (.ee o (.cD kvs))/\i<kvs.length,λi H v H'=>H'=H/\∃k x,v=di k/\kvs[i]?=some (k,x),λi H=>H a=some (.ee o (.cD kvs))/\kvs.length<=i⟩
theorem RA{P:bP}{w:bt}{H:aa}{h:Heap}{a:Addr}{o:Obj}{kvs:List (br×V)}(ok:fC P w H h)(aH:H a=some (.ee o (.cD kvs))):h.get? a=some o/\(a==j4)=false/\o.ExactDict/\∃es ep,o.data=.dict es ep/\es.size=kvs.length/\
  ∀(i:Nat)(k:br)(x:V),kvs[i]?=some (k,x)->∃ai:i<es.size,RelV (di k) es[i].key:=by
 obtain⟨cI,_,y,vs,rel,cQ,es,ep,ax,ao,hd,_,pr,_⟩:=ok a _ aH;rw[cI]at ax;cases ax;have gen:∀{kvs:List (br×V)}{ys:List (br×Value)}{gH:List r_},gv kvs ys->Pairs (hx P w) gH ys->gH.length=kvs.length/\∀(i:Nat)(k:br)(x:V),kvs[i]?=some (k,x)->∃e,gH[i]?=some e/\RelV (di k) e.key:=by
  intro kvs ys gH rel pr
  induction pr generalizing kvs with
  |nil=>
   cases rel;exact⟨rfl,λi k x e=>by simp at e⟩
  |@cons e cA gH ys ag af t bk=>
   cases rel with
   |@cons p q ps ml a b=>
    obtain⟨l,f⟩:=bk b;refine⟨by rw[hH,hH,l],λi k x e'=>?_⟩;cases i with
    |zero=>
     simp only[Ui,U6]at e';refine⟨e,rfl,?_⟩;have ax:cA.1=k:=by rw[<-a.1,e']
     rw[ax]at ag;rcases p9 (show vO k e.key=true from ag)with⟨n,t,rfl,eS⟩|⟨n,t,rfl,eS⟩
     .exact⟨t,eS⟩
     .exact⟨t,eS⟩
    |succ i=>exact f i k x (by simpa using e')
 obtain⟨l,f⟩:=gen rel pr;refine⟨cI,y,ao,es,ep,hd,by simpa using l,λi k x ai=>?_⟩;obtain⟨e,AY,r⟩:=f i k x ai;obtain⟨ag,af⟩:=gj.mp AY;have jV:i<es.size:=by simpa using ag
 refine⟨jV,?_⟩;have:es[i]=e:=by simpa using af
 rw[this];exact r
end
theorem Ļ{P:bP}{w:bt}{K:aY}{dI:Expr}{o:Obj}{kvs:List (br×V)}{es:Array r_}{ep:Nat}(a it:Addr)(hd:o.data=.dict es ep):
  Turn P w K dI (z7 a o kvs) [it] it (λi h=>h.IsKeyIter it a i es.size ep)where
 mem:=by simp
 obj:=λi h st b U=>by
  obtain rfl:b=it:=by simpa using U
  obtain⟨o,e,c,d⟩:=st;exact⟨o,e,λv z=>by rw[d]at z;cases z⟩
 keep:=λi h h' st k=>by obtain⟨o,e,r⟩:=st;exact⟨o,k it (by simp) o e,r⟩
 item:=by
  intro X f' hw fa aC i pins s σ H E I hf st bx;subst f' hw fa;obtain⟨aH,ai⟩:=bx;obtain⟨go,_,bg,js,ra,hP,gs,ge⟩:=RA I.bo aH;rw[hd]at hP;cases hP;obtain⟨n3,uP⟩:∃q,kvs[i]?=some q:=⟨_,ct ai⟩
  obtain⟨sY,pk⟩:=ge i n3.1 n3.2 uP;obtain⟨f0,f1,f2,dB,f4,e_⟩:=hf it (by simp);refine Uu st ⟨o,go,bg,hd⟩ sY λh' aN b5=>?_;have aX:Inv X pins σ H {s with heap:=h'}:=I.turned (t':=s.toks) (λb o U e=>(b5.2 b U).trans e) f0 f1 dB f4 e_;obtain⟨yr,e,c,d⟩:=id aN;exact⟨_,rfl,yU (s:={s with heap:=h'}) e c d (by decide) ⟨di n3.1,H,aX,pk,⟨rfl,n3.1,n3.2,rfl,uP⟩,aN,λb U=>(hf b U).1⟩⟩
 done:=by intro X f' hw fa aC i pins s σ H E I hf st bx;subst f' hw fa;obtain⟨aH,ai⟩:=bx;obtain⟨go,_,bg,js,ra,hP,gs,ge⟩:=RA I.bo aH;rw[hd]at hP;cases hP;obtain⟨f0,f1,f2,dB,f4,e_⟩:=hf it (by simp);exact Tr (I.ok.hd aC) st ⟨o,go,bg,hd⟩ (by omega) λh' dN=>⟨rfl,I.turned (t':=s.toks) (λb o U e=>dN b o U e) f0 f1 dB f4 e_⟩
 self:=λA i s Q E st h=>by have T0:=st.typeIs;refine H5 T0 F.slot_dict_keyiterator_iter (kO F.slot_dict_keyiterator_iter T0 F.entry_dict_keyiterator_iter ?_ (F.args_dict_keyiterator_iter_1 _));exact a9 ⟨_,rfl,"dict_keyiterator",_,T0,F.slot_dict_keyiterator_next.lookup,h⟩
section
variable{X:bB}{dI:Expr}
noncomputable def afS(eg:TE):TI:=λσ H R=>eg σ H λx H1=>∃a o kvs,x=.ref a/\H1 a=some (.ee o (.cD kvs))/\R (z7 a o kvs) H1
theorem aci{o:Expr}{eg:TE}(aR:bN X o eg):my X dI o (afS eg):=by
 intro pins s σ H R I h;refine bS (aR pins s σ H _ I h) λv s1⟨x,H1,aX,b',a,ob,kvs,ex,aH,bq⟩=>?_;subst ex;cases b';obtain⟨go,Ml,bg,es,ep,hP,gs,ge⟩:=RA aX.bo aH;refine Ts Ml ⟨ob,go,bg,hP⟩ ?_;refine⟨s1.heap.objs.size,[s1.heap.objs.size],_,_,H1,rfl,aX.kept (t':=s1.toks) λb o e=>c6 _ e,Ļ a _ hP,⟨_,ff _ rfl,rfl,rfl⟩,λb U=>?_,bq⟩;obtain rfl:b=s1.heap.objs.size:=by simpa using U
 exact aX.rf (b1 _) (aX.bo.fresh (b1 _))
theorem aan{a:Addr}{o:Obj}{kvs:List (br×V)}{g:eK}{c0:e0}{D:Ends}{σ:ar.St}{H:aa}(Pv:Nat->ar.St->aa->Prop)(h0:Pv 0 σ H)(aq:∀i σ H,Pv i σ H->H a=some (.ee o (.cD kvs)))(hs:∀i k x σ H,kvs[i]?=some (k,x)->Pv i σ H->g (di k) σ H λhn aj=>c0 {D with cy:=Pv (i+1),fU:=Pv (i+1),gU:=D.cy} hn aj)(hd:∀σ H,Pv kvs.length σ H->D.cy σ H):
  ∃W:Nat->Nat->ar.St->aa->Prop,(∃m,W 0 m σ H)/\∀i m σ H,W i m σ H->
   ((z7 a o kvs).stop i H/\D.cy σ H)\/((z7 a o kvs).go i H/\∃N:ar.St->aa->Prop,(∀a_ H',N a_ H'->∃c5,c5<m/\W (i+1) c5 a_ H')/\∀x H',(z7 a o kvs).ni i H x H'->g x σ H' λhn aj=>c0 {D with cy:=N,fU:=N,gU:=D.cy} hn aj):=by
 refine⟨λi m σ H=>m=kvs.length-i/\i<=kvs.length/\Pv i σ H,⟨kvs.length,by simp,dM _,h0⟩,?_⟩;rintro i m σ H ⟨rfl,ai,p⟩;have q:=aq i σ H p;by_cases bZ:i<kvs.length
 .refine .inr ⟨⟨q,bZ⟩,Pv (i+1),λa_ H' iO=>⟨kvs.length-(i+1),by omega,rfl,bZ,iO⟩,λv H' y=>?_⟩;obtain⟨rfl,k,x,rfl,eS⟩:=y;exact hs i k x σ H' eS p
 .have e:i=kvs.length:=by omega
  subst e;exact .inl ⟨⟨q,b1 _⟩,hd σ H p⟩
theorem p7{α β:Type}{M:oD}{A:cU}{E:cx}{s:aF}(c:Sem α){k:α->Sem β}{Q:β->aF->Prop}(h:aM M A c (λa s'=>aM M A (k a) Q E s') E s):aM M A (c >>=k) Q E s:=au h
theorem ahe{h:Heap}{b:Addr}{o:Obj}(e:h.get? b=some o):b≠h.objs.size:=dP (dm e)
theorem UD{h:Heap}{b:Addr}{o:Obj}(e:h.get? b=some o):b≠h.objs.size+1:=dP (uo (dm e))
theorem Tt{val:Nat->Int}:∀k,jl (λi j=>decide (val i>val j)) k<=k/\∀j,j<=k->val j<=val (jl (λi j=>decide (val i>val j)) k)
 |0=>⟨b1 _,λj h=>by rw[acx.mp h];exact zO _⟩
 |k+1=>by
  obtain⟨a,b⟩:=Tt (val:=val) k;simp only[jl];by_cases h:val (k+1)>val (jl (λi j=>decide (val i>val j)) k)
  .rw[aO (dU h)];refine⟨b1 _,λj aQ=>?_⟩;rcases um j (k+1)with ag|ag
   .exact aad (b j (by omega)) (aac h)
   .rw[show j=k+1 by omega];exact zO _
  .rw[aJ (by rw[eM h];exact fz)];refine⟨by omega,λj aQ=>?_⟩;rcases um j (k+1)with ag|ag
   .exact b j (by omega)
   .rw[show j=k+1 by omega];omega
theorem R3{val:Nat->Int}:∀k,jl (λi j=>decide (val i<val j)) k<=k/\∀j,j<=k->val (jl (λi j=>decide (val i<val j)) k)<=val j
 |0=>⟨b1 _,λj h=>by rw[acx.mp h];exact zO _⟩
 |k+1=>by
  obtain⟨a,b⟩:=R3 (val:=val) k;simp only[jl];by_cases h:val (k+1)<val (jl (λi j=>decide (val i<val j)) k)
  .rw[aO (dU h)];refine⟨b1 _,λj aQ=>?_⟩;rcases um j (k+1)with ag|ag
   .exact aad (aac h) (b j (by omega))
   .rw[show j=k+1 by omega];exact zO _
  .rw[aJ (by rw[eM h];exact fz)];refine⟨by omega,λj aQ=>?_⟩;rcases um j (k+1)with ag|ag
   .exact b j (by omega)
   .rw[show j=k+1 by omega];omega
noncomputable def JF(ns:fh):Int:=ns.getD (jl (λi j=>decide (ns.getD i 0>ns.getD j 0)) (ns.length-1)) 0
noncomputable def qz(ns:fh):Int:=ns.getD (jl (λi j=>decide (ns.getD i 0<ns.getD j 0)) (ns.length-1)) 0
theorem arc{ns:fh}(h:ns≠[]):JF ns∈ns/\∀x∈ns,x<=JF ns:=by
 have aP:0<ns.length:=ug.mpr h;obtain⟨a,b⟩:=Tt (val:=λi=>ns.getD i 0) (ns.length-1);have ai:jl (λi j=>decide (ns.getD i 0>ns.getD j 0)) (ns.length-1)<ns.length:=by omega
 refine⟨?_,λx ao=>?_⟩
 .unfold JF;rw[dr,ct ai];exact eY ai
 .obtain⟨j,aQ,rfl⟩:=Un.mp ao;have:=b j (by omega);have e:ns.getD j 0=ns[j]:=by rw[dr,ct aQ];rfl
  rw[<-e];exact this
theorem UE{ns:fh}(h:ns≠[]):qz ns∈ns/\∀x∈ns,qz ns<=x:=by
 have aP:0<ns.length:=ug.mpr h;obtain⟨a,b⟩:=R3 (val:=λi=>ns.getD i 0) (ns.length-1);have ai:jl (λi j=>decide (ns.getD i 0<ns.getD j 0)) (ns.length-1)<ns.length:=by omega
 refine⟨?_,λx ao=>?_⟩
 .unfold qz;rw[dr,ct ai];exact eY ai
 .obtain⟨j,aQ,rfl⟩:=Un.mp ao;have:=b j (by omega);have e:ns.getD j 0=ns[j]:=by rw[dr,ct aQ];rfl
  rw[<-e];exact this
theorem aao{prog:bP}{w:bt}{A:cU}{R:q7->aF->Prop}{I:Addr}{cw wr:b4}{n:Nat}{P:Nat->Value->Prop}{St:Nat->Heap->Prop}(W:Walks prog w A.in1 I cw wr n P St)(eL:hg)(aC:CmpOf prog w A.in1 .Lt P eL)(S:Addr)(yd:S∉cw):
  ∀(k j:Nat)(s:aF)(nf:Value)(c:Nat),n-(j+1)=k->j+1<=n->St (j+1) s.heap->P (jl eL j) nf->s.heap.get? S=some ⟨.type "list",none,.seq #[nf,nf] c,#[]⟩->
   (∀v h' aG,P (jl eL (n-1)) v->(∀b o,b∉wr->b≠S->s.heap.get? b=some o->h'.get? b=some o)->R (.ok (.ret v)) {s with heap:=h',toks:=aG})->
   k9 (ba prog w) A (.builtin "min.loop" ⟨[.ref I,.none,.ref S],[]⟩) R s:=by
 have wS:S∉wr:=λh=>yd (W.sub _ h);have nm:(toString "min"++toString ".loop":String)="min.loop":=by decide
 intro k
 induction k with
 |zero=>
  intro j s nf c aE aQ st lG sQ cF;have kB:j+1=n:=by omega
  refine oM Vb ?_;rw[qX wV _];refine p7 (Z1 (.ref S)) (H6 sQ rfl (p7 (tryCatch (iP (.ref I)) _) (Q2 (W.done s _ _ (kB▸st) λh' aG cm=>?_))));refine p7 (QL S (λ_=>#[])) (H9 (cm S _ wS sQ) rfl (au (DG (a9 ?_))));exact cF nf _ aG (by rw[<-kB];exact lG) λb o gB ew e=>(ox _ _ (d8 ew)).trans (cm b o gB e)
 |succ k bk=>
  intro j s nf c aE aQ st lG sQ cF;have lt:j+1<n:=by omega
  refine oM Vb ?_;rw[qX wV _];refine p7 (Z1 (.ref S)) (H6 sQ rfl (p7 (tryCatch (iP (.ref I)) _) (Q2 (W.item (j+1) s _ _ lt st λv h' aG ah aN cm=>?_))));have xp:=cm S _ wS sQ;refine p7 (tryCatch (nV [v,v] (richCompare .Lt v nf >>=_)) _) (Q2 (iv (au (aC (j+1) (jl eL j) v nf _ _ _ ah lG (au (iv (pF (au (DG (a9 ?_))))))))));cases U:eL (j+1) (jl eL j)with
  |true=>
   simp only[if_true];refine au (H9 xp rfl (au (DG ?_)));rw[nm];refine a9 ⟨rJ wV _,bk (j+1) _ v _ (by omega) lt (W.frame _ _ _ aN λb AE o e=>(ox _ _ (λh:S=b=>yd (by rw[h];exact AE))).trans e) (by simp only[jl,U,if_true];exact ah) (mu _ xp rfl) λv2 af Ds CR Cc=>?_⟩;exact cF v2 af Ds CR λb o gB ew e=>Cc b o gB ew ((ox _ _ (d8 ew)).trans (cm b o gB e))
  |false=>
   simp only[tW,if_false];refine au (DG ?_);rw[nm];exact a9 ⟨rJ wV _,bk (j+1) _ nf c (by omega) lt aN (by simp only[jl,U,tW,if_false];exact lG) xp λv2 af Ds CR Cc=>cF v2 af Ds CR λb o gB ew e=>Cc b o gB ew (cm b o gB e)⟩
theorem ļ{prog:bP}{w:bt}{A:cU}{R:q7->aF->Prop}{I:Addr}{cw wr:b4}{n:Nat}{P:Nat->Value->Prop}{St:Nat->Heap->Prop}(W:Walks prog w A.in1 I cw wr n P St)(eL:hg)(aC:CmpOf prog w A.in1 .Lt P eL)(S:Addr)(yd:S∉cw){s:aF}{c:Nat}(st:St 0 s.heap)(sQ:s.heap.get? S=some ⟨.type "list",none,.seq #[] c,#[]⟩)(hz:0<n)(ag:∀v h' aG,P (jl eL (n-1)) v->(∀b o,b∉wr->b≠S->s.heap.get? b=some o->h'.get? b=some o)->R (.ok (.ret v)) {s with heap:=h',toks:=aG}):
  k9 (ba prog w) A (.builtin "min.loop" ⟨[.ref I,.none,.ref S],[]⟩) R s:=by
 have wS:S∉wr:=λh=>yd (W.sub _ h);have nm:(toString "min"++toString ".loop":String)="min.loop":=by decide
 refine oM Vb ?_;rw[qX wV _];refine p7 (Z1 (.ref S)) (H6 sQ rfl ?_);refine p7 (tryCatch (iP (.ref I)) _) (Q2 (W.item 0 s _ _ hz st λv h' aG ah aN cm=>?_));have xp:=cm S _ wS sQ;refine p7 (QL S (λ_=>#[v,v])) (H9 xp rfl ?_);rw[nm];refine a9 ⟨rJ wV _,aao W eL aC S yd _ 0 _ v _ rfl hz (W.frame _ _ _ aN λb AE o e=>(ox _ _ (λh:S=b=>yd (by rw[h];exact AE))).trans e) ah (mu _ xp rfl) λv2 af Ds CR Cc=>?_⟩;exact ag v2 af Ds CR λb o gB ew e=>Cc b o gB ew ((ox _ _ (d8 ew)).trans (cm b o gB e))
theorem ŵ(a:Value):Az "min" ⟨[a],[]⟩:=by unfold Az;kernel_rfl
theorem acj{prog:bP}{w:bt}{A:cU}{E:cx}{s:aF}{l:Addr}{items:iA}{val:Nat->Int}{Q:cx}(dy:A.in1.handled=none)(aq:s.heap.IsList l items)(bI:∀i v,items[i]?=some v->∃t,v=mE (val i) t)(hz:0<items.size)(ag:∀t h' aG,(∀b o,s.heap.get? b=some o->h'.get? b=some o)->Q (mE (val (jl (λi j=>decide (val i<val j)) (items.size-1))) t) {s with heap:=h',toks:=aG}):
  aM (ba prog w) A (call (.builtin "min") [.ref l] []) Q E s:=by
 have nm:(toString "min"++toString ".loop":String)="min.loop":=by decide
 obtain⟨ol,rr,_⟩:=id aq;have nT:l≠s.heap.objs.size:=dP (dm rr);refine aqJ PySem.F.kind_min PySem.F.plain_min PySem.F.entry_min (ŵ _) ?_;refine p7 (aqo "min" ["key","default"] 0 ⟨[],[]⟩) (y2 (show _=pure [none,none]from rfl) ?_);refine au (a9 ?_);refine au (Q1 aq ?_);refine au (nh ?_);rw[nm];have W:=V_ (prog:=prog) (w:=w) (A:=A.in1) dy s.heap.objs.size l nT items;have jD:(s.heap.push {cls:=.type "list_iterator",data:=.fields #[.ref l,.int 0 0]}).objs.size=s.heap.objs.size+1:=t6 ..;have bZ:=dm rr;have Xm:(s.heap.push {cls:=.type "list_iterator",data:=.fields #[.ref l,.int 0 0]}).get? s.heap.objs.size=some {cls:=.type "list_iterator",data:=.fields #[.ref l,.int 0 0]}:=ff _ rfl;have qo:=aq.push {cls:=.type "list_iterator",data:=.fields #[.ref l,.int 0 0]};have k1:∀b o,s.heap.get? b=some o->(s.heap.push {cls:=.type "list_iterator",data:=.fields #[.ref l,.int 0 0]}).get? b=some o:=λb o e=>c6 _ e;dsimp only;generalize s.heap.push {cls:=.type "list_iterator",data:=.fields #[.ref l,.int 0 0]}=Nf at jD Xm qo k1⊢;refine a9 ⟨rJ wV _,ļ W _ (CmpOf.ints_lt val bI) Nf.objs.size (by rw[jD];simp only[fp,eZ,or_false,not_or];exact⟨acB _,d8 (UD rr)⟩) ⟨⟨_,c6 _ Xm,rfl,rfl⟩,qo.push _⟩ (ff _ rfl) hz λv h' aG ah cm=>?_⟩;obtain⟨fQ,rfl⟩:=bI _ v ah;exact ag fQ h' aG λb o e=>cm b o (by simp only[fp,eZ,or_false];exact ahe e) (by rw[jD];exact UD e) (c6 _ (k1 b o e))
end
theorem É{X:bB}(aC:X.calm=true):iF X (.builtin "min") (λxs H Q=>∃a ns,xs=[.ref a]/\aS X.K H a (ns.map V.int)/\ns≠[]/\Q (.int (qz ns)) H):=by
 intro pins s σ H xs us Q I r h;obtain⟨a,ns,rfl,bp,dz,q⟩:=h;obtain⟨u,rfl,eA⟩:=vals1 r;cases eA;obtain⟨its,cg,pl,hz⟩:=I.list bp;have hlen:ns.length=its.length:=by have:=cg.length;rwa [bh]at this
 refine acj (val:=λi=>ns.getD i 0) (items:=its.toArray) (I.ok.hd aC) pl.isList (λi v ev=>?_) (by rw[ek,<-hlen];exact ug.mpr dz) λt h' aG cm=>?_
 .have L2:its[i]?=some v:=by simpa using ev
  have ai:i<ns.length:=by rw[hlen];exact(gj.mp L2).1
  obtain⟨u',b9,cB⟩:=cg.get (x:=V.int (ns.getD i 0)) (i:=i) (by rw[cM,ct ai];simp[dr,ai]);rw[L2]at b9;cases b9;exact cB
 .refine⟨.int (qz ns),H,I.kept cm,⟨t,?_⟩,q⟩;unfold qz;rw[hlen];simp
end cK
namespace fR
open PySem ar cK de
noncomputable def TabAt(H:aa)(p:Addr)(D:k4):Prop:=∃kvs,fv H p (.cD kvs)/\Tab kvs D
theorem TabAt.get{H:aa}{p:Addr}{D:k4}(T:TabAt H p D)(g:Str):h1 H p (.str g) ((D g).map V.int):=by obtain⟨kvs,r,t⟩:=T;exact .inl ⟨kvs,fw g,r,rfl,(t.at_ g).symm⟩
noncomputable def w5(Da Db:k4)(g:Str)(t:Int):Bool:=match Db g with
 |none=>false
 |some u=>decide (some (t+u)=Da g)
inductive afT(vs:a')(H:aa)(Q:bl)(bM:cE):Prop where
 |mk (r f jc lG:Addr) (hs:bD) (d:de.fv) (kvs:List (br×ar.V)) (g:Str) (Da Db:k4) (b0:vs=[.ref r,.ref f,.str g]) (bH:H r=some (.tup (m7 hs d))) (cu:H f=some (.cD kvs)) (cS:cW kvs (fw (S (hs.getD d.a [])):br)=some (.ref jc)) (dw:cW kvs (fw (S (hs.getD d.b [])):br)=some (.ref lG)) (en:TabAt H jc Da) (ha:TabAt H lG Db) (iT:(∀u,Db g=some u->∃v,Da g=some v)) (ot:Q (.bf (w5 Da Db g d.t)) H)
noncomputable def JG:c9:=λvs H Q bM=>afT vs H Q bM
noncomputable abbrev ih(hs:bD)(ds:b7)(h:Str):Str->Option Int:=λg=>dK.dist (jr hs ds) h g
noncomputable def HT(hs:bD)(ds:b7)(i:Int):Str:=S (hs.getD (ds.getD i.toNat jP).b [])
noncomputable def r3(hs:bD)(ds:b7)(h g:Str)(i:Int):Bool:=w5 (ih hs ds h) (ih hs ds (HT hs ds i)) g (ds.getD i.toNat jP).t
noncomputable def fit(hs:bD)(ds:b7)(h g:Str):List Int:=(iq hs ds (·.a) h).filter (r3 hs ds h g)
noncomputable def best(hs:bD)(ds:b7)(h g:Str):Int:=qz (fit hs ds h g)
theorem UG{hs:bD}{ds:b7}(qh:∀e∈jr hs ds,1<=e.t){h g:Str}{v:Int}(bI:ih hs ds h g=some v)(aD:h≠g):fit hs ds h g≠[]:=by
 obtain⟨_,e,he,u,bw,rd,ev⟩:=(dK.WU qh g).other qh aD bI;obtain⟨d,hd,rfl⟩:=cf.mp he;obtain⟨i,ai⟩:=q1 hd;have aq:=(gj.mp ai).1;have cI:ds.getD i jP=d:=rz ai;refine abR (a:=(i:Int)) (gx.mpr ⟨?_,?_⟩)
 .unfold iq yB;refine cf.mpr ⟨i,gx.mpr ⟨jH.mpr aq,?_⟩,rfl⟩;have akN:S (hs.getD d.a [])=h:=bw;rw[cI,akN];exact dU rfl
 .unfold r3 w5 HT;rw[lX,cI];have ak1:ih hs ds (S (hs.getD d.b [])) g=some u:=rd;have L2:v=u+d.t:=ev;rw[ak1,bI];refine dU ?_;congr 1;omega
theorem R4{hs:bD}{ds:b7}(qh:∀e∈jr hs ds,1<=e.t){h g:Str}{v:Int}(bI:ih hs ds h g=some v)(aD:h≠g):best hs ds h g∈iq hs ds (·.a) h/\r3 hs ds h g (best hs ds h g)=true:=
 gx.mp (UE (UG qh bI aD)).1
structure ov(kd:Str->Str->Int)(L:bR)(kvs:dt)(M:Str->Str->Prop):Prop where
 yes:∀h g,M h g->cW kvs (d3 h g)=some (.int (kd h g))
 no:∀h g,¬M h g->cW kvs (d3 h g)=none
 key:∀k∈kvs.map (·.1),∃h g,k=d3 h g/\h∈L/\g∈L
 aK:(kvs.map (·.1)).Nodup
theorem yF{h g h' g':Str}(e:d3 h g=d3 h' g'):h=h'/\g=g':=by unfold d3 at e;simp only[Ub,Sum.inr.injEq,and_true]at e;exact e
theorem R5{κ:Type}[DecidableEq κ]{kvs:List (κ×ar.V)}{k:κ}{u:ar.V}(v:ar.V)(h:cW kvs k=some u):(ez kvs k v).map (·.1)=kvs.map (·.1):=by unfold ez;rw[aO (by rw[oQ,h];rfl),fS];refine q3 λq _=>?_;show(if q.1=k then(q.1,v)else q).1=q.1;split<;>rfl
theorem ov.put{kd:Str->Str->Int}{L:bR}{kvs:dt}{M:Str->Str->Prop}(B:ov kd L kvs M){h g:Str}(dy:h∈L)(bx:g∈L):ov kd L (ez kvs (d3 h g) (.int (kd h g))) (λh' g'=>M h' g'\/(h'=h/\g'=g)):=by
 refine⟨λh' g' m=>?_,λh' g' m=>?_,?_,?_⟩
 .rw[Cq];by_cases e:d3 h' g'=d3 h g
  .obtain⟨rfl,rfl⟩:=yF e;rw[aO rfl]
  .rw[aJ e];refine B.yes h' g' (m.resolve_right λz=>e ?_);rw[z.1,z.2]
 .rw[Cq,aJ λe=>m (.inr (yF e))];exact B.no h' g' λz=>m (.inl z)
 .intro k aE;cases bI:cW kvs (d3 h g)with
  |none=>
   rw[xS _ bI,fo]at aE;rcases fY.mp aE with z|z
   .exact B.key k z
   .exact⟨h,g,fD.mp z,dy,bx⟩
  |some u=>
   rw[R5 _ bI]at aE;exact B.key k aE
 .cases bI:cW kvs (d3 h g)with
  |none=>exact acJ _ B.aK bI
  |some u=>rw[R5 _ bI];exact B.aK
theorem ov.iff{kd:Str->Str->Int}{L:bR}{kvs:dt}{M Ux:Str->Str->Prop}(B:ov kd L kvs M)(e:∀h g,M h g↔Ux h g):ov kd L kvs Ux:=
 ⟨λh g m=>B.yes h g ((e h g).mpr m),λh g m=>B.no h g λz=>m ((e h g).mp z),B.key,B.aK⟩
theorem ov.c7{kd:Str->Str->Int}{L:bR}{kvs:dt}{M:Str->Str->Prop}(B:ov kd L kvs M)(aq:L.length<=12):kvs.length<=144:=by
 have ag:=oO (L:=L.flatMap λh=>L.map (d3 h)) B.aK λk aE=>by obtain⟨h,g,rfl,dy,bx⟩:=B.key k aE;exact Jy.mpr ⟨h,dy,cf.mpr ⟨g,bx,rfl⟩⟩
 have af:(L.flatMap λh=>L.map (d3 h)).length=L.length*L.length:=by simp[abJ,abL]
 rw[af,bh]at ag;exact hc ag (acz aq aq)
theorem ad8{H H':aa}{a:Addr}(aI:aT H H')(z:d4):aT (upd H a z) (upd H' a z):=λb o e=>by
 by_cases U:b=a
 .rw[U,a8]at e⊢;exact e
 .rw[aL U]at e⊢;exact aI b o e
theorem ack{H H':aa}{a:Addr}{u z:d4}(aH:H a=some u)(aI:aT (upd H a z) H'):aT H (upd H' a u):=λb o e=>by
 by_cases U:b=a
 .rw[U,a8];rw[U,aH]at e;exact e
 .rw[aL U];exact aI b o (by rw[aL U];exact e)
section
variable{P:bP}{w:bt}{K:aY}{ae:cN}{base:Heap}
noncomputable abbrev z8:Stmt:=top 35
theorem VF:d0 ["road","far_from","goal","behind"] ["road","far_from","goal"] (dx z8):=⟨rfl,rfl,rfl,by decide+kernel,rfl,by decide+kernel,by decide+kernel⟩
theorem afU{f:Addr}{fd:c1}(F:b6 K "begins_shortest" "begins_shortest" z8 f fd):a4 P w K ae base bu 1 f fd ["road","far_from","goal"] JG:=by
 refine F.ok VF (λvs H Q E h=>?_) (λbK A outer s H vs Q E ay h=>?_)
 .obtain⟨r,eT,jc,lG,hs,d,kvs,g,Da,Db,rfl,_⟩:=h;rfl
 .obtain⟨r,eT,jc,lG,hs,d,kvs,g,Da,Db,rfl,cF,hf,H0,nf,p1,d9,bI,q⟩:=h;refine⟨_,(bQ (dG (i:=3) VF.aK rfl (cY rfl) (G9 (ju ay) (te (ju ay) (ah 1) (cz d5 (ah 0) bF (λ_ _=>rfl)) (λ_ _=>rfl)) (ah 2) ⟨rfl,rfl,rfl,rfl⟩))
   (b8 (dE (lq (lg S2 (ah 3) l' (eD _)) (nZ (lg rG (cZ iB (cz d5 (ah 0) bF (λ_ _=>rfl)) (ah 3)) (te (ju ay) (te (ju ay) (ah 1) (cz d5 (ah 0) bF (λ_ _=>rfl)) (λ_ _=>rfl)) (ah 2) (λ_ _=>rfl)) (eD _))))))),?_⟩
  have ga:=h1.k (k:=fw (S (hs.getD d.a []))) hf;have jU:=h1.k (k:=fw (S (hs.getD d.b []))) hf;rw[H0]at ga;rw[nf]at jU;have cb:=p1.get g;have c0:=d9.get g;unfold w5 at q;have a3:El H lG:=by obtain⟨N9,r0,_⟩:=d9;exact .inl ⟨N9,r0⟩
  refine⟨_,rfl,_,rfl,r,_,_,_,rfl,rfl,b2.of cF,rfl,eT,_,rfl,jU,lG,rfl,a3,_,rfl,_,c0,_,rfl,?_⟩;cases U:Db g with
  |none=>
   rw[U]at q;exact⟨rfl,_,rfl,eF (by decide) q⟩
  |some u=>
   rw[U]at q;obtain⟨v,bI⟩:=bI u U;have Mk:=cb;rw[bI]at Mk q;refine⟨rfl,_,rfl,fi (by simp) ⟨_,rfl,r,_,_,_,rfl,rfl,b2.of cF,rfl,_,rfl,_,_,rfl,rfl,_,rfl,_,rfl,r,_,_,_,rfl,rfl,b2.of cF,rfl,eT,_,rfl,ga,_,rfl,jc,_,rfl,Mk,rfl,?_⟩⟩;have AY:decide (V.int (d.t+u)=V.int v)=decide (some ((d.t:Int)+u)=some v):=by simp
   rw[AY];exact q
theorem R6{hs:bD}{y:Str}(h:y∈hs.map S):inD (.str y) (ck hs)=true:=by
 obtain⟨x,ao,rfl⟩:=cf.mp h;obtain⟨k,aE,eS⟩:=hq ao;have e:hs.getD k []=x:=by rw[dr,ct aE,eS];rfl
 have:=Q_ aE
 rwa [e]at this
theorem RB{hs:bD}{h g:Str}(a:h∈hs.map S)(b:g∈hs.map S)(n:h≠g):k' (ck hs) (.str h) (.str g)=true:=by unfold k';rw[R6 a,R6 b,í,eM n];rfl
theorem yG{H:aa}{hs:bD}(G:Good hs){c:Str}(h:c∈hs.map S):gy H (.str c) (.str c):=by obtain⟨x,ao,rfl⟩:=cf.mp h;have n:=G.nm x ao;exact .str _ (by rw[DL];have:=n.2.1;omega) (Cs n)
noncomputable def VG(H1 H:aa)(q:Addr)(mM:List (br×ar.V))(hs:bD)(ds:b7)(h:Str):Prop:=∃(p:Addr)(cA:List (br×ar.V)),cW mM (fw h:br)=some (.ref p)/\p≠q/\H1 p=none/\H p=some (.cD cA)/\Tab cA (ih hs ds h)
theorem m1{H H':aa}{p:Addr}(aI:aT H H')(aP:H' p=none):H p=none:=by
 cases e:H p with
 |none=>rfl
 |some o=>rw[aI _ _ e]at aP;cases aP
theorem hO{H:aa}{a b:Addr}{o:d4}(aH:H a=some o)(U:H b=none):a≠b:=λe=>by rw[e,U]at aH;cases aH
theorem Wa{hs:bD}{i:Nat}{v:ar.V}(e:(dC hs)[i]?=some v):∃h,v=.str h/\(hs.map S)[i]?=some h:=by unfold dC at e;rw[cM]at e;obtain⟨x,ao,rfl⟩:=ft.mp e;exact⟨S x,rfl,by rw[cM,ao];rfl⟩
theorem Ê{κ:Type}[DecidableEq κ]{k:κ}{x:ar.V}:∀{kvs:List (κ×ar.V)},(k,x)∈kvs->(cW kvs k).isSome=true:=λ{kvs}h=>by rw[<-oQ];exact pN.mpr ⟨_,h,dU rfl⟩
theorem PJ{κ:Type}[DecidableEq κ]{k:κ}{kvs:List (κ×ar.V)}(h:(cW kvs k).isSome=true):∃(j:Nat)(x:ar.V),kvs[j]?=some (k,x):=by rw[<-oQ]at h;obtain⟨⟨eV,x⟩,hm,e⟩:=pN.mp h;obtain⟨j,aQ⟩:=q1 hm;exact⟨j,x,by rw[aQ,show eV=k from kJ e]⟩
theorem ad9{hs:bD}{ds:b7}(R:∀d∈ds,d.Ok hs.length){h g:Str}{u:Int}(p:dK.Path (jr hs ds) h g u)(hm:h∈hs.map S):g∈hs.map S:=by
 cases p with
 |nil=>exact hm
 |snoc e _ he=>
  obtain⟨d,hd,rfl⟩:=cf.mp he;exact o5 (R d hd).b
theorem R7{hs:bD}{ds:b7}{h:Str}{i:Nat}{v:ar.V}(e:((iq hs ds (·.a) h).map V.int)[i]?=some v):∃(k:Nat)(d:de.fv),v=.int (k:Int)/\ds[k]?=some d/\S (hs.getD d.a [])=h:=by obtain⟨z,hz,rfl⟩:=cf.mp (eQ e);unfold iq yB at hz;obtain⟨k,aE,rfl⟩:=cf.mp hz;obtain⟨ag,af⟩:=gx.mp aE;have aq:=jH.mp ag;have ax:ds[k]?=some ds[k]:=ct aq;refine⟨k,ds[k],rfl,ax,?_⟩;rw[rz ax]at af;have:=kJ af;cases this;rfl
theorem ye{b3:TE}{g:eK}{u:e0}{D:Ends}{σ:ar.St}{H:aa}(h:b3 σ H λv H1=>g v σ H1 (u D)):qP (tZ b3 g) u D σ H:=h
end
theorem aea{K:aY}{wi:TI}{cs:jj}{tt:TT}{b3:TE}{σ rest:ar.St}{H:aa}{Q:bl}{xs:a'}(hw:∀R:e7->aa->Prop,(∀p H1,H p=none->aT H H1->H1 p=some (.lst xs)->R (jG K p) H1)->wi σ H R)(gp:gW cs σ=none::rest)(aq:xs.length<sizeLine)(p:ar.V->Bool)(f:ar.V->ar.V)(test:∀(i:Nat)(x:ar.V)(aj:aa)(R:Bool->aa->Prop),xs[i]?=some x->aT H aj->(∀bY,aT aj bY->R (p x) bY)->tt (some x::rest) aj R)(elt:∀(i:Nat)(x:ar.V)(aj:aa)(R:bl),xs[i]?=some x->p x=true->aT H aj->(∀bY,aT aj bY->R (f x) bY)->b3 (some x::rest) aj R)(fin:∀(D:Addr)(H':aa),H D=none->H' D=some (.lst ((xs.filter p).map f))->aT H H'->Q (.ref D) H'):kM wi cs (g5 0) tt b3 σ H Q:=
 hw _ λq H1 asa s1 bp=>Jh gp (oU (aS.of bp)) aq p f (λi x aj R ex aI h=>test i x aj R ex (s1.trans aI) h) (λi x aj R ex an9 aI h=>elt i x aj R ex an9 (s1.trans aI) h) λD H' n_ ck aI=>fin D H' (m1 s1 n_) ck (s1.trans aI)
noncomputable def Told(hs:bD)(ds:b7)(i:Nat)(h g:Str):Prop:=(∃j,j<i/\(hs.map S)[j]?=some h)/\h≠g/\(ih hs ds h g).isSome=true
structure CA(hs:bD)(ds:b7)(kvs:dt):Prop where
 kd:ov (best hs ds) (hs.map S) kvs (λh g=>h∈hs.map S/\h≠g/\(ih hs ds h g).isSome=true)
section
variable{P:bP}{w:bt}{K:aY}{ae:cN}{base:Heap}
noncomputable abbrev C7:Stmt:=top 36
theorem r4:d0 ["net","roads","far_from","house","ways","goal","fitting"] ["net"] (dx C7):=⟨rfl,rfl,rfl,by decide+kernel,rfl,by decide+kernel,by decide+kernel⟩
inductive agL(C bA:Addr)(vs:a')(H:aa)(Q:bl)(bM:cE):Prop where
 |mk (n bz a7:Addr) (hs:bD) (rs:b4) (ds:b7) (b0:vs=[.ref n]) (bH:lz bA H n bz a7 (dC hs) (aW rs)) (cu:Good hs) (cS:hy H hs rs ds) (dw:rs.length<=40) (en:∀(x t:Addr)(H':aa)(kvs:dt),H x=none->H t=none->aT H H'->kD C bA H' x n t bz a7 (dC hs) (aW rs) kvs->CA hs ds kvs->Q (.ref x) H')
noncomputable def Kf(C bA:Addr):c9:=λvs H Q bM=>agL C bA vs H Q bM
inductive aiw(n dW ey il:Addr)(hs:bD)(ds:b7)(H1:aa)(i:Nat)(σ:ar.St)(bJ:aa):Prop where
 |mk (mM:List (br×ar.V)) (vX:l2) (b0:σ=[some (.ref n),some (.ref dW),some (.ref ey),vX,none,none,none]) (bH:aT H1 bJ) (cu:bJ il=some (.lst (dC hs))) (cS:bJ ey=some (.cD mM)) (dw:mM.length<=i) (en:∀j h,j<i->(hs.map S)[j]?=some h->VG H1 bJ ey mM hs ds h)
inductive aix(C av n dW ey x t jb:Addr)(hs:bD)(ds:b7)(bJ:aa)(i:Nat)(σ:ar.St)(eX:aa):Prop where
 |mk (kvs:dt) (vX pE oo:l2) (b0:σ=[some (.ref n),some (.ref dW),some (.ref ey),vX,some (.ref x),pE,oo]) (bH:aT bJ eX) (cu:eX jb=some (.lst (dC hs))) (cS:eX x=some (.ins C av (mZ n t))) (dw:eX t=some (.c4 kvs)) (en:ov (best hs ds) (hs.map S) kvs (Told hs ds i))
theorem WF{C bA fq nu f f1 f2 dB f4 e_ WQ uS:Addr}{fd eU gI oR sO Bj WW Bn:c1}(F:b6 K "shortest" "shortest" C7 f fd)(B:hb ae)(cH:o_ K C)(hh:ho K bA)(yf:ae "Ways"=some (.ref C))(p5:eJ K bA "houses" "Net.houses" xT ["self"] f1 eU)(uJ:a4 P w K ae base bu 1 f1 eU ["self"] (GP bA))(Gm:eJ K bA "roads" "Net.roads" CN ["self"] f2 gI)(O4:a4 P w K ae base bu 1 f2 gI ["self"] (QH bA))(sH:eJ K bA "out_of" "Net.out_of" wC ["self","house"] dB oR)(xl:a4 P w K ae base (gP P w) 2 dB oR ["self","house"] (D_ bA fq (·.a)))(AH:dS K ae "least_turns_from" Dx ["roads","house"] f4 sO)(Md:a4 P w K ae base bu 2 f4 sO ["roads","house"] (Rz K))(AI:dS K ae "begins_shortest" z8 ["road","far_from","goal"] e_ Bj)(aoc:a4 P w K ae base bu 1 e_ Bj ["road","far_from","goal"] JG)(vh:pS K C uS)(xm:t9 K C "Ways.__init__" yP ["self","net"] uS Bn)(xn:a4 P w K ae base bu 1 uS Bn ["self","net"] (ER C))(sz:eJ K C "set_way" "Ways.set_way" yO ["self","house","goal","road"] WQ WW)(w':a4 P w K ae base (gP P w) 3 WQ WW ["self","house","goal","road"] (ET C bA fq nu)):
  a4 P w K ae base bu 4 f fd ["net"] (Kf C bA):=by
 have kf:=cH.cl;refine F.ok r4 (λvs H Q E h=>?_) (λbK A outer s H vs Q E ay h=>?_)
 .obtain⟨n,bz,a7,hs,rs,ds,rfl,_⟩:=h;rfl
 .obtain⟨n,bz,a7,hs,rs,ds,rfl,N,G,cF,c7,q⟩:=h;refine⟨_,(bQ (dG (i:=1) r4.aK rfl (nv rfl) (xR (ah 0) hh Gm.gM O4 (ay.mono (by decide)) Gm.bd .nil dQ))
   (bQ (dG (i:=2) r4.aK rfl (nv rfl) ç)
   (bQ (kC jJ rfl (i1 (xR (ah 0) hh p5.gM uJ (ay.mono (by decide)) p5.bd .nil dQ)) (d1 (i:=3) r4.aK rfl (cY rfl))
    (b8 (Hv (ju ay) (ah 2) (ah 3) (f5 Md (ay.mono (by decide)) (by rfl) AH.at_ AH.fn.cT AH.bd .nil dQ (aA (ah 1) (aA (ah 3) a5))) rfl)))
   (bQ (dG (i:=4) r4.aK rfl (cY rfl) (HM vh xn (ay.mono (by decide)) (by rfl) yf xm.bd .nil dQ (aA (ah 0) a5)))
   (bQ (kC jJ rfl (i1 (xR (ah 0) hh p5.gM uJ (ay.mono (by decide)) p5.bd .nil dQ)) (d1 (i:=3) r4.aK rfl (cY rfl))
    (b8 (afR (kC jJ rfl (aci (te (ju ay) (ah 2) (ah 3) (λ_ _=>rfl))) (d1 (i:=5) r4.aK rfl (nv rfl))
    (b8 (gd (fP tq (ah 5) (ah 3) (eD _)) (bQ (rh (i:=6) r4.aK rfl rfl rfl (N':=["number","far_from","goal","roads"]) (cs:=[none,some 2,some 5,some 1]) rfl (i1 (ib (ah 0) hh sH.gM xl (ay.mono (by decide)) sH.bd .nil D4 (aA (ah 3) a5))) rfl (by decide+kernel) rfl (by decide+kernel) (i2 (kV.mpr ⟨rfl,(kV.mpr ⟨rfl,(kV.mpr ⟨rfl,(λp aP=>bE aP (eZ))⟩)⟩)⟩)) rfl
    (.own (.jO rfl (.inl rfl) (.inl rfl) rfl (.jO rfl (.inl rfl) (.inl rfl) rfl (.jO rfl (.inl rfl) (.inl rfl) rfl .nil))))
    (λC s3 bL cw d_=>⟨(d1 (i:=0) (by show(["number","far_from","goal","roads"]:bR).Nodup;decide+kernel) rfl (.inl rfl)),(ve (ki (f5 aoc (ay.mono (by decide)) (by rfl) AI.at_ AI.fn.cT AI.bd .nil dQ (aA (cz (ö (K:=K) rfl) (ah 3) (ah 0) (λ_ _=>rfl)) (aA (ah 1) (aA (ah 2) a5)))))),(ah 0)⟩))
   (b8 (ia (ib (ah 4) kf sz.gM w' (ay.mono (by decide)) sz.bd .nil D4 (aA (ah 3) (aA (ah 5) (aA (eo (É rfl) (by rfl) B.min VC (aA (ah 6) a5)) a5))))))) gb))))))
   (b8 (dE (ah 4)))))))),?_⟩
  obtain⟨fH,aD⟩:=N.ins;have hlen:=cF.len;have Fw:=G.c7;refine⟨_,rfl,n,fH,_,rfl,aD,rfl,n,bz,a7,_,_,rfl,N,λdW vt=>?_⟩;have s1:aT H (upd H dW (.lst (aW rs))):=cV vt;have ag:upd H dW (.lst (aW rs)) dW=some (.lst (aW rs)):=a8;generalize upd H dW (.lst (aW rs))=H1 at s1 ag⊢
  refineλey yp=>?_
  have s2:aT H1 (upd H1 ey (.cD [])):=cV yp;have af:upd H1 ey (.cD []) ey=some (.cD []):=a8;generalize upd H1 ey (.cD [])=aj at s2 af⊢;refine⟨_,rfl,n,fH,_,rfl,s2 _ _ (s1 _ _ aD),rfl,n,bz,a7,_,_,rfl,(N.same s1).same s2,λil Zm=>⟨il,rfl,⟨_,aS.of a8⟩,?_⟩⟩;have Y7:ey≠il:=hO af Zm;refine ta (xs:=dC hs) (aiw n dW ey il hs ds H1)
   ⟨[],none,rfl,s2.trans (cV Zm),a8,by rw[aL Y7];exact af,b1 _,λj h aQ _=>bE aQ (z_ _)⟩ ?_ ?_ ?_
  .rintro i σ bJ ai ⟨mM,vX,rfl,aI,aV,_⟩;exact aS.of aV
  .rintro i v σ bJ ev ⟨mM,vX,rfl,aI,aV,hf,MY,uW⟩;obtain⟨h,rfl,qc⟩:=Wa ev;have YI:i<hs.length:=by have:=(gj.mp qc).1;rwa [bh]at this
   refine⟨_,rfl,_,rfl,dW,hs,rs,ds,h,rfl,aS.of (aI _ _ ag),(cF.same s1).same aI,Fw,eQ qc,λp H' cA D np vL aE T L=>?_⟩;refine⟨_,rfl,_,rfl,ey,_,rfl,qR.k (k:=fw h) (vL _ _ hf) (e1 (by omega)),?_⟩;have anH:H1 p=none:=m1 aI np;have ne2:p≠ey:=d8 (hO hf np);have LM:D=ih hs ds h:=funext λg=>dK.akz L g;subst LM;refine⟨_,_,rfl,h_ yp (aI.trans vL),by rw[aL (d8 Y7)];exact vL _ _ aV,a8,?_,λj h' aQ LR=>?_⟩
   .cases bI:cW mM (fw h:br)with
    |none=>rw[xS _ bI,e8];simp only[hH,sj];omega
    |some u=>rw[R2 _ bI];omega
   .by_cases e:h'=h
    .subst e;exact⟨p,cA,by rw[Cq,aO rfl],ne2,anH,by rw[aL ne2];exact aE,T⟩
    .have M3:j<i:=by
      rcases um j i with z|z
      .exact z
      .have:j=i:=by omega
       subst this;rw[qc]at LR;cases LR;exact bE rfl e
     obtain⟨iO,amU,tO,ne',anB,qn,ed⟩:=uW j h' M3 LR;exact⟨iO,amU,by rw[Cq,aJ λz=>e (J8 z)];exact tO,ne',anB,by rw[aL ne'];exact vL _ _ qn,ed⟩
  .rintro σ bJ ⟨mM,vX,rfl,aI,aV,hf,MY,uW⟩;have XG:∀h∈hs.map S,VG H1 bJ ey mM hs ds h:=λh hm=>by obtain⟨j,aQ⟩:=q1 hm;exact uW j h (by have:=(gj.mp aQ).1;rw[bh]at this;unfold dC;rw[bh];exact this) aQ
   refine⟨_,rfl,λx av cy rE asf=>⟨x,av,_,rfl,a8,λt el=>⟨rfl,?_⟩⟩⟩;have GZ:bJ t=none:=by refine m1 (h_ (o:=.ins C av []) cy (cV (o:=.own x) rE)) el
   have tN:x≠t:=hO (H:=upd (upd bJ av (.own x)) x (.ins C av [])) a8 el;have C2:aT bJ (upd (upd (upd (upd bJ av (.own x)) x (.ins C av [])) t (.c4 [])) x (.ins C av (mZ n t))):=h_ cy (h_ GZ (h_ cy (cV rE)));have Nx:upd (upd (upd (upd bJ av (.own x)) x (.ins C av [])) t (.c4 [])) x (.ins C av (mZ n t)) x=some (.ins C av (mZ n t)):=a8;have Np:upd (upd (upd (upd bJ av (.own x)) x (.ins C av [])) t (.c4 [])) x (.ins C av (mZ n t)) t=some (.c4 []):=by rw[aL (d8 tN),a8]
   show qP _ _ _ _ (upd (upd (upd (upd bJ av (.own x)) x (.ins C av [])) t (.c4 [])) x (.ins C av (mZ n t)));generalize upd (upd (upd (upd bJ av (.own x)) x (.ins C av [])) t (.c4 [])) x (.ins C av (mZ n t))=aqG at C2 Nx Np⊢;have UX:lz bA bJ n bz a7 (dC hs) (aW rs):=(N.same s1).same aI;refine⟨_,rfl,n,fH,_,rfl,C2 _ _ (aI _ _ (s1 _ _ aD)),rfl,n,bz,a7,_,_,rfl,UX.same C2,λjb GW=>⟨jb,rfl,⟨_,aS.of a8⟩,?_⟩⟩;have anI:bJ jb=none:=m1 C2 GW;have anc:x≠jb:=hO Nx GW;have Y9:t≠jb:=hO Np GW;refine ta (xs:=dC hs) (aix C av n dW ey x t jb hs ds bJ)
    ⟨[],vX,none,none,rfl,C2.trans (cV GW),a8,by rw[aL anc];exact Nx,by rw[aL Y9];exact Np,⟨λh g m=>?_,λh g _=>rfl,λk aE=>(nomatch aE),pQ⟩⟩ ?_ ?_ ?_
   .obtain⟨⟨j,aQ,_⟩,_⟩:=m;exact bE aQ (z_ _)
   .rintro i σ eX ai ⟨kvs,Τ,pE,oo,rfl,cX,bU,_⟩;exact aS.of bU
   .rintro i v σ eX ev ⟨kvs,Τ,pE,oo,rfl,cX,bU,ao,cO,BT⟩;obtain⟨h,rfl,qc⟩:=Wa ev;have hm:h∈hs.map S:=eQ qc;obtain⟨jc,cA,H0,Za,Y_,xF,p1⟩:=XG h hm;have Zq:x≠jc:=d8 (hO xF cy);have O3:t≠jc:=d8 (hO xF GZ);have Y8:jb≠jc:=d8 (hO xF anI);refine⟨jc,cA,cX _ _ xF,λo=>?_⟩;have Xo:=h1.k (k:=fw h) (show upd eX jc (.ee o (.cD cA)) ey=some (.cD mM) by rw[aL (d8 Za)];exact cX _ _ hf);rw[H0]at Xo;refine⟨_,rfl,_,rfl,ey,_,rfl,Xo,jc,o,cA,rfl,a8,?_⟩;refine aan (λj σ nq=>∃(kvs:dt)(pE oo:l2),σ=[some (.ref n),some (.ref dW),some (.ref ey),some (.str h),some (.ref x),pE,oo]/\aT (upd bJ jc (.ee o (.cD cA))) nq/\nq jb=some (.lst (dC hs))/\nq x=some (.ins C av (mZ n t))/\nq t=some (.c4 kvs)/\
      ov (best hs ds) (hs.map S) kvs (λh' g=>Told hs ds i h' g\/(h'=h/\h≠g/\∃g_ z,g_<j/\cA[g_]?=some (fw g,z))))
     ⟨kvs,pE,oo,rfl,ad8 cX _,by rw[aL Y8];exact bU,by rw[aL Zq];exact ao,by rw[aL O3];exact cO,BT.iff λh' g=>⟨.inl,λz=>z.resolve_right λ⟨_,_,g_,_,y,_⟩=>bE y (z_ _)⟩⟩ ?_ ?_ ?_
    .rintro j σ nq ⟨kvs,pE,oo,rfl,hT,_⟩;exact hT _ _ a8
    .rintro j k z σ nq eS ⟨kvs,pE,oo,rfl,hT,FR,xM,Gi,zd⟩;obtain⟨g,sJ⟩:=p1.ks _ (eQ eS);have akR:k=fw g:=sJ;subst akR;have qh:∀e∈jr hs ds,1<=e.t:=λe he=>by obtain⟨d,hd,rfl⟩:=cf.mp he;exact(cF.ok d hd).t.1
     have amL:(ih hs ds h g).isSome=true:=by have:=Ê (eQ eS);rw[p1.at_]at this;simpa using this
     obtain⟨v,bI⟩:=Ag.mp amL;have bx:g∈hs.map S:=ad9 cF.ok ((dK.WU qh g).path h v bI) hm;refine⟨_,rfl,_,rfl,rfl,_,rfl,?_⟩;by_cases e:g=h
     .subst e;refine eF (show(!decide (V.str g=V.str g))=false by simp) ⟨kvs,_,oo,rfl,hT,FR,xM,Gi,zd.iff λh' g'=>?_⟩;constructor
      .rintro(y|⟨a,b,g_,dz,aQ,dO⟩)
       .exact .inl y
       .exact .inr ⟨a,b,g_,dz,by omega,dO⟩
      .rintro(y|⟨a,b,g_,dz,aQ,dO⟩)
       .exact .inl y
       .refine .inr ⟨a,b,g_,dz,?_,dO⟩;rcases um g_ j with y|y
        .exact y
        .have:g_=j:=by omega
         subst this;rw[eS]at dO;cases dO;exact bE rfl b
     .refine fi (show(!decide (V.str g=V.str h))=true by simp[e]) ?_;have nT:h≠g:=d8 e;have P2:aT H (upd bJ jc (.ee o (.cD cA))):=s1.trans (h_ Y_ aI);have UY:=N.same (P2.trans hT);have Mx:=cF.same (P2.trans hT);have amo:=hT _ _ ((h_ (o:=.ee o (.cD cA)) Y_ aI) _ _ ag);have amq:=hT _ _ (show upd bJ jc (.ee o (.cD cA)) ey=some (.cD mM) by rw[aL (d8 Za)];exact hf);refine ye ?_;refine aea (K:=K) (rest:=[some (.ref ey),some (.str g),some (.ref dW)]) (xs:=(iq hs ds (·.a) h).map V.int) (λR alx=>?_) rfl (by rw[bh];have:=È hs ds (·.a) h;exact e1 (by omega)) (λy=>match y with|.int i=>r3 hs ds h g i|_=>false) id (λi y lU R d2 m9 Mv=>?_) (λi y lU R d2 _ ip Mv=>⟨_,rfl,Mv lU (aT.refl _)⟩) (λD lU n_ ck m9=>?_)
      .exact⟨_,rfl,n,fH,_,rfl,(P2.trans hT) _ _ aD,rfl,_,rfl,n,bz,a7,hs,rs,ds,h,rfl,UY,Mx,c7,λ_ Zx bY anJ s5 dq=>⟨Zx,rfl,⟨_,aS.of dq⟩,alx Zx bY anJ s5 dq⟩,λy=>bE hm y⟩
      .obtain⟨k,d,rfl,lh,bw⟩:=R7 d2;obtain⟨r,d6⟩:∃r,rs[k]?=some r:=⟨_,ct (by rw[hlen];exact(gj.mp lh).1)⟩
       obtain⟨d',WB,qB,Gg⟩:=Mx.get d6;rw[lh]at WB;cases WB;obtain⟨lG,N9,nf,ar1,ar0,M5,d9⟩:=XG _ (o5 qB.b);have afj:TabAt lU jc (ih hs ds h):=⟨cA,.inr ⟨o,m9 _ _ (hT _ _ a8)⟩,p1⟩
       have afk:TabAt lU lG (ih hs ds (S (hs.getD d.b []))):=by
        by_cases dN:lG=jc
        .subst dN;rw[xF]at M5;cases M5;exact⟨cA,.inr ⟨o,m9 _ _ (hT _ _ a8)⟩,d9⟩
        .exact⟨N9,.inl (m9 _ _ (hT _ _ (by rw[aL dN];exact M5))),d9⟩
       have L0:ar.f3 (aW rs) (k:Int)=some (.ref r):=jo (by unfold aW;rw[cM,d6];rfl);refine⟨_,rfl,_,rfl,dW,_,_,_,rfl,rfl,aS.of (m9 _ _ amo),L0,_,rfl,_,rfl,r,ey,jc,lG,hs,d,mM,g,_,_,rfl,m9 _ _ Gg,m9 _ _ amq,by rw[bw];exact H0,nf,afj,afk,λu cJ=>⟨v,bI⟩,_,rfl,?_⟩;have ep:r3 hs ds h g (k:Int)=w5 (ih hs ds h) (ih hs ds (S (hs.getD d.b []))) g d.t:=by unfold r3 HT;rw[lX,rz lh]
       rw[<-ep];exact Mv lU (aT.refl _)
      .have q_:(((iq hs ds (·.a) h).map V.int).filter λy=>match y with|.int i=>r3 hs ds h g i|_=>false).map id=(fit hs ds h g).map V.int:=by rw[abN,z0];rfl
       rw[q_]at ck;refine⟨_,rfl,x,av,_,rfl,m9 _ _ xM,rfl,_,rfl,_,rfl,_,rfl,D,_,rfl,aS.of ck,UG qh bI nT,x,n,t,bz,a7,hs,rs,ds,kvs,h,g,_,rfl,⟨⟨av,m9 _ _ xM⟩,UY.same m9,m9 _ _ Gi⟩,G,Mx.same m9,c7,yG G hm,yG G bx,e1 (by have:=zd.c7 (by rw[bh];exact Fw);omega),λ_ _ fB qF=>?_,λy=>bE (RB hm bx nT) (by rw[y];decide),λ_ y=>bE (R4 qh bI nT).1 y⟩;have P0:=m9.trans qF;refine⟨_,_,_,rfl,h_ (by rw[aL O3];exact GZ) (hT.trans P0),by rw[aL (d8 Y9)];exact P0 _ _ FR,by rw[aL tN];exact P0 _ _ xM,a8,(zd.put hm bx).iff λh' g'=>?_⟩;constructor
       .rintro((y|⟨a,b,g_,dz,aQ,dO⟩)|⟨rfl,rfl⟩)
        .exact .inl y
        .exact .inr ⟨a,b,g_,dz,by omega,dO⟩
        .exact .inr ⟨rfl,nT,j,z,sq _,eS⟩
       .rintro(y|⟨a,b,g_,dz,aQ,dO⟩)
        .exact .inl (.inl y)
        .rcases um g_ j with y|y
         .exact .inl (.inr ⟨a,b,g_,dz,y,dO⟩)
         .have:g_=j:=by omega
          subst this;rw[eS]at dO;cases dO;exact .inr ⟨a,rfl⟩
    .rintro σ nq ⟨kvs,pE,oo,rfl,hT,FR,xM,Gi,zd⟩;refine⟨hT _ _ a8,kvs,_,pE,oo,rfl,ack xF hT,by rw[aL Y8];exact FR,by rw[aL Zq];exact xM,by rw[aL O3];exact Gi,zd.iff λh' g=>?_⟩;constructor
     .rintro(⟨⟨j,aQ,ei⟩,b,c⟩|⟨rfl,b,g_,z,_,dO⟩)
      .exact⟨⟨j,by omega,ei⟩,b,c⟩
      .refine⟨⟨i,sq _,qc⟩,b,?_⟩;have:=Ê (eQ dO);rw[p1.at_]at this;simpa using this
     .rintro⟨⟨j,aQ,ei⟩,b,c⟩;by_cases e:h'=h
      .subst e;have:(cW cA (fw g:br)).isSome=true:=by rw[p1.at_];simpa using c
       obtain⟨g_,z,dO⟩:=PJ this;exact .inr ⟨rfl,b,g_,z,(gj.mp dO).1,dO⟩
      .refine .inl ⟨⟨j,?_,ei⟩,b,c⟩;rcases um j i with y|y
       .exact y
       .have:j=i:=by omega
        subst this;rw[qc]at ei;cases ei;exact bE rfl e
   .rintro σ eX ⟨kvs,Τ,pE,oo,rfl,cX,bU,ao,cO,BT⟩;refine⟨_,rfl,q x t eX kvs (m1 (s1.trans aI) cy) (m1 (s1.trans aI) GZ) ((s1.trans aI).trans cX) ⟨⟨av,ao⟩,UX.same cX,cO⟩ ⟨BT.iff λh g=>⟨λ⟨⟨j,_,ei⟩,b,c⟩=>⟨eQ ei,b,c⟩,λ⟨m,b,c⟩=>⟨?_,b,c⟩⟩⟩⟩;obtain⟨j,aQ⟩:=q1 m;exact⟨j,by have:=(gj.mp aQ).1;rw[bh]at this;unfold dC;rw[bh];exact this,aQ⟩
end
end fR
namespace cK
open PySem PySem.Spec PyProof.Rows ar PySem.W
structure i_(n:Nat)(lt:hg):Prop where
 hF:∀i j k,lt i j=true->lt j k=true->lt i k=true
 to:∀i j,i<n->j<n->i≠j->lt i j=true\/lt j i=true
 N1:∀i,lt i i=false
noncomputable abbrev bg(p:c')(a:Nat):Nat:=p.getD a 0
noncomputable def mY(lt:hg)(p:c')(k:Nat):Prop:=∀a b,a<b->b<k->lt (bg p a) (bg p b)=true
theorem xV{α β:Type}(lt:hg)(f:α->KasT β):∀t:KasT α,g9 lt (t.bind f)=g9 lt (f (g9 lt t))
 |.ret _=>rfl
 |.ask i j k=>xV lt f (k (lt i j))
theorem Tu{α:Type}(lt:hg){c:Prop}[Decidable c](s t:KasT α):g9 lt (if c then s else t)=if c then g9 lt s else g9 lt t:=by split<;>rfl
theorem c8.size{n:Nat}{p:c'}(h:c8 n p):p.size=n:=by have:=h.list.length_eq;simpa using this
theorem c8.inj{n:Nat}{p:c'}(h:c8 n p){a b:Nat}(aH:a<n)(U:b<n)(e:bg p a=bg p b):a=b:=by
 have aK:p.toList.Nodup:=h.list.nodup_iff.mpr Up;have jD:=h.size;have ax:bg p a=p.toList[a]'(by simp;omega):=by simp[bg,lR,show a<p.size by omega]
 have az:bg p b=p.toList[b]'(by simp;omega):=by simp[bg,lR,show b<p.size by omega]
 rw[ax,az]at e;exact(wL aK).mp e
section
variable{n:Nat}{lt:hg}
theorem i_.or(o:i_ n lt){p:c'}(h:c8 n p){a b:Nat}(aH:a<n)(U:b<n)(ne:a≠b)(f:lt (bg p a) (bg p b)=false):lt (bg p b) (bg p a)=true:=by
 have h0:0<n:=by omega
 rcases o.to (bg p a) (bg p b) (h.at h0 a) (h.at h0 b) (λe=>ne (h.inj aH U e))with z|z
 .rw[z]at f;cases f
 .exact z
theorem mY.succ(o:i_ n lt){p:c'}{k:Nat}(s:mY lt p k)(ag:1<=k)(h:lt (bg p (k-1)) (bg p k)=true):mY lt p (k+1):=λa b jW U=>by
 by_cases e:b=k
 .subst e;by_cases az:a=b-1
  .rw[az];exact h
  .exact o.hF _ _ _ (s a (b-1) (by omega) (by omega)) h
 .exact s a b jW (by omega)
theorem IY(o:i_ n lt){p:c'}(h:c8 n p):∀f k,1<=k->k+f<=n->mY lt p k->∃m,g9 lt (kas_asc p f k)=m/\k<=m/\m<=k+f/\mY lt p m/\(m<k+f->lt (bg p m) (bg p (m-1))=true)
 |0,k,ag,af,s=>⟨k,rfl,b1 _,b1 _,s,λz=>bE z (by omega)⟩
 |f+1,k,ag,af,s=>by
  show∃m,g9 lt (if lt (bg p k) (bg p (k-1))=true then .ret k else kas_asc p f (k+1))=m/\_;cases e:lt (bg p k) (bg p (k-1))with
  |true=>
   rw[aO rfl];exact⟨k,rfl,b1 _,by omega,s,λ_=>e⟩
  |false=>
   rw[aJ (by decide)];have up:=o.or h (a:=k) (b:=k-1) (by omega) (by omega) (by omega) e;obtain⟨m,ax,az,cq,et,g6⟩:=IY o h f (k+1) (by omega) (by omega) (s.succ o ag up);exact⟨m,ax,by omega,by omega,et,λz=>g6 (by omega)⟩
noncomputable def Ea(lt:hg)(p:c')(k:Nat):Prop:=∀a b,a<b->b<k->lt (bg p b) (bg p a)=true
theorem Tv(o:i_ n lt){p:c'}(h:c8 n p):∀f k,1<=k->k+f<=n->Ea lt p k->∃m,g9 lt (B9 f p k 0)=(p,m,0)/\k<=m/\m<=k+f/\Ea lt p m
 |0,k,ag,af,s=>⟨k,rfl,b1 _,b1 _,s⟩
 |f+1,k,ag,af,s=>by
  show∃m,g9 lt (if lt (bg p k) (bg p (k-1))=true then(if 0>0 then B9 f (o6 p (k-(0+1)) k) (k+1) 0 else B9 f p (k+1) 0)else .ask (bg p (k-1)) (bg p k) λd=>if d=true then .ret (p,k,0)else B9 f p (k+1) (0+1))=(p,m,0)/\_;cases e:lt (bg p k) (bg p (k-1))with
  |true=>
   rw[aO rfl,aJ (by omega)];have s2:Ea lt p (k+1):=λa b jW U=>by
    by_cases dN:b=k
    .subst dN;by_cases az:a=b-1
     .rw[az];exact e
     .exact o.hF _ _ _ e (s a (b-1) (by omega) (by omega))
    .exact s a b jW (by omega)
   obtain⟨m,ax,az,cq,et⟩:=Tv o h f (k+1) (by omega) (by omega) s2;exact⟨m,ax,by omega,by omega,et⟩
  |false=>
   rw[aJ (by decide)];have up:=o.or h (a:=k) (b:=k-1) (by omega) (by omega) (by omega) e;show∃m,g9 lt (if lt (bg p (k-1)) (bg p k)=true then .ret (p,k,0)else B9 f p (k+1) (0+1))=(p,m,0)/\_;rw[aO up];exact⟨k,rfl,b1 _,by omega,s⟩
theorem yY{p q:c'}{a b:Nat}(e:p[a]?=q[b]?):bg p a=bg q b:=by
 have f:∀(r:c')(c:Nat),bg r c=(r[c]?).getD 0:=λr c=>by
  show r.getD c 0=_;by_cases aC:c<r.size
  .rw[qY aC];simp[lR,aC]
  .rw[tU (by omega)];simp[lR,aC]
 rw[f,f,e]
theorem UH{p:c'}{r i:Nat}(ay:r<=p.size)(ai:i<r):bg (o6 p 0 r) i=bg p (r-1-i):=by have h:=ald (xs:=p) (i:=0) (j:=r) ay i;rw[aO ⟨dM _,ai⟩,show 0+r-1-i=r-1-i by omega]at h;exact yY h
theorem acm(o:i_ n lt){p:c'}(h:c8 n p){k:Nat}(ag:1<=k)(af:k<=n)(s:Ea lt p k):∃m q,g9 lt (B' k n p)=(m,q)/\1<=m/\m<=n/\mY lt q m/\c8 n q:=by
 unfold B';rw[xV];have ay:=h.rev 0 k;have mn:mY lt (o6 p 0 k) k:=λa b jW U=>by rw[UH (by rw[h.size];exact af) (by omega),UH (by rw[h.size];exact af) U];exact s _ _ (by omega) (by omega)
 obtain⟨m,ax,az,cq,et,_⟩:=IY o ay (n-k) k ag (by omega) mn;rw[ax];exact⟨m,_,rfl,by omega,by omega,et,ay⟩
theorem acn(o:i_ n lt){p:c'}(h:c8 n p)(h0:2<=n):∃m q,g9 lt (N8 n p)=(m,q)/\1<=m/\m<=n/\mY lt q m/\c8 n q:=by
 unfold N8;rw[xV];obtain⟨m,ax,az,cq,et,g6⟩:=IY o h (n-1) 1 (b1 _) (by omega) (λa b jW U=>by omega);rw[ax,Tu];by_cases eE:m=n
 .rw[aO (by simpa using eE)];exact⟨m,p,rfl,az,by omega,et,h⟩
 .rw[aJ (by simpa using eE),Tu];have am3:=g6 (by omega);by_cases dp:m>1
  .rw[aO dp];show∃c5 q,g9 lt (if lt (bg p 0) (bg p (m-1))=true then .ret (m,p)else YO m n (o6 p 0 m))=(c5,q)/\_;rw[aO (et 0 (m-1) (by omega) (by omega))];exact⟨m,p,rfl,az,by omega,et,h⟩
  .rw[aJ dp];have eO:m=1:=by omega
   subst eO;unfold YO;rw[xV];obtain⟨k,jQ,w9,arj,ajO⟩:=Tv o h (n-(1+1)) (1+1) (by omega) (by omega) (λa b jW U=>by
    have:a=0/\b=1:=by omega
    rw[this.1,this.2];exact am3)
   rw[jQ];show∃c5 q,g9 lt (if 0>0 then B' k n (o6 p (k-(0+1)) k)else B' k n p)=(c5,q)/\_;rw[aJ (by omega)];exact acm o h (by omega) (by omega) ajO
theorem Qw(o:i_ n lt){p:c'}(h:c8 n p){k:Nat}(aE:k<n)(s:mY lt p k):∀f l r,l<=r->r<=k->r-l<=f->(∀a,a<l->lt (bg p a) (bg p k)=true)->(∀a,r<=a->a<k->lt (bg p k) (bg p a)=true)->
  ∃m,g9 lt (x1 p k f l r)=m/\m<=k/\(∀a,a<m->lt (bg p a) (bg p k)=true)/\∀a,m<=a->a<k->lt (bg p k) (bg p a)=true
 |0,l,r,ag,af,aV,aq,ay=>⟨l,rfl,by omega,aq,λa aH=>ay a (by omega)⟩
 |f+1,l,r,ag,af,aV,aq,ay=>by
  show∃m,g9 lt (if l≥r then .ret l else .ask (bg p k) (bg p ((l+r)/2)) λc=>if c=true then x1 p k f l ((l+r)/2)else x1 p k f ((l+r)/2+1) r)=m/\_;by_cases c:l≥r
  .rw[aO c];exact⟨l,rfl,by omega,aq,λa aH=>ay a (by omega)⟩
  .rw[aJ c];show∃m,g9 lt (if lt (bg p k) (bg p ((l+r)/2))=true then x1 p k f l ((l+r)/2)else x1 p k f ((l+r)/2+1) r)=m/\_;have mg:l<=(l+r)/2/\(l+r)/2<r:=by omega
   cases e:lt (bg p k) (bg p ((l+r)/2))with
   |true=>
    rw[aO rfl];refine Qw o h aE s f l ((l+r)/2) mg.1 (by omega) (by omega) aq λa aH alz=>?_;by_cases bw:a=(l+r)/2
    .rw[bw];exact e
    .exact o.hF _ _ _ e (s _ _ (by omega) alz)
   |false=>
    rw[aJ (by decide)];have up:=o.or h (a:=k) (b:=(l+r)/2) aE (by omega) (by omega) e;refine Qw o h aE s f ((l+r)/2+1) r (by omega) af (by omega) (λa aH=>?_) ay;by_cases bw:a=(l+r)/2
    .rw[bw];exact up
    .exact o.hF _ _ _ (s a _ (by omega) (by omega)) up
theorem IZ{p:c'}{k l i:Nat}(aE:k<p.size)(aq:l<=k):bg (oL p k (k-l)) i=if i=l then bg p k else if l<i/\i<=k then bg p (i-1)else bg p i:=by
 have h:=getElem?_bubble (xs:=p) aE (k-l) (by omega) i;rw[show k-(k-l)=l by omega]at h;by_cases c:i=l
 .rw[aO c]at h⊢;exact yY h
 .rw[aJ c]at h⊢;by_cases dp:l<i/\i<=k
  .rw[aO dp]at h⊢;exact yY h
  .rw[aJ dp]at h⊢;exact yY h
theorem UJ(o:i_ n lt):∀(f:Nat)(p:c')(k:Nat),c8 n p->mY lt p k->k+f=n->mY lt (g9 lt (N7 f p k)) n
 |0,p,k,h,s,e=>by
  have:k=n:=by omega
  subst this;exact s
 |f+1,p,k,h,s,e=>by
  show mY lt (g9 lt ((x1 p k k 0 k).bind λl=>N7 f (oL p k (k-l)) (k+1))) n;rw[xV];obtain⟨m,ax,az,cq,et⟩:=Qw o h (k:=k) (by omega) s k 0 k (dM _) (b1 _) (by omega) (λa aH=>bE aH (by omega)) (λa ag af=>bE af (by omega));rw[ax];refine UJ o f _ _ (h.Lw _ _) (λa b jW U=>?_) (by omega);have aE:k<p.size:=by rw[h.size];omega
  rw[IZ aE az,IZ aE az];by_cases a1:a=m
  .rw[aO a1,aJ (by omega),aO ⟨by omega,by omega⟩];exact et (b-1) (by omega) (by omega)
  .rw[aJ a1];by_cases eC:b=m
   .rw[aO eC,aJ (by omega)];exact cq a (by omega)
   .rw[aJ eC];by_cases a2:m<a/\a<=k
    .rw[aO a2,aO ⟨by omega,by omega⟩];exact s _ _ (by omega) (by omega)
    .rw[aJ a2];by_cases dT:m<b/\b<=k
     .rw[aO dT];exact s _ _ (by omega) (by omega)
     .rw[aJ dT];exact s _ _ jW (by omega)
theorem ZI(o:i_ n lt):(o' lt n).Pairwise λi j=>lt i j=true:=by
 unfold o';by_cases af:n<2
 .rw[aO af];have:n=0\/n=1:=by omega
  rcases this with e|e<;>subst e<;>simp[z3]
 .rw[aJ af];have ay:c8 n (lZ (da n)):=R_ _;unfold x2;rw[xV];obtain⟨m,q,ax,az,cq,et,g6⟩:=acn o ay (by omega);rw[ax];show((g9 lt (if m<n then N7 (n-max m 1) q (max m 1)else .ret q)).toList).Pairwise _;have OG:max m 1=m:=by omega
  rw[OG];have fin:∀dj:Array Nat,c8 n dj->mY lt dj n->dj.toList.Pairwise λi j=>lt i j=true:=λdj a s=>by
   rw[sm];intro i j ai aQ o1;have BJ:j<n:=by rw[<-a.size];simpa using aQ
   have:=s i j o1 BJ;have aoF:i<dj.size:=by rw[a.size];omega
   have lL:j<dj.size:=by rw[a.size];omega
   have f1:bg dj i=dj[i]:=by simp[bg,lR,aoF]
   have f2:bg dj j=dj[j]:=by simp[bg,lR,lL]
   rw[f1,f2]at this;simpa using this
  by_cases c:m<n
  .rw[aO c];refine fin _ ?_ (UJ o _ _ _ g6 et (by omega));exact G3 (lt:=lt) _ (Jp (by omega) _ _ _ g6)
  .rw[aJ c];have:m=n:=by omega
   subst this;exact fin q g6 et
end
end cK
namespace Si
open PySem PySem.Spec PyProof.Rows cK PySem.W
noncomputable def nO:Bool->Keyed->Array Keyed->Nat->Nat->Nat->StateT SortSt Sem (Option Nat):=sortPriv% PySem.Builtin.gallop
noncomputable def Qx:Array Keyed->Array Keyed->StateT SortSt Sem (Array Keyed):=sortPriv% PySem.Builtin.mergeLo
noncomputable def Qy:Array Keyed->Array Keyed->StateT SortSt Sem (Array Keyed):=sortPriv% PySem.Builtin.mergeHi
noncomputable def vi:Nat->StateT SortSt Sem Unit:=sortPriv% PySem.Builtin.setMinGallop
structure Ctx where
 prog:bP
 w:bt
 A:cU
 E:Value->aF->Prop
 κ:ny
 it:Array Keyed
 s:aF
 n:Nat
 lt:Nat->Nat->Bool
 aC:∀i j C,i<n->j<n->C (lt i j) s->kas_cmp prog w A κ it i j C s
 ok:i_ n lt
variable(X:Ctx)
noncomputable def W{α:Type}(m:StateT SortSt Sem α)(Q:α->SortSt->Prop)(st:SortSt):Prop:=kasC (ba X.prog X.w) X.A X.E m (λa aN s'=>s'=X.s/\Q a aN) st X.s
noncomputable abbrev Ctx.item(i:Nat):Keyed:=kas_item X.it i
noncomputable def ST(p:c')(bc:l0)(g:Nat):SortSt:=nz X.κ (p.map X.item) bc g none
variable{X}
theorem cv{α:Type}{a:α}{Q:α->SortSt->Prop}{st:SortSt}(h:Q a st):W X (pure a) Q st:=kasC_pure ⟨rfl,h⟩
theorem UK{α:Type}{m:StateT SortSt Sem α}{Q kX:α->SortSt->Prop}{st:SortSt}(h:W X m Q st)(bp:∀a aN,Q a aN->kX a aN):W X m kX st:=by unfold W kasC at h⊢;exact e6 h (λr s' z=>⟨z.1,bp _ _ z.2⟩) λ_ _ e=>e
theorem cC{α β:Type}{m:StateT SortSt Sem α}{f:α->StateT SortSt Sem β}{Q:β->SortSt->Prop}{st:SortSt}(h:W X m (λa aN=>W X (f a) Q aN) st):W X (m >>=f) Q st:=by refine kasC_bind ?_;unfold W kasC at h;unfold kasC;refine e6 h (λr s' z=>?_) λ_ _ e=>e;obtain⟨e,z⟩:=z;rw[e];exact z
theorem n6{Q:SortSt->SortSt->Prop}{st:SortSt}(h:Q st st):W X get Q st:=kasC_get ⟨rfl,h⟩
theorem qf{f:SortSt->SortSt}{Q:PUnit->SortSt->Prop}{st:SortSt}(h:Q ⟨⟩ (f st)):W X (modify f) Q st:=kasC_modify ⟨rfl,h⟩
theorem UL{α:Type}{m:Sem α}{Q:α->SortSt->Prop}{st:SortSt}(h:aM (ba X.prog X.w) X.A m (λa s'=>s'=X.s/\Q a st) X.E X.s):W X (liftM m) Q st:=kasC_lift h
theorem yC{x:String}{Q:Unit->SortSt->Prop}{st:SortSt}(h:Q () st):W X (liftM (rule x)) Q st:=UL (DI ⟨rfl,h⟩)
theorem z'{i j:Nat}{Q:Option Bool->SortSt->Prop}{p:c'}{bc:l0}{g:Nat}(ai:i<X.n)(aQ:j<X.n)(h:Q (some (X.lt i j)) (ST X p bc g)):W X (lt' (X.item i) (X.item j)) Q (ST X p bc g):=by rw[lt'_eq];refine cC (n6 (cC (UL ?_)));refine yZ (e6 (X.aC i j (λc s'=>c=X.lt i j/\s'=X.s) ai aQ ⟨rfl,rfl⟩) (λc s' z=>?_) λ_ _ uW=>uW.elim);obtain⟨ax,az⟩:=z;rw[ax];exact⟨az,cv h⟩
theorem UM{l:bj}{k:Nat}{Q:Keyed->SortSt->Prop}{st:SortSt}(aE:k<l.length)(h:Q (X.item l[k]) st):W X (f7 (l.map X.item).toArray k) Q st:=by
 rw[elem'_eq];have e:((l.map X.item).toArray)[k]?=some (X.item l[k]):=by simp[aE]
 rw[e];exact cv h
theorem agM{β:Type}{N:Nat}{b:β}{f:Nat->β->StateT SortSt Sem (ForInStep β)}{Q:β->SortSt->Prop}{st:SortSt}(Inv:Nat->β->SortSt->Prop)(h0:Inv 0 b st)(step:∀k b st,k<N->Inv k b st->W X (f k b) (λr aN=>match r with|.done a7=>Q a7 aN|.yield a7=>Inv (k+1) a7 aN) st)(fin:∀b st,Inv N b st->Q b st):W X (forIn [0:N] b f) Q st:=by
 refine kasC_range ?_;have gen:∀(m k:Nat)(b:β)(st:SortSt),k+m=N->Inv k b st->kasC (ba X.prog X.w) X.A X.E (forIn (abU k m) b f) (λa aN s'=>s'=X.s/\Q a aN) st X.s:=by
  intro m
  induction m with
  |zero=>
   intro k b st e h;have:k=N:=by omega
   subst this;exact kasC_nil ⟨rfl,fin b st h⟩
  |succ m bk=>
   intro k b st e h;rw[abV];refine kasC_cons ?_;have s1:=step k b st (by omega) h;unfold W kasC at s1;unfold kasC;refine e6 s1 (λr s' z=>?_) λ_ _ e=>e;obtain⟨b',aN⟩:=r;cases b' with
   |done a7=>exact z
   |yield a7=>
    obtain⟨ax,bH⟩:=z;rw[ax];exact bk (k+1) a7 aN (by omega) bH
 exact gen (N-0) 0 b st (by omega) h0
theorem lp{α β:Type}{N:Nat}{b:β}{f:Nat->β->StateT SortSt Sem (ForInStep β)}{cont:β->StateT SortSt Sem α}{Q:α->SortSt->Prop}{st:SortSt}(Post:β->SortSt->Prop)(Inv:Nat->β->SortSt->Prop)(h0:Inv 0 b st)(step:∀k b st,k<N->Inv k b st->W X (f k b) (λr aN=>match r with|.done a7=>Post a7 aN|.yield a7=>Inv (k+1) a7 aN) st)(fin:∀b st,Inv N b st->Post b st)(k:∀b st,Post b st->W X (cont b) Q st):W X (forIn [0:N] b f >>=cont) Q st:=
 cC (UK (agM Inv h0 step fin) k)
theorem Ľ(left:Bool)(key:Keyed)(arr:Array Keyed)(base n hint:Nat):nO left key arr base n hint=(do
  let beyond (i:Nat):StateT SortSt Sem (Option Bool):=do
   let x <-f7 arr (base+i)
   if left then lt' x key else return (<-lt' key x).map (!·)
  let mut GF:=0
  let mut dR:=1
  let mut lo:=0
  let mut ai:=0
  let some right <-beyond hint|return none
  if right then
   let Cu:=n-hint
   for _ in [0:n] do
    if dR≥Cu then break
    let some more <-beyond (hint+dR)|return none
    if !more then break
    GF:=dR
    dR:=2*dR+1
   lo:=hint+GF+1
   ai:=hint+min dR Cu
  else
   let Cu:=hint+1
   for _ in [0:n] do
    if dR≥Cu then break
    let some found <-beyond (hint-dR)|return none
    if found then break
    GF:=dR
    dR:=2*dR+1
   lo:=hint+1-min dR Cu
   ai:=hint-GF
  for _ in [0:n] do
   if lo≥ai then break
   let m:=lo+(ai-lo)/2
   let some more <-beyond m|return none
   if more then lo:=m+1 else ai:=m
  return some ai):=rfl
noncomputable def k7(X:Ctx)(left:Bool)(key:Nat)(l:bj)(i:Nat):Bool:=if left then X.lt (l.getD i 0) key else !X.lt key (l.getD i 0)
theorem xW{left:Bool}{key:Nat}{l:bj}{base m hint:Nat}{Q:Option Nat->SortSt->Prop}{p:c'}{bc:l0}{g:Nat}(aE:key<X.n)(aq:∀x∈l,x<X.n)(U:base+m<=l.length)(dy:hint<m)(mono:∀i j,i<j->j<m->k7 X left key l (base+j)=true->k7 X left key l (base+i)=true)(h:∀k,k<=m->(∀i,i<k->k7 X left key l (base+i)=true)->(∀i,k<=i->i<m->k7 X left key l (base+i)=false)->Q (some k) (ST X p bc g)):
  W X (nO left (X.item key) (l.map X.item).toArray base m hint) Q (ST X p bc g):=by
 rw[Ľ];have AD:∀(i:Nat){R:Option Bool->SortSt->Prop},i<m->R (some (k7 X left key l (base+i))) (ST X p bc g)->W X (do
   let x <-f7 (l.map X.item).toArray (base+i)
   if left=true then lt' x (X.item key)else do
    let r <-lt' (X.item key) x
    pure (r.map (!·))) R (ST X p bc g):=λi R ai cF=>by
  have F':base+i<l.length:=by omega
  have e:l.getD (base+i) 0=l[base+i]:=by rw[dr,ct F'];rfl
  refine cC (UM F' ?_);unfold k7 at cF;rw[e]at cF;cases left with
  |true=>exact z' (aq _ (eY F')) aE cF
  |false=>exact cC (z' aE (aq _ (eY F')) (cv cF))
 generalize k7 X left key l=bd at *;have GJ:∀k,k<m->bd (base+k)=true->∀i,i<k+1->bd (base+i)=true:=λk aE c2 i ai=>by
  by_cases e:i=k
  .rw[e];exact c2
  .exact mono i k (by omega) aE c2
 have Gb:∀k,k<m->bd (base+k)=false->∀i,k<=i->i<m->bd (base+i)=false:=λk aE c2 i ai BI=>by
  by_cases e:i=k
  .rw[e];exact c2
  .cases az:bd (base+i)with
   |false=>rfl
   |true=>rw[mono k i (by omega) BI az]at c2;cases c2
 dsimp only;refine cC (AD hint dy ?_);dsimp only;cases qc:bd (base+hint)with
 |true=>
  rw[aO rfl];refine lp (Post:=λb aN=>aN=ST X p bc g/\∃aw dR,b=(none,aw,dR)/\bd (base+(hint+aw))=true/\aw<m-hint/\aw<dR/\(m-hint<=dR\/bd (base+(hint+dR))=false))
   (λk b aN=>aN=ST X p bc g/\∃aw dR,b=(none,aw,dR)/\bd (base+(hint+aw))=true/\aw<m-hint/\aw<dR/\k+1<=dR) ⟨rfl,0,1,rfl,qc,by omega,by omega,by omega⟩ ?_ ?_ ?_
  .rintro k b aN aE ⟨rfl,aw,dR,rfl,bq,cj,fk,jC⟩;dsimp only;by_cases c:dR≥m-hint
   .rw[aO c];exact cv ⟨rfl,aw,dR,rfl,bq,cj,fk,.inl c⟩
   .rw[aJ c];refine cC (AD _ (by omega) ?_);dsimp only;cases e:bd (base+(hint+dR))with
    |true=>
     rw[aJ (by decide)];exact cv ⟨rfl,_,_,rfl,e,by omega,by omega,by omega⟩
    |false=>
     rw[aO (by decide)];exact cv ⟨rfl,aw,dR,rfl,bq,cj,fk,.inr e⟩
  .rintro b aN ⟨rfl,aw,dR,rfl,bq,cj,fk,jC⟩;exact⟨rfl,aw,dR,rfl,bq,cj,fk,.inl (by omega)⟩
  .rintro b aN ⟨rfl,aw,dR,rfl,bq,cj,fk,jC⟩;dsimp only;have low:=GJ (hint+aw) (by omega) bq;have high:∀i,hint+min dR (m-hint)<=i->i<m->bd (base+i)=false:=λi ag af=>by
    rcases jC with z|z
    .omega
    .by_cases c:m-hint<=dR
     .omega
     .exact Gb (hint+dR) (by omega) z i (by omega) af
   refine lp (Post:=λb aN=>aN=ST X p bc g/\∃ai,b=(none,ai,ai)/\ai<=m/\(∀i,i<ai->bd (base+i)=true)/\∀i,ai<=i->i<m->bd (base+i)=false)
    (λk b aN=>aN=ST X p bc g/\∃lo ai,b=(none,lo,ai)/\lo<=ai/\ai<=m/\ai-lo<=m-k/\(∀i,i<lo->bd (base+i)=true)/\∀i,ai<=i->i<m->bd (base+i)=false) ⟨rfl,hint+aw+1,hint+min dR (m-hint),rfl,by omega,by omega,by omega,low,high⟩ ?_ ?_ ?_
   .rintro k b aN aE ⟨rfl,lo,ai,rfl,ag,af,dq,aV,bU⟩;dsimp only;by_cases c:lo≥ai
    .rw[aO c];have:lo=ai:=by omega
     subst this;exact cv ⟨rfl,lo,rfl,af,aV,bU⟩
    .rw[aJ c];have hm:lo+(ai-lo)/2<m:=by omega
     refine cC (AD _ hm ?_);dsimp only;cases e:bd (base+(lo+(ai-lo)/2))with
     |true=>
      rw[aO rfl];exact cv ⟨rfl,_,_,rfl,by omega,af,by omega,GJ _ hm e,bU⟩
     |false=>
      rw[aJ (by decide)];exact cv ⟨rfl,_,_,rfl,by omega,by omega,by omega,aV,Gb _ hm e⟩
   .rintro b aN ⟨rfl,lo,ai,rfl,ag,af,dq,aV,bU⟩;have:lo=ai:=by omega
    subst this;exact⟨rfl,lo,rfl,af,aV,bU⟩
   .rintro b aN ⟨rfl,ai,rfl,af,aV,bU⟩;exact cv (h ai af aV bU)
 |false=>
  rw[aJ (by decide)];refine lp (Post:=λb aN=>aN=ST X p bc g/\∃aw dR,b=(none,aw,dR)/\bd (base+(hint-aw))=false/\aw<hint+1/\aw<dR/\(hint+1<=dR\/bd (base+(hint-dR))=true))
   (λk b aN=>aN=ST X p bc g/\∃aw dR,b=(none,aw,dR)/\bd (base+(hint-aw))=false/\aw<hint+1/\aw<dR/\k+1<=dR) ⟨rfl,0,1,rfl,qc,by omega,by omega,by omega⟩ ?_ ?_ ?_
  .rintro k b aN aE ⟨rfl,aw,dR,rfl,bq,cj,fk,jC⟩;dsimp only;by_cases c:dR≥hint+1
   .rw[aO c];exact cv ⟨rfl,aw,dR,rfl,bq,cj,fk,.inl c⟩
   .rw[aJ c];refine cC (AD _ (by omega) ?_);dsimp only;cases e:bd (base+(hint-dR))with
    |true=>
     rw[aO rfl];exact cv ⟨rfl,aw,dR,rfl,bq,cj,fk,.inr e⟩
    |false=>
     rw[aJ (by decide)];exact cv ⟨rfl,_,_,rfl,e,by omega,by omega,by omega⟩
  .rintro b aN ⟨rfl,aw,dR,rfl,bq,cj,fk,jC⟩;exact⟨rfl,aw,dR,rfl,bq,cj,fk,.inl (by omega)⟩
  .rintro b aN ⟨rfl,aw,dR,rfl,bq,cj,fk,jC⟩;dsimp only;have high:=Gb (hint-aw) (by omega) bq;have low:∀i,i<hint+1-min dR (hint+1)->bd (base+i)=true:=λi ai=>by
    rcases jC with z|z
    .omega
    .by_cases c:hint+1<=dR
     .omega
     .exact GJ (hint-dR) (by omega) z i (by omega)
   refine lp (Post:=λb aN=>aN=ST X p bc g/\∃ai,b=(none,ai,ai)/\ai<=m/\(∀i,i<ai->bd (base+i)=true)/\∀i,ai<=i->i<m->bd (base+i)=false)
    (λk b aN=>aN=ST X p bc g/\∃lo ai,b=(none,lo,ai)/\lo<=ai/\ai<=m/\ai-lo<=m-k/\(∀i,i<lo->bd (base+i)=true)/\∀i,ai<=i->i<m->bd (base+i)=false) ⟨rfl,hint+1-min dR (hint+1),hint-aw,rfl,by omega,by omega,by omega,low,high⟩ ?_ ?_ ?_
   .rintro k b aN aE ⟨rfl,lo,ai,rfl,ag,af,dq,aV,bU⟩;dsimp only;by_cases c:lo≥ai
    .rw[aO c];have:lo=ai:=by omega
     subst this;exact cv ⟨rfl,lo,rfl,af,aV,bU⟩
    .rw[aJ c];have hm:lo+(ai-lo)/2<m:=by omega
     refine cC (AD _ hm ?_);dsimp only;cases e:bd (base+(lo+(ai-lo)/2))with
     |true=>
      rw[aO rfl];exact cv ⟨rfl,_,_,rfl,by omega,af,by omega,GJ _ hm e,bU⟩
     |false=>
      rw[aJ (by decide)];exact cv ⟨rfl,_,_,rfl,by omega,by omega,by omega,aV,Gb _ hm e⟩
   .rintro b aN ⟨rfl,lo,ai,rfl,ag,af,dq,aV,bU⟩;have:lo=ai:=by omega
    subst this;exact⟨rfl,lo,rfl,af,aV,bU⟩
   .rintro b aN ⟨rfl,ai,rfl,af,aV,bU⟩;exact cv (h ai af aV bU)
theorem ú(a b:Array Keyed):Qx a b=(do
 rule "list.sort.merge-lo"
 let total:=a.size+b.size
 let done (out:Array Keyed) (a6 a3:Nat):=out++a.extract a6 a.size++b.extract a3 b.size
 let GD (out:Array Keyed) (a6 a3:Nat):=out++b.extract a3 b.size++a.extract a6 a.size
 let mut out:Array Keyed:=#[<-f7 b 0]
 let mut a6:=0
 let mut a3:=1
 if a3==b.size then return done out a6 a3
 if a6+1==a.size then return GD out a6 a3
 let mut minGallop:=gallopOf (<-get)
 for _ in [0:total] do
  let mut mG:=0
  let mut mH:=0
  for _ in [0:total] do
   let some ajb <-lt' (<-f7 b a3) (<-f7 a a6)|return done out a6 a3
   if ajb then
    out:=out.push (<-f7 b a3);a3:=a3+1;mH:=mH+1;mG:=0
    if a3==b.size then return done out a6 a3
    if mH≥minGallop then break
   else
    out:=out.push (<-f7 a a6);a6:=a6+1;mG:=mG+1;mH:=0
    if a6+1==a.size then return GD out a6 a3
    if mG≥minGallop then break
  rule "list.sort.gallop"
  minGallop:=minGallop+1
  for _ in [0:total] do
   if minGallop>1 then minGallop:=minGallop-1
   vi minGallop
   let some k <-nO false (<-f7 b a3) a a6 (a.size-a6) 0|return done out a6 a3
   mG:=k
   if k>0 then
    out:=out++a.extract a6 (a6+k);a6:=a6+k
    if a6+1==a.size then return GD out a6 a3
    if a6==a.size then return done out a6 a3
   out:=out.push (<-f7 b a3);a3:=a3+1
   if a3==b.size then return done out a6 a3
   let some k <-nO true (<-f7 a a6) b a3 (b.size-a3) 0|return done out a6 a3
   mH:=k
   if k>0 then
    out:=out++b.extract a3 (a3+k);a3:=a3+k
    if a3==b.size then return done out a6 a3
   out:=out.push (<-f7 a a6);a6:=a6+1
   if a6+1==a.size then return GD out a6 a3
   if mG<7&&mH<7 then break
  minGallop:=minGallop+1
  vi minGallop
 unsupported "internal:list.sort.merge-bound"):=rfl
theorem û(a b:Array Keyed):Qy a b=(do
 rule "list.sort.merge-hi"
 let total:=a.size+b.size
 let done (out:Array Keyed) (na nb:Nat):=a.extract 0 na++b.extract 0 nb++out.reverse
 let Fy (out:Array Keyed) (na nb:Nat):=b.extract 0 nb++a.extract 0 na++out.reverse
 let mut na:=a.size-1
 let mut nb:=b.size
 let mut out:Array Keyed:=#[<-f7 a na]
 if na==0 then return done out na nb
 if nb==1 then return Fy out na nb
 let mut minGallop:=gallopOf (<-get)
 for _ in [0:total] do
  let mut mG:=0
  let mut mH:=0
  for _ in [0:total] do
   let some aiM <-lt' (<-f7 b (nb-1)) (<-f7 a (na-1))|return done out na nb
   if aiM then
    na:=na-1;out:=out.push (<-f7 a na);mG:=mG+1;mH:=0
    if na==0 then return done out na nb
    if mG≥minGallop then break
   else
    nb:=nb-1;out:=out.push (<-f7 b nb);mH:=mH+1;mG:=0
    if nb==1 then return Fy out na nb
    if mH≥minGallop then break
  rule "list.sort.gallop"
  minGallop:=minGallop+1
  for _ in [0:total] do
   if minGallop>1 then minGallop:=minGallop-1
   vi minGallop
   let some at_ <-nO false (<-f7 b (nb-1)) a 0 na (na-1)|return done out na nb
   let k:=na-at_
   mG:=k
   if k>0 then
    out:=out++(a.extract at_ na).reverse;na:=at_
    if na==0 then return done out na nb
   nb:=nb-1;out:=out.push (<-f7 b nb)
   if nb==1 then return Fy out na nb
   let some at_ <-nO true (<-f7 a (na-1)) b 0 nb (nb-1)|return done out na nb
   let k:=nb-at_
   mH:=k
   if k>0 then
    out:=out++(b.extract at_ nb).reverse;nb:=at_
    if nb==1 then return Fy out na nb
    if nb==0 then return done out na nb
   na:=na-1;out:=out.push (<-f7 a na)
   if na==0 then return done out na nb
   if mG<7&&mH<7 then break
  minGallop:=minGallop+1
  vi minGallop
 unsupported "internal:list.sort.merge-bound"):=rfl
variable{X:Ctx}
noncomputable def Ctx.arr(X:Ctx)(l:bj):Array Keyed:=(l.map X.item).toArray
theorem xX(l:bj):(X.arr l).size=l.length:=by simp[Ctx.arr]
theorem jN(l m:bj):X.arr l++X.arr m=X.arr (l++m):=by simp[Ctx.arr]
theorem xY(l:bj)(x:Nat):(X.arr l).push (X.item x)=X.arr (l++[x]):=by simp[Ctx.arr]
theorem k_(l:bj)(i j:Nat):(X.arr l).extract i j=X.arr ((l.drop i).take (j-i)):=by unfold Ctx.arr;rw[List.extract_toArray,List.extract_eq_drop_take,wM,abM]
theorem yg(l:bj):(X.arr l).reverse=X.arr l.reverse:=by simp[Ctx.arr]
theorem xZ(l:bj)(i:Nat):(X.arr l).extract i (X.arr l).size=X.arr (l.drop i):=by rw[k_,xX,Ut (by rw[pP];omega)]
theorem ja{l:bj}{k:Nat}{Q:Keyed->SortSt->Prop}{st:SortSt}(aE:k<l.length)(h:Q (X.item l[k]) st):W X (f7 (X.arr l) k) Q st:=UM aE h
noncomputable abbrev Ctx.Lt(X:Ctx)(i j:Nat):Prop:=X.lt i j=true
structure jg(X:Ctx)(aw aB:bj):Prop where
 aU:aw.Pairwise X.Lt
 b5:aB.Pairwise X.Lt
 na:∀x∈aw,x<X.n
 nb:∀x∈aB,x<X.n
 aks:∀x∈aw,∀y∈aB,x≠y
 fst:∀(h:0<aB.length),∀y∈aw,X.Lt aB[0] y
 lst:∀(h:aw.length-1<aw.length),∀y∈aB,X.Lt y aw[aw.length-1]
theorem jg.tD{aw aB:bj}(m:jg X aw aB){x y:Nat}(ao:x∈aw)(aZ:y∈aB)(h:X.lt y x=false):X.Lt x y:=by
 rcases X.ok.to x y (m.na x ao) (m.nb y aZ) (m.aks x ao y aZ)with z|z
 .exact z
 .rw[z]at h;cases h
structure iy(X:Ctx)(aw aB o:bj)(a6 a3:Nat):Prop where
 pm:(o++aw.drop a6++aB.drop a3).Perm (aw++aB)
 ea:o.Pairwise X.Lt
 o8:∀x∈o,∀y∈aw.drop a6,X.Lt x y
 o9:∀x∈o,∀y∈aB.drop a3,X.Lt x y
noncomputable def oC(X:Ctx)(aw aB r:bj):Prop:=r.Perm (aw++aB)/\r.Pairwise X.Lt
section
variable{aw aB o:bj}{a6 a3:Nat}
theorem iy.tK(M:jg X aw aB)(h:iy X aw aB o a6 a3)(k:Nat)(aE:∀x∈(aw.drop a6).take k,∀y∈aB.drop a3,X.Lt x y):iy X aw aB (o++(aw.drop a6).take k) (a6+k) a3:=by
 have e:(aw.drop a6).take k++aw.drop (a6+k)=aw.drop a6:=by rw[<-Uc];exact so k _
 have cX:=M.aU.sublist (wJ a6 aw);rw[<-e,kz]at cX;refine⟨?_,?_,λx ao y aZ=>?_,λx ao y aZ=>?_⟩
 .rw[iV o,e];exact h.pm
 .rw[kz];exact⟨h.ea,cX.1,λx ao y aZ=>h.o8 x ao y (Ex aZ)⟩
 .rcases fY.mp ao with z|z
  .exact h.o8 x z y (by rw[<-e];exact fY.mpr (.inr aZ))
  .exact cX.2.2 x z y aZ
 .rcases fY.mp ao with z|z
  .exact h.o9 x z y aZ
  .exact aE x z y aZ
theorem iy.tL(M:jg X aw aB)(h:iy X aw aB o a6 a3)(k:Nat)(aE:∀x∈(aB.drop a3).take k,∀y∈aw.drop a6,X.Lt x y):iy X aw aB (o++(aB.drop a3).take k) a6 (a3+k):=by
 have e:(aB.drop a3).take k++aB.drop (a3+k)=aB.drop a3:=by rw[<-Uc];exact so k _
 have cX:=M.b5.sublist (wJ a3 aB);rw[<-e,kz]at cX;refine⟨?_,?_,λx ao y aZ=>?_,λx ao y aZ=>?_⟩
 .refine zX ?_ h.pm;rw[iV,iV,iV];refine En o ?_;refine zX (abT _ _ _) ?_;rw[e]
 .rw[kz];exact⟨h.ea,cX.1,λx ao y aZ=>h.o9 x ao y (Ex aZ)⟩
 .rcases fY.mp ao with z|z
  .exact h.o8 x z y aZ
  .exact aE x z y aZ
 .rcases fY.mp ao with z|z
  .exact h.o9 x z y (by rw[<-e];exact fY.mpr (.inr aZ))
  .exact cX.2.2 x z y aZ
theorem iy.done(M:jg X aw aB)(h:iy X aw aB o a6 a3)(z:aw.length<=a6\/aB.length<=a3):oC X aw aB (o++aw.drop a6++aB.drop a3):=by
 refine⟨h.pm,?_⟩;have s1:=M.aU.sublist (wJ a6 aw);have s2:=M.b5.sublist (wJ a3 aB);rcases z with z|z
 .rw[Er z,iW,kz];exact⟨h.ea,s2,h.o9⟩
 .rw[Er z,iW,kz];exact⟨h.ea,s1,h.o8⟩
theorem iy.last(M:jg X aw aB)(h:iy X aw aB o a6 a3)(z:a6+1=aw.length):oC X aw aB (o++aB.drop a3++aw.drop a6):=by
 have s1:=M.aU.sublist (wJ a6 aw);have s2:=M.b5.sublist (wJ a3 aB);refine⟨zX ?_ h.pm,?_⟩
 .rw[iV,iV];exact En o Ur
 .rw[kz,kz];refine⟨⟨h.ea,s2,h.o9⟩,s1,λx ao y aZ=>?_⟩;have e:aw.drop a6=[aw[aw.length-1]'(by omega)]:=by
   rw[zY (by omega:a6<aw.length),Er (by omega)];have:a6=aw.length-1:=by omega
   subst this;rfl
  rcases fY.mp ao with w|w
  .exact h.o8 x w y aZ
  .rw[e]at aZ;rw[fD.mp aZ];exact M.lst (by omega) x (List.mem_of_mem_drop w)
theorem pe{l:bj}{i:Nat}(h:i<l.length):(l.drop i).take 1=[l[i]]:=by rw[zY h];rfl
theorem Zr{l:bj}{i k x:Nat}(h:x∈(l.drop i).take k):∃j,j<k/\∃aQ:i+j<l.length,x=l[i+j]:=by obtain⟨j,aQ,rfl⟩:=hq h;rw[f_,pP]at aQ;refine⟨j,by omega,by omega,?_⟩;rw[q2,ue]
theorem uN{l:bj}{i x:Nat}(h:x∈l.drop i):∃j,i<=j/\∃aQ:j<l.length,x=l[j]:=by obtain⟨j,aQ,rfl⟩:=hq h;rw[pP]at aQ;refine⟨i+j,by omega,by omega,?_⟩;rw[ue]
theorem y'{l:bj}(s:l.Pairwise X.Lt){i j:Nat}(o1:i<j)(aQ:j<l.length):X.Lt l[i] l[j]:=sm.mp s i j (by omega) aQ o1
theorem Eb{l:bj}(s:l.Pairwise X.Lt){x i j:Nat}(aQ:j<l.length)(o1:i<=j)(h:X.Lt x (l[i]'(by omega))):X.Lt x l[j]:=by
 by_cases e:i=j
 .subst e;exact h
 .exact X.ok.hF _ _ _ h (y' s (by omega) aQ)
theorem Hf{k:Nat}{Q:Unit->SortSt->Prop}{p:c'}{bc:l0}{g:Nat}(h:Q () (ST X p bc k)):W X (vi k) Q (ST X p bc g):=qf h
theorem tu{key:Nat}{l:bj}{i:Nat}(ai:i<l.length):k7 X false key l i=!X.lt key l[i]:=by unfold k7;rw[aJ (by decide),dr,ct ai];rfl
theorem tv{key:Nat}{l:bj}{i:Nat}(ai:i<l.length):k7 X true key l i=X.lt l[i] key:=by unfold k7;rw[aO rfl,dr,ct ai];rfl
theorem υ{key:Nat}{l:bj}(s:l.Pairwise X.Lt){base m:Nat}(U:base+m<=l.length):∀i j,i<j->j<m->k7 X false key l (base+j)=true->k7 X false key l (base+i)=true:=λi j o1 aQ h=>by
 rw[tu (by omega)]at h⊢;cases e:X.lt key (l[base+i]'(by omega))with
 |false=>rfl
 |true=>
  have:X.lt key (l[base+j]'(by omega))=true:=X.ok.hF _ _ _ e (y' s (by omega) (by omega));rw[this]at h;cases h
theorem φ{key:Nat}{l:bj}(s:l.Pairwise X.Lt){base m:Nat}(U:base+m<=l.length):∀i j,i<j->j<m->k7 X true key l (base+j)=true->k7 X true key l (base+i)=true:=λi j o1 aQ h=>by rw[tv (by omega)]at h⊢;exact X.ok.hF _ _ _ (y' s (by omega) (by omega)) h
theorem UA{α:Type}{c:Prop}[Decidable c]{F:Nat->StateT SortSt Sem α}{Q:α->SortSt->Prop}{st:SortSt}{m n:Nat}(h:∀m,W X (F m) Q st):W X (if c then F m else F n) Q st:=by split<;>exact h _
noncomputable abbrev sf:=Option (Array Keyed)×Array Keyed×Nat×Nat×Nat×Nat×Nat
end
noncomputable def GI(a b:Array Keyed)(aU b5 ae ac cL a6:Nat)(out:Array Keyed)(a3:Nat):StateT SortSt Sem (ForInStep sf):=do
 let x <-f7 a a6
 if a6+1+1==aU then pure (.done (some (out.push x++b.extract a3 b5++a.extract (a6+1) aU),out.push x,a6+1,a3,ae,ac,cL))
 else if ac<7&&cL<7 then pure (.done (none,out.push x,a6+1,a3,ae,ac,cL))else pure (.yield (none,out.push x,a6+1,a3,ae,ac,cL))
noncomputable def GH(a b:Array Keyed)(aU b5 ae ac cL:Nat)(out:Array Keyed)(a6 a3:Nat):StateT SortSt Sem (ForInStep sf):=do
 let y <-f7 b a3
 if a3+1==b5 then pure (.done (some (out.push y++a.extract a6 aU++b.extract (a3+1) b5),out.push y,a6,a3+1,ae,ac,cL))
 else do
  let x <-f7 a a6
  let r <-nO true x b (a3+1) (b5-(a3+1)) 0
  match r with
  |some k=>
   if k>0 then
    if a3+1+k==b5 then pure (.done (some (out.push y++b.extract (a3+1) (a3+1+k)++a.extract a6 aU++b.extract (a3+1+k) b5),out.push y++b.extract (a3+1) (a3+1+k),a6,a3+1+k,ae,ac,k))
    else GI a b aU b5 ae ac k a6 (out.push y++b.extract (a3+1) (a3+1+k)) (a3+1+k)
   else GI a b aU b5 ae ac k a6 (out.push y) (a3+1)
  |_=>pure (.done (some (out.push y++a.extract a6 aU++b.extract (a3+1) b5),out.push y,a6,a3+1,ae,ac,cL))
noncomputable def Cf(a b:Array Keyed)(aU b5:Nat)(out:Array Keyed)(a6 a3 ae ac cL:Nat):StateT SortSt Sem (ForInStep sf):=do
 vi ae
 let y <-f7 b a3
 let r <-nO false y a a6 (aU-a6) 0
 match r with
 |some k=>
  if k>0 then
   if a6+k+1==aU then pure (.done (some (out++a.extract a6 (a6+k)++b.extract a3 b5++a.extract (a6+k) aU),out++a.extract a6 (a6+k),a6+k,a3,ae,k,cL))
   else if a6+k==aU then pure (.done (some (out++a.extract a6 (a6+k)++a.extract (a6+k) aU++b.extract a3 b5),out++a.extract a6 (a6+k),a6+k,a3,ae,k,cL))
   else GH a b aU b5 ae k cL (out++a.extract a6 (a6+k)) (a6+k) a3
  else GH a b aU b5 ae k cL out a6 a3
 |_=>pure (.done (some (out++a.extract a6 aU++b.extract a3 b5),out,a6,a3,ae,ac,cL))
section
variable{aw aB o:bj}{Q:ForInStep sf->SortSt->Prop}{st:SortSt}{p:c'}{bc:l0}{t i n a6 a3 ae ac cL:Nat}
structure JZ(X:Ctx)(aw aB:bj)(Q:ForInStep sf->SortSt->Prop)(t:Nat)(st:SortSt):Prop where
 fH:∀r b,oC X aw aB r->b.1=some (X.arr r)->Q (.done b) st
 cy:∀o a6 a3 ae ac cL,iy X aw aB o a6 a3->a6+1<aw.length->a3<aB.length->t<=a6+a3->Q (.done (none,X.arr o,a6,a3,ae,ac,cL)) st/\Q (.yield (none,X.arr o,a6,a3,ae,ac,cL)) st
theorem y_(o:bj)(a6 a3:Nat):X.arr o++(X.arr aw).extract a6 aw.length++(X.arr aB).extract a3 aB.length=X.arr (o++aw.drop a6++aB.drop a3):=by have ax:=xZ (X:=X) aw a6;have az:=xZ (X:=X) aB a3;rw[xX]at ax az;rw[ax,az,jN,jN]
theorem VH(l o:bj)(i k:Nat):X.arr o++(X.arr l).extract i (i+k)=X.arr (o++(l.drop i).take k):=by rw[k_,jN,show i+k-i=k by omega]
theorem VI(M:jg X aw aB){g:Nat}(q:JZ X aw aB Q t (ST X p bc g))(I:iy X aw aB o i n)(ag:i+1<aw.length)(af:n<aB.length)(cO:t<=i+1+n)(nj:∀y∈aB.drop n,X.Lt (aw[i]'(by omega)) y):W X (GI (X.arr aw) (X.arr aB) aw.length aB.length ae ac cL i (X.arr o) n) Q (ST X p bc g):=by
 have uX:i<aw.length:=by omega
 unfold GI;refine cC (ja uX ?_);rw[xY];have I:=I.tK M 1 (λx ao y aZ=>by rw[pe uX]at ao;rw[fD.mp ao];exact nj y aZ);rw[pe uX]at I;by_cases mI:(i+1+1==aw.length)=true
 .rw[aO mI];exact cv (q.fH _ _ (I.last M (by simpa using mI)) (e9 some (y_ _ _ _)))
 rw[aJ mI];have z:=q.cy _ _ _ ae ac cL I (by simp at mI;omega) af cO;split
 .exact cv z.1
 .exact cv z.2
theorem VJ(M:jg X aw aB){g:Nat}(q:JZ X aw aB Q t (ST X p bc g))(I:iy X aw aB o i a3)(ag:i+1<aw.length)(af:a3<aB.length)(cO:t<=i+1+(a3+1))(kP:∀y∈aw.drop i,X.Lt aB[a3] y):W X (GH (X.arr aw) (X.arr aB) aw.length aB.length ae ac cL (X.arr o) i a3) Q (ST X p bc g):=by
 unfold GH;refine cC (ja af ?_);rw[xY];have I:=I.tL M 1 (λx ao y aZ=>by rw[pe af]at ao;rw[fD.mp ao];exact kP y aZ);rw[pe af]at I;by_cases dp:(a3+1==aB.length)=true
 .rw[aO dp];exact cv (q.fH _ _ (I.done M (.inr (by simp at dp;omega))) (e9 some (y_ _ _ _)))
 rw[aJ dp];have fV:a3+1<aB.length:=by simp at dp;omega
 have uX:i<aw.length:=by omega
 clear kP dp;refine cC (ja uX ?_);refine cC (xW (left:=true) (key:=aw[i]) (l:=aB) (base:=a3+1) (m:=aB.length-(a3+1)) (hint:=0) (M.na _ (eY uX)) M.nb (by omega) (by omega) (φ M.b5 (by omega)) λk gh fy kp=>?_);dsimp only;have nj:∀y∈aB.drop (a3+1+k),X.Lt aw[i] y:=λy aZ=>by obtain⟨j,gL,gg,rfl⟩:=uN aZ;have:=kp (j-(a3+1)) (by omega) (by omega);rw[show a3+1+(j-(a3+1))=j by omega,tv gg]at this;exact M.tD (eY uX) (eY gg) this
 by_cases kg:k>0
 .rw[aO kg,VH];have I:=I.tL M k λx ao y aZ=>by obtain⟨j,gL,gg,rfl⟩:=Zr ao;obtain⟨g_,ly,o3,rfl⟩:=uN aZ;have:=fy j gL;rw[tv gg]at this;exact Eb M.aU o3 ly this
  by_cases hM:(a3+1+k==aB.length)=true
  .rw[aO hM];exact cv (q.fH _ _ (I.done M (.inr (by simp at hM;omega))) (e9 some (y_ _ _ _)))
  rw[aJ hM];exact VI M q I ag (by simp at hM;omega) (by omega) nj
 .rw[aJ kg];obtain rfl:k=0:=by omega
  exact VI M q I ag fV cO nj
theorem agN{g:Nat}(M:jg X aw aB)(q:JZ X aw aB Q t (ST X p bc ae))(I:iy X aw aB o a6 a3)(ag:a6+1<aw.length)(af:a3<aB.length)(cO:t<=a6+1+(a3+1)):W X (Cf (X.arr aw) (X.arr aB) aw.length aB.length (X.arr o) a6 a3 ae ac cL) Q (ST X p bc g):=by
 unfold Cf;refine cC (Hf ?_);refine cC (ja af ?_);refine cC (xW (left:=false) (key:=aB[a3]) (l:=aw) (base:=a6) (m:=aw.length-a6) (hint:=0) (M.nb _ (eY af)) M.na (by omega) (by omega) (υ M.aU (by omega)) λk k1 k2 k3=>?_);dsimp only;have kP:∀y∈aw.drop (a6+k),X.Lt aB[a3] y:=λy aZ=>by obtain⟨j,gL,gg,rfl⟩:=uN aZ;have:=k3 (j-a6) (by omega) (by omega);rw[show a6+(j-a6)=j by omega,tu gg]at this;simpa using this
 by_cases kg:k>0
 .rw[aO kg,VH];have I:=I.tK M k λx ao y aZ=>by obtain⟨j,gL,gg,rfl⟩:=Zr ao;obtain⟨g_,ly,o3,rfl⟩:=uN aZ;have:=k2 j gL;rw[tu gg]at this;exact Eb M.b5 o3 ly (M.tD (eY gg) (eY af) (by simpa using this))
  by_cases c:(a6+k+1==aw.length)=true
  .rw[aO c];exact cv (q.fH _ _ (I.last M (by simpa using c)) (e9 some (y_ _ _ _)))
  rw[aJ c];by_cases gz:(a6+k==aw.length)=true
  .rw[aO gz];exact cv (q.fH _ _ (I.done M (.inl (by simp at gz;omega))) (e9 some (y_ _ _ _)))
  rw[aJ gz];exact VJ M q I (by simp at c gz;omega) af (by omega) kP
 .rw[aJ kg];obtain rfl:k=0:=by omega
  exact VJ M q I ag af cO kP
end
section
variable(X:Ctx)(aw aB:bj)(p:c')(bc:l0)(k:Nat)
inductive Ey(b:Option (Array Keyed)):Prop where
 |mk (r:bj) (b0:b=some (X.arr r)) (bH:oC X aw aB r)
inductive V'(b:Option (Array Keyed))(aN:SortSt):Prop where
 |mk (g':Nat) (r:bj) (Iq:aN=ST X p bc g') (b0:b=some (X.arr r)) (bH:oC X aw aB r)
inductive ab2(b:Option (Array Keyed)×Array Keyed×Nat×Nat×Nat)(aN:SortSt):Prop where
 |mk (g':Nat) (o:bj) (a6 a3 ae:Nat) (b0:aN=ST X p bc g') (bH:b=(none,X.arr o,a6,a3,ae)) (cu:iy X aw aB o a6 a3) (cS:a6+1<aw.length) (dw:a3<aB.length) (en:k+1<=a6+a3)
inductive ab3(g' j:Nat)(b:Option (Array Keyed)×Array Keyed×Nat×Nat×Nat×Nat)(aN:SortSt):Prop where
 |mk (Iq:aN=ST X p bc g') (o:bj) (a6 a3 ac cL:Nat) (bH:b=(none,X.arr o,a6,a3,ac,cL)) (cu:iy X aw aB o a6 a3) (cS:a6+1<aw.length) (dw:a3<aB.length) (en:k+1+j<=a6+a3)
inductive ahV(b:Option (Array Keyed)×Array Keyed×Nat×Nat×Nat×Nat):Prop where
 |mk (o:bj) (a6 a3 ac cL:Nat) (bH:b=(none,X.arr o,a6,a3,ac,cL)) (cu:iy X aw aB o a6 a3) (cS:a6+1<aw.length) (dw:a3<aB.length) (en:k+2<=a6+a3)
inductive ab4(j:Nat)(b:sf)(aN:SortSt):Prop where
 |mk (g':Nat) (o:bj) (a6 a3 ae ac cL:Nat) (b0:aN=ST X p bc g') (bH:b=(none,X.arr o,a6,a3,ae,ac,cL)) (cu:iy X aw aB o a6 a3) (cS:a6+1<aw.length) (dw:a3<aB.length) (en:k+2+j<=a6+a3)
inductive ahW(b:sf):Prop where
 |mk (o:bj) (a6 a3 ae ac cL:Nat) (bH:b=(none,X.arr o,a6,a3,ae,ac,cL)) (cu:iy X aw aB o a6 a3) (cS:a6+1<aw.length) (dw:a3<aB.length) (en:k+2<=a6+a3)
inductive ahX(b:sf)(aN:SortSt):Prop where
 |mk (g':Nat) (Iq:aN=ST X p bc g') (b0:Ey X aw aB b.1\/ahW X aw aB k b)
end
theorem Ŷ{aw aB:bj}{Q:Array Keyed->SortSt->Prop}{p:c'}{bc:l0}{g:Nat}(M:jg X aw aB)(aH:0<aw.length)(U:0<aB.length)(h:∀r g',oC X aw aB r->Q (X.arr r) (ST X p bc g')):W X (Qx (X.arr aw) (X.arr aB)) Q (ST X p bc g):=by
 rw[ú];refine cC (yC ?_);dsimp only;refine cC (ja U ?_);have cI:(#[X.item aB[0]]:Array Keyed)=X.arr [aB[0]]:=rfl;rw[cI];have t7:iy X aw aB [aB[0]] 0 1:=by
  have z:iy X aw aB [] 0 0:=⟨zW _,Jq,λx ao=>bE ao eZ,λx ao=>bE ao eZ⟩
  have:=z.tL M 1 λx ao y aZ=>by rw[pe U]at ao;rw[fD.mp ao];exact M.fst U y aZ
  rw[pe U]at this;exact this
 have fH:∀o a6 a3,X.arr o++(X.arr aw).extract a6 aw.length++(X.arr aB).extract a3 aB.length=X.arr (o++aw.drop a6++aB.drop a3):=λo a6 a3=>by have ax:=xZ (X:=X) aw a6;have az:=xZ (X:=X) aB a3;rw[xX]at ax az;rw[ax,az,jN,jN]
 have ls:∀o a6 a3,X.arr o++(X.arr aB).extract a3 aB.length++(X.arr aw).extract a6 aw.length=X.arr (o++aB.drop a3++aw.drop a6):=λo a6 a3=>by have ax:=xZ (X:=X) aw a6;have az:=xZ (X:=X) aB a3;rw[xX]at ax az;rw[ax,az,jN,jN]
 have ao0:∀o i k,X.arr o++(X.arr aw).extract i (i+k)=X.arr (o++(aw.drop i).take k):=λo i k=>by rw[k_,jN,show i+k-i=k by omega]
 have ao1:∀o i k,X.arr o++(X.arr aB).extract i (i+k)=X.arr (o++(aB.drop i).take k):=λo i k=>by rw[k_,jN,show i+k-i=k by omega]
 simp only[xX];by_cases eE:(1==aB.length)=true
 .rw[aO eE,fH];exact cv (h _ _ (t7.done M (.inr (by simp at eE;omega))))
 rw[aJ eE];by_cases dp:(0+1==aw.length)=true
 .rw[aO dp,ls];exact cv (h _ _ (t7.last M (by simpa using dp)))
 rw[aJ dp];have gh:1<aB.length:=by simp at eE;omega
 have fy:0+1<aw.length:=by simp at dp;omega
 refine cC (n6 ?_);refine lp (Post:=λb aN=>V' X aw aB p bc b.1 aN)
  (λk b aN=>ab2 X aw aB p bc k b aN)
  ⟨g,[aB[0]],0,1,_,rfl,rfl,t7,fy,gh,by omega⟩ ?_ ?_ ?_
 .rintro k b aN aE ⟨g',o,a6,a3,ae,rfl,rfl,I,ag,af,aV⟩
  try dsimp only
  refine lp (Post:=λb aN=>aN=ST X p bc g'/\(Ey X aw aB b.1\/ahV X aw aB k b))
   (λj b aN=>ab3 X aw aB p bc k g' j b aN) ⟨rfl,o,a6,a3,0,0,rfl,I,ag,af,by omega⟩ ?_ ?_ ?_
  .rintro j b aN aQ ⟨rfl,o,a6,a3,ac,cL,rfl,I,ag,af,aV⟩
   try dsimp only
   have nS:a6<aw.length:=by omega
   refine cC (ja af (cC (ja nS (cC (z' (M.nb _ (eY af)) (M.na _ (eY nS)) ?_)))))
   try dsimp only
   cases e:X.lt aB[a3] aw[a6]with
   |true=>
    rw[aO rfl];refine cC (ja af ?_)
    try dsimp only
    rw[xY];have I:=I.tL M 1 (λx ao y aZ=>by
     rw[pe af]at ao;rw[fD.mp ao];obtain⟨g_,ly,o3,rfl⟩:=uN aZ;exact Eb M.aU o3 ly e)
    rw[pe af]at I;by_cases c:(a3+1==aB.length)=true
    .rw[aO c];exact cv ⟨rfl,.inl ⟨_,e9 some (fH _ _ _),I.done M (.inr (by simp at c;omega))⟩⟩
    rw[aJ c];have fV:a3+1<aB.length:=by simp at c;omega
    split
    .exact cv ⟨rfl,.inr ⟨_,_,_,_,_,rfl,I,ag,fV,by omega⟩⟩
    .exact cv ⟨rfl,_,_,_,_,_,rfl,I,ag,fV,by omega⟩
   |false=>
    rw[aJ (by decide)];refine cC (ja nS ?_)
    try dsimp only
    rw[xY];have I:=I.tK M 1 (λx ao y aZ=>by
     rw[pe nS]at ao;rw[fD.mp ao];obtain⟨g_,ly,o3,rfl⟩:=uN aZ;exact Eb M.b5 o3 ly (M.tD (eY nS) (eY af) e))
    rw[pe nS]at I;by_cases c:(a6+1+1==aw.length)=true
    .rw[aO c];exact cv ⟨rfl,.inl ⟨_,e9 some (ls _ _ _),I.last M (by simpa using c)⟩⟩
    rw[aJ c];have jV:a6+1+1<aw.length:=by simp at c;omega
    split
    .exact cv ⟨rfl,.inr ⟨_,_,_,_,_,rfl,I,jV,af,by omega⟩⟩
    .exact cv ⟨rfl,_,_,_,_,_,rfl,I,jV,af,by omega⟩
  .rintro b aN ⟨rfl,o,a6,a3,ac,cL,rfl,I,ag,af,aV⟩;omega
  .rintro b aN ⟨rfl,z⟩;rcases z with⟨r,e,e3⟩|⟨o,a6,a3,ac,cL,rfl,I,ag,af,aV⟩
   .obtain⟨eC,dT⟩:=b;dsimp only at e;subst e;exact cv ⟨g',r,rfl,rfl,e3⟩
   try dsimp only
   refine cC (yC ?_);refine lp (Post:=λb aN=>ahX X aw aB p bc k b aN)
    (λj b aN=>ab4 X aw aB p bc k j b aN) ⟨g',o,a6,a3,_,_,_,rfl,rfl,I,ag,af,by omega⟩ ?_ ?_ ?_
   .rintro j b aN aQ ⟨g',o,a6,a3,ae,ac,cL,rfl,rfl,I,ag,af,aV⟩
    try dsimp only
    show W X (if ae>1 then Cf (X.arr aw) (X.arr aB) aw.length aB.length (X.arr o) a6 a3 (ae-1) ac cL else Cf (X.arr aw) (X.arr aB) aw.length aB.length (X.arr o) a6 a3 ae ac cL) _ _;refine UA (F:=λm=>Cf (X.arr aw) (X.arr aB) aw.length aB.length (X.arr o) a6 a3 m ac cL) λm=>?_;refine agN (t:=k+2+(j+1)) M ⟨λr b e3 e=>?_,λo a6 a3 ae ac cL I a b c=>⟨?_,?_⟩⟩ I ag af (by omega)
    .exact⟨_,rfl,.inl ⟨r,e,e3⟩⟩
    .exact⟨_,rfl,.inr ⟨_,_,_,_,_,_,rfl,I,a,b,by omega⟩⟩
    .exact⟨_,_,_,_,_,_,_,rfl,rfl,I,a,b,c⟩
   .rintro b aN ⟨g',o,a6,a3,ae,ac,cL,rfl,rfl,I,ag,af,aV⟩;omega
   .rintro b aN ⟨g',rfl,z⟩;rcases z with⟨r,e,e3⟩|⟨o,a6,a3,ae,ac,cL,rfl,I,ag,af,aV⟩
    .obtain⟨eC,dT⟩:=b;dsimp only at e;subst e;exact cv ⟨g',r,rfl,rfl,e3⟩
    try dsimp only
    exact cC (Hf (cv ⟨_,_,_,_,_,rfl,rfl,I,ag,af,by omega⟩))
 .rintro b aN ⟨g',o,a6,a3,ae,rfl,rfl,I,ag,af,aV⟩;omega
 .rintro b aN ⟨g',r,rfl,e,e3⟩;obtain⟨eC,dT⟩:=b;dsimp only at e;subst e;exact cv (h r g' e3)
variable{X:Ctx}
structure ix(X:Ctx)(aw aB q:bj)(na nb:Nat):Prop where
 pm:(aw.take na++aB.take nb++q).Perm (aw++aB)
 ea:q.Pairwise X.Lt
 o8:∀y∈aw.take na,∀x∈q,X.Lt y x
 o9:∀y∈aB.take nb,∀x∈q,X.Lt y x
section
variable{aw aB q:bj}{na nb:Nat}
theorem R9{l:bj}{n k:Nat}(h:k<=n):l.take k++(l.take n).drop k=l.take n:=by have:=so k (l.take n);rw[List.take_take,US h]at this;exact this
theorem ix.tK(M:jg X aw aB)(h:ix X aw aB q na nb){k:Nat}(aE:k<=na)(ao:∀x∈(aw.take na).drop k,∀y∈aB.take nb,X.Lt y x):ix X aw aB ((aw.take na).drop k++q) k nb:=by
 have e:=R9 (l:=aw) aE;have cX:=M.aU.sublist (pR na aw);rw[<-e,kz]at cX;refine⟨?_,?_,λy aZ x e2=>?_,λy aZ x e2=>?_⟩
 .refine zX ?_ h.pm;rw[<-e,iV,iV,iV];rw[e];exact En _ (abT _ _ _)
 .rw[kz];exact⟨cX.2.1,h.ea,λx e2 y aZ=>h.o8 x (by rw[<-e];exact fY.mpr (.inr e2)) y aZ⟩
 .rcases fY.mp e2 with z|z
  .exact cX.2.2 y aZ x z
  .exact h.o8 y (by rw[<-e];exact fY.mpr (.inl aZ)) x z
 .rcases fY.mp e2 with z|z
  .exact ao x z y aZ
  .exact h.o9 y aZ x z
theorem ix.tL(M:jg X aw aB)(h:ix X aw aB q na nb){k:Nat}(aE:k<=nb)(ao:∀x∈(aB.take nb).drop k,∀y∈aw.take na,X.Lt y x):ix X aw aB ((aB.take nb).drop k++q) na k:=by
 have e:=R9 (l:=aB) aE;have cX:=M.b5.sublist (pR nb aB);rw[<-e,kz]at cX;refine⟨?_,?_,λy aZ x e2=>?_,λy aZ x e2=>?_⟩
 .have az:aw.take na++aB.take k++((aB.take nb).drop k++q)=aw.take na++aB.take nb++q:=by rw[iV,<-iV (aB.take k),e,iV]
  rw[az];exact h.pm
 .rw[kz];exact⟨cX.2.1,h.ea,λx e2 y aZ=>h.o9 x (by rw[<-e];exact fY.mpr (.inr e2)) y aZ⟩
 .rcases fY.mp e2 with z|z
  .exact ao x z y aZ
  .exact h.o8 y aZ x z
 .rcases fY.mp e2 with z|z
  .exact cX.2.2 y aZ x z
  .exact h.o9 y (by rw[<-e];exact fY.mpr (.inl aZ)) x z
theorem ix.done(M:jg X aw aB)(h:ix X aw aB q na nb)(z:na=0\/nb=0):oC X aw aB (aw.take na++aB.take nb++q):=by
 refine⟨h.pm,?_⟩;have s1:=M.aU.sublist (pR na aw);have s2:=M.b5.sublist (pR nb aB);rcases z with z|z
 .subst z;rw[uj,Jz,kz];exact⟨s2,h.ea,h.o9⟩
 .subst z;rw[uj,iW,kz];exact⟨s1,h.ea,h.o8⟩
theorem ix.FO(M:jg X aw aB)(h:ix X aw aB q na nb)(z:nb=1)(U:0<aB.length):oC X aw aB (aB.take nb++aw.take na++q):=by
 have s1:=M.aU.sublist (pR na aw);have s2:=M.b5.sublist (pR nb aB);refine⟨zX ?_ h.pm,?_⟩
 .exact abu q Ur
 .rw[kz,kz];refine⟨⟨s2,s1,λx ao y aZ=>?_⟩,h.ea,λx ao y aZ=>?_⟩
  .have e:aB.take nb=[aB[0]]:=by subst z;have:=pe (l:=aB) (i:=0) U;rw[ud]at this;exact this
   rw[e]at ao;rw[fD.mp ao];exact M.fst U y (Ex aZ)
  .rcases fY.mp ao with w|w
   .exact h.o9 x w y aZ
   .exact h.o8 x w y aZ
theorem qA{l:bj}{n:Nat}(h0:0<n)(h:n<=l.length):(l.take n).drop (n-1)=[l[n-1]'(by omega)]:=by rw[zY (by rw[f_];omega),Er (by rw[f_];omega),q2]
theorem Zs{l:bj}{n k x:Nat}(h:x∈(l.take n).drop k):∃j,k<=j/\j<n/\∃aQ:j<l.length,x=l[j]:=by obtain⟨j,gL,gg,rfl⟩:=uN h;rw[f_]at gg;exact⟨j,gL,by omega,by omega,by rw[q2]⟩
theorem xo{l:bj}{n x:Nat}(h:x∈l.take n):∃j,j<n/\∃aQ:j<l.length,x=l[j]:=by obtain⟨j,aQ,rfl⟩:=hq h;rw[f_]at aQ;exact⟨j,by omega,by omega,by rw[q2]⟩
theorem Ec{l:bj}(s:l.Pairwise X.Lt){x i j:Nat}(aQ:j<l.length)(o1:i<=j)(h:X.Lt l[j] x):X.Lt (l[i]'(by omega)) x:=by
 by_cases e:i=j
 .subst e;exact h
 .exact X.ok.hF _ _ _ (y' s (by omega) aQ) h
noncomputable abbrev sa:=Option (Array Keyed)×Nat×Nat×Array Keyed×Nat×Nat×Nat
end
noncomputable def Ga(a b:Array Keyed)(ae ac cL na:Nat)(out:Array Keyed)(nb:Nat):StateT SortSt Sem (ForInStep sa):=do
 let x <-f7 a (na-1)
 if na-1==0 then pure (.done (some (a.extract 0 (na-1)++b.extract 0 nb++(out.push x).reverse),na-1,nb,out.push x,ae,ac,cL))
 else if ac<7&&cL<7 then pure (.done (none,na-1,nb,out.push x,ae,ac,cL))else pure (.yield (none,na-1,nb,out.push x,ae,ac,cL))
noncomputable def F_(a b:Array Keyed)(ae ac cL na:Nat)(out:Array Keyed)(nb:Nat):StateT SortSt Sem (ForInStep sa):=do
 let y <-f7 b (nb-1)
 if nb-1==1 then pure (.done (some (b.extract 0 (nb-1)++a.extract 0 na++(out.push y).reverse),na,nb-1,out.push y,ae,ac,cL))
 else do
  let x <-f7 a (na-1)
  let r <-nO true x b 0 (nb-1) (nb-1-1)
  match r with
  |some k=>
   if nb-1-k>0 then
    if k==1 then pure (.done (some (b.extract 0 k++a.extract 0 na++(out.push y++(b.extract k (nb-1)).reverse).reverse),na,k,out.push y++(b.extract k (nb-1)).reverse,ae,ac,nb-1-k))
    else if k==0 then pure (.done (some (a.extract 0 na++b.extract 0 k++(out.push y++(b.extract k (nb-1)).reverse).reverse),na,k,out.push y++(b.extract k (nb-1)).reverse,ae,ac,nb-1-k))
    else Ga a b ae ac (nb-1-k) na (out.push y++(b.extract k (nb-1)).reverse) k
   else Ga a b ae ac (nb-1-k) na (out.push y) (nb-1)
  |_=>pure (.done (some (a.extract 0 na++b.extract 0 (nb-1)++(out.push y).reverse),na,nb-1,out.push y,ae,ac,cL))
noncomputable def BG(a b:Array Keyed)(na nb:Nat)(out:Array Keyed)(ae ac cL:Nat):StateT SortSt Sem (ForInStep sa):=do
 vi ae
 let y <-f7 b (nb-1)
 let r <-nO false y a 0 na (na-1)
 match r with
 |some k=>
  if na-k>0 then
   if k==0 then pure (.done (some (a.extract 0 k++b.extract 0 nb++(out++(a.extract k na).reverse).reverse),k,nb,out++(a.extract k na).reverse,ae,na-k,cL))
   else F_ a b ae (na-k) cL k (out++(a.extract k na).reverse) nb
  else F_ a b ae (na-k) cL na out nb
 |_=>pure (.done (some (a.extract 0 na++b.extract 0 nb++out.reverse),na,nb,out,ae,ac,cL))
section
variable{aw aB q:bj}{Q:ForInStep sa->SortSt->Prop}{p:c'}{bc:l0}{t na nb ae ac cL g:Nat}
structure JY(X:Ctx)(aw aB:bj)(Q:ForInStep sa->SortSt->Prop)(t:Nat)(st:SortSt):Prop where
 fH:∀r b,oC X aw aB r->b.1=some (X.arr r)->Q (.done b) st
 cy:∀q na nb ae ac cL,ix X aw aB q na nb->0<na->1<nb->na<=aw.length->nb<=aB.length->na+nb+t<=aw.length+aB.length->Q (.done (none,na,nb,X.arr q.reverse,ae,ac,cL)) st/\Q (.yield (none,na,nb,X.arr q.reverse,ae,ac,cL)) st
theorem zb(q:bj)(na nb:Nat):(X.arr aw).extract 0 na++(X.arr aB).extract 0 nb++(X.arr q.reverse).reverse=X.arr (aw.take na++aB.take nb++q):=by rw[k_,k_,yg,jN,jN,Us,ud,ud,wQ,wQ]
theorem VK(l q:bj)(k n:Nat):X.arr q.reverse++((X.arr l).extract k n).reverse=X.arr ((l.take n).drop k++q).reverse:=by rw[k_,yg,jN,JB,Ud]
theorem UB(q:bj)(x:Nat):(X.arr q.reverse).push (X.item x)=X.arr (x::q).reverse:=by rw[xY,abY]
theorem VL(M:jg X aw aB)(od:JY X aw aB Q t (ST X p bc g))(I:ix X aw aB q na nb)(ag:0<na)(af:1<nb)(bU:na<=aw.length)(dq:nb<=aB.length)(cO:na-1+nb+t<=aw.length+aB.length)(nj:∀y∈aB.take nb,X.Lt y (aw[na-1]'(by omega))):W X (Ga (X.arr aw) (X.arr aB) ae ac cL na (X.arr q.reverse) nb) Q (ST X p bc g):=by
 have xv:na-1<aw.length:=by omega
 unfold Ga;refine cC (ja xv ?_);rw[UB];have I:=I.tK M (k:=na-1) (by omega) (λx ao y aZ=>by rw[qA (by omega) (by omega)]at ao;rw[fD.mp ao];exact nj y aZ);rw[qA (by omega) (by omega)]at I;by_cases mI:(na-1==0)=true
 .rw[aO mI];exact cv (od.fH _ _ (I.done M (.inl (by simpa using mI))) (e9 some (zb _ _ _)))
 rw[aJ mI];have z:=od.cy _ _ _ ae ac cL I (by simp at mI;omega) af (by omega) dq cO;split
 .exact cv z.1
 .exact cv z.2
theorem VM(M:jg X aw aB)(U:0<aB.length)(od:JY X aw aB Q t (ST X p bc g))(I:ix X aw aB q na nb)(ag:0<na)(af:1<nb)(bU:na<=aw.length)(dq:nb<=aB.length)(cO:na-1+(nb-1)+t<=aw.length+aB.length)(kP:∀y∈aw.take na,X.Lt y (aB[nb-1]'(by omega))):W X (F_ (X.arr aw) (X.arr aB) ae ac cL na (X.arr q.reverse) nb) Q (ST X p bc g):=by
 have Bt:nb-1<aB.length:=by omega
 have xv:na-1<aw.length:=by omega
 unfold F_;refine cC (ja Bt ?_);rw[UB];have I:=I.tL M (k:=nb-1) (by omega) (λx ao y aZ=>by rw[qA (by omega) (by omega)]at ao;rw[fD.mp ao];exact kP y aZ);rw[qA (by omega) (by omega)]at I;by_cases dp:(nb-1==1)=true
 .rw[aO dp];exact cv (od.fH _ _ (I.FO M (by simpa using dp) U) (e9 some (zb _ _ _)))
 rw[aJ dp];have fV:1<nb-1:=by simp at dp;omega
 clear kP dp;refine cC (ja xv ?_);refine cC (xW (left:=true) (key:=aw[na-1]) (l:=aB) (base:=0) (m:=nb-1) (hint:=nb-1-1) (M.na _ (eY xv)) M.nb (by omega) (by omega) (φ M.b5 (by omega)) λk gh fy kp=>?_);dsimp only;have nj:∀y∈aB.take k,X.Lt y aw[na-1]:=λy aZ=>by obtain⟨j,gL,gg,rfl⟩:=xo aZ;have:=fy j gL;rw[ur,tv gg]at this;exact this
 by_cases kg:nb-1-k>0
 .rw[aO kg,VK];have I:=I.tL M (k:=k) (by omega) λx ao y aZ=>by obtain⟨j,gL,gg,ly,rfl⟩:=Zs ao;obtain⟨g_,o3,YN,rfl⟩:=xo aZ;have:=kp j gL gg;rw[ur,tv ly]at this;exact Ec M.aU xv (by omega) (M.tD (eY xv) (eY ly) this)
  by_cases hM:(k==1)=true
  .rw[aO hM];exact cv (od.fH _ _ (I.FO M (by simpa using hM) U) (e9 some (zb _ _ _)))
  rw[aJ hM];by_cases E5:(k==0)=true
  .rw[aO E5];exact cv (od.fH _ _ (I.done M (.inr (by simpa using E5))) (e9 some (zb _ _ _)))
  rw[aJ E5];exact VL M od I ag (by simp at hM E5;omega) bU (by omega) (by omega) nj
 .rw[aJ kg];obtain rfl:k=nb-1:=by omega
  exact VL M od I ag fV bU (by omega) cO nj
theorem agO(M:jg X aw aB)(U:0<aB.length)(od:JY X aw aB Q t (ST X p bc ae))(I:ix X aw aB q na nb)(ag:0<na)(af:1<nb)(bU:na<=aw.length)(dq:nb<=aB.length)(cO:na-1+(nb-1)+t<=aw.length+aB.length):W X (BG (X.arr aw) (X.arr aB) na nb (X.arr q.reverse) ae ac cL) Q (ST X p bc g):=by
 have FT:nb-1<aB.length:=by omega
 unfold BG;refine cC (Hf ?_);refine cC (ja FT ?_);refine cC (xW (left:=false) (key:=aB[nb-1]) (l:=aw) (base:=0) (m:=na) (hint:=na-1) (M.nb _ (eY FT)) M.na (by omega) (by omega) (υ M.aU (by omega)) λk k1 k2 k3=>?_);dsimp only;have kP:∀y∈aw.take k,X.Lt y aB[nb-1]:=λy aZ=>by obtain⟨j,gL,gg,rfl⟩:=xo aZ;have:=k2 j gL;rw[ur,tu gg]at this;exact M.tD (eY gg) (eY FT) (by simpa using this)
 by_cases kg:na-k>0
 .rw[aO kg,VK];have I:=I.tK M (k:=k) k1 λx ao y aZ=>by obtain⟨j,gL,gg,ly,rfl⟩:=Zs ao;obtain⟨g_,o3,YN,rfl⟩:=xo aZ;have:=k3 j gL gg;rw[ur,tu ly]at this;exact Ec M.b5 FT (by omega) (by simpa using this)
  by_cases gz:(k==0)=true
  .rw[aO gz];exact cv (od.fH _ _ (I.done M (.inl (by simpa using gz))) (e9 some (zb _ _ _)))
  rw[aJ gz];exact VM M U od I (by simp at gz;omega) af (by omega) dq (by omega) kP
 .rw[aJ kg];obtain rfl:k=na:=by omega
  exact VM M U od I ag af bU dq cO kP
end
section
variable(X:Ctx)(aw aB:bj)(p:c')(bc:l0)(k:Nat)
inductive Ŧ(b:Option (Array Keyed)×Nat×Nat×Array Keyed×Nat)(aN:SortSt):Prop where
 |mk (g':Nat) (q:bj) (na nb ae:Nat) (b0:aN=ST X p bc g') (bH:b=(none,na,nb,X.arr q.reverse,ae)) (cu:ix X aw aB q na nb) (cS:0<na) (dw:1<nb) (en:na<=aw.length) (ha:nb<=aB.length) (iT:na+nb+k+1<=aw.length+aB.length)
inductive ŧ(g' j:Nat)(b:Option (Array Keyed)×Nat×Nat×Array Keyed×Nat×Nat)(aN:SortSt):Prop where
 |mk (Iq:aN=ST X p bc g') (q:bj) (na nb ac cL:Nat) (bH:b=(none,na,nb,X.arr q.reverse,ac,cL)) (cu:ix X aw aB q na nb) (cS:0<na) (dw:1<nb) (en:na<=aw.length) (ha:nb<=aB.length) (iT:na+nb+k+1+j<=aw.length+aB.length)
inductive ahY(b:Option (Array Keyed)×Nat×Nat×Array Keyed×Nat×Nat):Prop where
 |mk (q:bj) (na nb ac cL:Nat) (bH:b=(none,na,nb,X.arr q.reverse,ac,cL)) (cu:ix X aw aB q na nb) (cS:0<na) (dw:1<nb) (en:na<=aw.length) (ha:nb<=aB.length) (iT:na+nb+k+2<=aw.length+aB.length)
inductive Ũ(j:Nat)(b:sa)(aN:SortSt):Prop where
 |mk (g':Nat) (q:bj) (na nb ae ac cL:Nat) (b0:aN=ST X p bc g') (bH:b=(none,na,nb,X.arr q.reverse,ae,ac,cL)) (cu:ix X aw aB q na nb) (cS:0<na) (dw:1<nb) (en:na<=aw.length) (ha:nb<=aB.length) (iT:na+nb+k+2+j<=aw.length+aB.length)
inductive ahZ(b:sa):Prop where
 |mk (q:bj) (na nb ae ac cL:Nat) (bH:b=(none,na,nb,X.arr q.reverse,ae,ac,cL)) (cu:ix X aw aB q na nb) (cS:0<na) (dw:1<nb) (en:na<=aw.length) (ha:nb<=aB.length) (iT:na+nb+k+2<=aw.length+aB.length)
inductive ah0(b:sa)(aN:SortSt):Prop where
 |mk (g':Nat) (Iq:aN=ST X p bc g') (b0:Ey X aw aB b.1\/ahZ X aw aB k b)
end
theorem ŷ{aw aB:bj}{Q:Array Keyed->SortSt->Prop}{p:c'}{bc:l0}{g:Nat}(M:jg X aw aB)(aH:0<aw.length)(U:0<aB.length)(h:∀r g',oC X aw aB r->Q (X.arr r) (ST X p bc g')):W X (Qy (X.arr aw) (X.arr aB)) Q (ST X p bc g):=by
 rw[û];refine cC (yC ?_)
 try dsimp only
 simp only[xX];refine cC (ja (show aw.length-1<aw.length by omega) ?_);have cI:(#[X.item aw[aw.length-1]]:Array Keyed)=X.arr [aw[aw.length-1]].reverse:=rfl;rw[cI];have t7:ix X aw aB [aw[aw.length-1]] (aw.length-1) aB.length:=by
  have z:ix X aw aB [] aw.length aB.length:=⟨by rw[lY,lY,iW],Jq,λy _ x ao=>bE ao eZ,λy _ x ao=>bE ao eZ⟩
  have:=z.tK M (k:=aw.length-1) (by omega) λx ao y aZ=>by rw[qA aH (b1 _)]at ao;rw[fD.mp ao];exact M.lst (by omega) y (Ex aZ)
  rw[qA aH (b1 _)]at this;exact this
 have fH:∀q na nb,(X.arr aw).extract 0 na++(X.arr aB).extract 0 nb++(X.arr q.reverse).reverse=X.arr (aw.take na++aB.take nb++q):=λq na nb=>by rw[k_,k_,yg,jN,jN,Us,ud,ud,wQ,wQ]
 have WV:∀q na nb,(X.arr aB).extract 0 nb++(X.arr aw).extract 0 na++(X.arr q.reverse).reverse=X.arr (aB.take nb++aw.take na++q):=λq na nb=>by rw[k_,k_,yg,jN,jN,Us,ud,ud,wQ,wQ]
 have ao0:∀q k n,X.arr q.reverse++((X.arr aw).extract k n).reverse=X.arr ((aw.take n).drop k++q).reverse:=λq k n=>by rw[k_,yg,jN,JB,Ud]
 have ao1:∀q k n,X.arr q.reverse++((X.arr aB).extract k n).reverse=X.arr ((aB.take n).drop k++q).reverse:=λq k n=>by rw[k_,yg,jN,JB,Ud]
 have ZG:∀(q:bj)(x:Nat),(X.arr q.reverse).push (X.item x)=X.arr (x::q).reverse:=λq x=>by rw[xY,abY]
 by_cases eE:(aw.length-1==0)=true
 .rw[aO eE,fH];exact cv (h _ _ (t7.done M (.inl (by simpa using eE))))
 rw[aJ eE];by_cases dp:(aB.length==1)=true
 .rw[aO dp,WV];exact cv (h _ _ (t7.FO M (by simpa using dp) U))
 rw[aJ dp];have gh:0<aw.length-1:=by simp at eE;omega
 have fy:1<aB.length:=by simp at dp;omega
 refine cC (n6 ?_);refine lp (Post:=λb aN=>V' X aw aB p bc b.1 aN)
  (λk b aN=>Ŧ X aw aB p bc k b aN)
  ⟨g,[aw[aw.length-1]],aw.length-1,aB.length,_,rfl,rfl,t7,gh,fy,by omega,by omega,by omega⟩ ?_ ?_ ?_
 .rintro k b aN aE ⟨g',q,na,nb,ae,rfl,rfl,I,ag,af,bU,dq,aV⟩
  try dsimp only
  refine lp (Post:=λb aN=>aN=ST X p bc g'/\(Ey X aw aB b.1\/ahY X aw aB k b))
   (λj b aN=>ŧ X aw aB p bc k g' j b aN) ⟨rfl,q,na,nb,0,0,rfl,I,ag,af,bU,dq,by omega⟩ ?_ ?_ ?_
  .rintro j b aN aQ ⟨rfl,q,na,nb,ac,cL,rfl,I,ag,af,bU,dq,aV⟩
   try dsimp only
   have nS:na-1<aw.length:=by omega
   have BH:nb-1<aB.length:=by omega
   refine cC (ja BH (cC (ja nS (cC (z' (M.nb _ (eY BH)) (M.na _ (eY nS)) ?_)))))
   try dsimp only
   cases e:X.lt aB[nb-1] aw[na-1]with
   |true=>
    rw[aO rfl];refine cC (ja nS ?_)
    try dsimp only
    rw[ZG];have I:=I.tK M (k:=na-1) (by omega) (λx ao y aZ=>by
     rw[qA (by omega) (by omega)]at ao;rw[fD.mp ao];obtain⟨g_,ly,o3,rfl⟩:=xo aZ;exact Ec M.b5 BH (by omega) e)
    rw[qA (by omega) (by omega)]at I;by_cases c:(na-1==0)=true
    .rw[aO c];exact cv ⟨rfl,.inl ⟨_,e9 some (fH _ _ _),I.done M (.inl (by simpa using c))⟩⟩
    rw[aJ c];have jV:0<na-1:=by simp at c;omega
    split
    .exact cv ⟨rfl,.inr ⟨_,_,_,_,_,rfl,I,jV,af,by omega,by omega,by omega⟩⟩
    .exact cv ⟨rfl,_,_,_,_,_,rfl,I,jV,af,by omega,by omega,by omega⟩
   |false=>
    rw[aJ (by decide)];refine cC (ja BH ?_)
    try dsimp only
    rw[ZG];have I:=I.tL M (k:=nb-1) (by omega) (λx ao y aZ=>by
     rw[qA (by omega) (by omega)]at ao;rw[fD.mp ao];obtain⟨g_,ly,o3,rfl⟩:=xo aZ;exact Ec M.aU nS (by omega) (M.tD (eY nS) (eY BH) e))
    rw[qA (by omega) (by omega)]at I;by_cases c:(nb-1==1)=true
    .rw[aO c];exact cv ⟨rfl,.inl ⟨_,e9 some (WV _ _ _),I.FO M (by simpa using c) U⟩⟩
    rw[aJ c];have fV:1<nb-1:=by simp at c;omega
    split
    .exact cv ⟨rfl,.inr ⟨_,_,_,_,_,rfl,I,ag,fV,by omega,by omega,by omega⟩⟩
    .exact cv ⟨rfl,_,_,_,_,_,rfl,I,ag,fV,by omega,by omega,by omega⟩
  .rintro b aN ⟨rfl,q,na,nb,ac,cL,rfl,I,ag,af,bU,dq,aV⟩;omega
  .rintro b aN ⟨rfl,z⟩;rcases z with⟨r,e,e3⟩|⟨q,na,nb,ac,cL,rfl,I,ag,af,bU,dq,aV⟩
   .obtain⟨eC,dT⟩:=b;dsimp only at e;subst e;exact cv ⟨g',r,rfl,rfl,e3⟩
   try dsimp only
   refine cC (yC ?_);refine lp (Post:=λb aN=>ah0 X aw aB p bc k b aN)
    (λj b aN=>Ũ X aw aB p bc k j b aN) ⟨g',q,na,nb,_,_,_,rfl,rfl,I,ag,af,bU,dq,by omega⟩ ?_ ?_ ?_
   .rintro j b aN aQ ⟨g',q,na,nb,ae,ac,cL,rfl,rfl,I,ag,af,bU,dq,aV⟩
    try dsimp only
    show W X (if ae>1 then BG (X.arr aw) (X.arr aB) na nb (X.arr q.reverse) (ae-1) ac cL else BG (X.arr aw) (X.arr aB) na nb (X.arr q.reverse) ae ac cL) _ _;refine UA (F:=λm=>BG (X.arr aw) (X.arr aB) na nb (X.arr q.reverse) m ac cL) λm=>?_;refine agO (t:=k+2+(j+1)) M U ⟨λr b e3 e=>?_,λq na nb ae ac cL I a b c d e=>⟨?_,?_⟩⟩ I ag af bU dq (by omega)
    .exact⟨_,rfl,.inl ⟨r,e,e3⟩⟩
    .exact⟨_,rfl,.inr ⟨_,_,_,_,_,_,rfl,I,a,b,c,d,by omega⟩⟩
    .exact⟨_,_,_,_,_,_,_,rfl,rfl,I,a,b,c,d,by omega⟩
   .rintro b aN ⟨g',q,na,nb,ae,ac,cL,rfl,rfl,I,ag,af,bU,dq,aV⟩;omega
   .rintro b aN ⟨g',rfl,z⟩;rcases z with⟨r,e,e3⟩|⟨q,na,nb,ae,ac,cL,rfl,I,ag,af,bU,dq,aV⟩
    .obtain⟨eC,dT⟩:=b;dsimp only at e;subst e;exact cv ⟨g',r,rfl,rfl,e3⟩
    try dsimp only
    exact cC (Hf (cv ⟨_,_,_,_,_,rfl,rfl,I,ag,af,bU,dq,by omega⟩))
 .rintro b aN ⟨g',q,na,nb,ae,rfl,rfl,I,ag,af,bU,dq,aV⟩;omega
 .rintro b aN ⟨g',r,rfl,e,e3⟩;obtain⟨eC,dT⟩:=b;dsimp only at e;subst e;exact cv (h r g' e3)
variable{X:Ctx}
theorem afV{β:Type}{a N:Nat}{b:β}{f:Nat->β->StateT SortSt Sem (ForInStep β)}{Q:β->SortSt->Prop}{st:SortSt}(Inv:Nat->β->SortSt->Prop)(h0:Inv 0 b st)(step:∀k b st,k<N-a->Inv k b st->W X (f (a+k) b) (λr aN=>match r with|.done a7=>Q a7 aN|.yield a7=>Inv (k+1) a7 aN) st)(fin:∀b st,Inv (N-a) b st->Q b st):W X (forIn [a:N] b f) Q st:=by
 refine kasC_range ?_;have gen:∀(m k:Nat)(b:β)(st:SortSt),k+m=N-a->Inv k b st->kasC (ba X.prog X.w) X.A X.E (forIn (abU (a+k) m) b f) (λa aN s'=>s'=X.s/\Q a aN) st X.s:=by
  intro m
  induction m with
  |zero=>
   intro k b st e h;have:k=N-a:=by omega
   subst this;exact kasC_nil ⟨rfl,fin b st h⟩
  |succ m bk=>
   intro k b st e h;rw[abV];refine kasC_cons ?_;have s1:=step k b st (by omega) h;unfold W kasC at s1;unfold kasC;refine e6 s1 (λr s' z=>?_) λ_ _ e=>e;obtain⟨b',aN⟩:=r;cases b' with
   |done a7=>exact z
   |yield a7=>
    obtain⟨ax,bH⟩:=z;rw[ax];exact bk (k+1) a7 aN (by omega) bH
 exact gen (N-a) 0 b st (by omega) h0
theorem HB{α β:Type}{a N:Nat}{b:β}{f:Nat->β->StateT SortSt Sem (ForInStep β)}{cont:β->StateT SortSt Sem α}{Q:α->SortSt->Prop}{st:SortSt}(Post:β->SortSt->Prop)(Inv:Nat->β->SortSt->Prop)(h0:Inv 0 b st)(step:∀k b st,k<N-a->Inv k b st->W X (f (a+k) b) (λr aN=>match r with|.done a7=>Post a7 aN|.yield a7=>Inv (k+1) a7 aN) st)(fin:∀b st,Inv (N-a) b st->Post b st)(k:∀b st,Post b st->W X (cont b) Q st):W X (forIn [a:N] b f >>=cont) Q st:=
 cC (UK (afV Inv h0 step fin) k)
section
variable{p:c'}{bc:l0}{g:Nat}
theorem yD{i j:Nat}{Q:Option Bool->SortSt->Prop}(ab:c8 X.n p)(ai:i<X.n)(aQ:j<X.n)(h:Q (some (X.lt (bg p i) (bg p j))) (ST X p bc g)):W X (ltAt' i j) Q (ST X p bc g):=by
 have jD:=ab.size;have get:∀k,k<X.n->(gR (ST X p bc g))[k]?=some (X.item (bg p k)):=λk aE=>by
  show(p.map X.item)[k]?=_;have e:bg p k=p[k]'(by omega):=by simp[bg,lR,show k<p.size by omega]
  rw[e];simp[show k<p.size by omega]
 rw[ltAt'_eq];refine cC (n6 ?_);show W X (do let x <-f7 (gR (ST X p bc g)) i;let y <-f7 (gR (ST X p bc g)) j;lt' x y) Q _;rw[elem'_eq,elem'_eq,get i ai,get j aQ];refine cC (cv (cC (cv ?_)));exact z' (ab.at (by omega) i) (ab.at (by omega) j) h
theorem WP{i j:Nat}{Q:Unit->SortSt->Prop}(h:Q () (ST X (o6 p i j) bc g)):W X (reverseSlice' i j) Q (ST X p bc g):=by
 rw[reverseSlice'_eq];refine qf ?_;have e:HG (ST X p bc g) (GL (gR (ST X p bc g)) i j ((j-i)/2))=ST X (o6 p i j) bc g:=by show nz X.κ (GL (p.map X.item) i j ((j-i)/2)) bc g none=nz X.κ ((GL p i j ((j-i)/2)).map X.item) bc g none;have ax:GL (p.map X.item) i j ((j-i)/2)=(GL p i j ((j-i)/2)).map X.item:=kas_swaps_map X.item (λk=>i+k) (λk=>j-1-k) _ p;rw[ax]
 rw[e];exact h
theorem afW{k l:Nat}{Q:Unit->SortSt->Prop}(h:Q () (ST X (oL p k (k-l)) bc g)):W X (moveDown' k l) Q (ST X p bc g):=by
 rw[moveDown'_eq];refine qf ?_;have e:HG (ST X p bc g) (oL (gR (ST X p bc g)) k (k-l))=ST X (oL p k (k-l)) bc g:=by show nz X.κ (oL (p.map X.item) k (k-l)) bc g none=nz X.κ ((oL p k (k-l)).map X.item) bc g none;have ax:oL (p.map X.item) k (k-l)=(oL p k (k-l)).map X.item:=kas_swaps_map X.item (λi=>k-i) (λi=>k-i-1) _ p;rw[ax]
 rw[e];exact h
end
noncomputable def Seg(X:Ctx)(p:c')(lo ai:Nat):Prop:=∀a b,lo<=a->a<b->b<ai->X.Lt (bg p a) (bg p b)
structure h5(X:Ctx)(p q:c')(lo ai:Nat):Prop where
 ab:c8 X.n q
 out:∀i,i<lo\/ai<=i->bg q i=bg p i
theorem h5.rfl'{p:c'}{lo ai:Nat}(h:c8 X.n p):h5 X p p lo ai:=⟨h,λ_ _=>rfl⟩
theorem h5.trans{p q r:c'}{lo ai:Nat}(h:h5 X p q lo ai)(af:h5 X q r lo ai):h5 X p r lo ai:=⟨af.ab,λi z=>(af.out i z).trans (h.out i z)⟩
theorem h5.wide{p q:c'}{lo ai YZ jy:Nat}(h:h5 X p q lo ai)(ag:YZ<=lo)(af:ai<=jy):h5 X p q YZ jy:=⟨h.ab,λi z=>h.out i (by omega)⟩
theorem Seg.succ{p:c'}{lo k:Nat}(s:Seg X p lo (lo+k))(ag:1<=k)(h:X.Lt (bg p (lo+k-1)) (bg p (lo+k))):Seg X p lo (lo+(k+1)):=λa b aH jW U=>by
 by_cases e:b=lo+k
 .subst e;by_cases az:a=lo+k-1
  .rw[az];exact h
  .exact X.ok.hF _ _ _ (s a (lo+k-1) aH (by omega) (by omega)) h
 .exact s a b aH jW (by omega)
theorem or'{p:c'}(ab:c8 X.n p){a b:Nat}(aH:a<X.n)(U:b<X.n)(ne:a≠b)(f:X.lt (bg p a) (bg p b)=false):X.Lt (bg p b) (bg p a):=X.ok.or ab aH U ne f
theorem aeb{p:c'}{bc:l0}{g:Nat}{lo lC:Nat}{Q:Option Nat->SortSt->Prop}(ab:c8 X.n p)(ag:1<=lC)(aD:lo+lC<=X.n)(h:∀m q,1<=m->m<=lC->h5 X p q lo (lo+lC)->Seg X q lo (lo+m)->Q (some m) (ST X q bc g)):W X (countRun' lo lC) Q (ST X p bc g):=by
 rw[countRun'_eq];refine HB (Post:=λb aN=>aN=ST X p bc g/\∃m,b=(none,m)/\1<=m/\m<=lC/\Seg X p lo (lo+m)/\(m<lC->X.Lt (bg p (lo+m)) (bg p (lo+m-1))))
  (λk b aN=>aN=ST X p bc g/\b=(none,k+1)/\Seg X p lo (lo+(k+1))) ⟨rfl,rfl,λa b _ _ _=>by omega⟩ ?_ ?_ ?_
 .rintro k b aN aE ⟨rfl,rfl,d7⟩
  try dsimp only
  refine cC (yD ab (by omega) (by omega) ?_)
  try dsimp only
  cases e:X.lt (bg p (lo+(k+1))) (bg p (lo+(k+1)-1))with
  |true=>
   rw[aO rfl];exact cv ⟨rfl,k+1,rfl,by omega,by omega,d7,λ_=>e⟩
  |false=>
   rw[aJ (by decide)];exact cv ⟨rfl,rfl,d7.succ (by omega) (or' ab (by omega) (by omega) (by omega) e)⟩
 .rintro b aN ⟨rfl,rfl,d7⟩;exact⟨rfl,lC-1+1,rfl,by omega,by omega,d7,λz=>by omega⟩
 .rintro b aN ⟨rfl,m,rfl,eO,hD,d7,uL⟩
  try dsimp only
  by_cases c:(m==lC)=true
  .rw[aO c];exact cv (h m p eO hD (h5.rfl' ab) d7)
  rw[aJ c];have vk:m<lC:=by simp at c;omega
  by_cases dp:m>1
  .rw[aO dp];refine cC (yD ab (by omega) (by omega) ?_)
   try dsimp only
   have e:X.lt (bg p lo) (bg p (lo+m-1))=true:=d7 lo (lo+m-1) (b1 _) (by omega) (by omega);rw[e,aO rfl];exact cv (h m p eO hD (h5.rfl' ab) d7)
  .rw[aJ dp];have ax:m=1:=by omega
   subst ax;have jP:=uL vk;refine cC (yC ?_);refine HB (Post:=λb aN=>aN=ST X p bc g/\∃k,b=(none,k,0)/\2<=k/\k<=lC/\∀a b,lo<=a->a<b->b<lo+k->X.Lt (bg p b) (bg p a))
    (λk b aN=>aN=ST X p bc g/\b=(none,k+2,0)/\∀a b,lo<=a->a<b->b<lo+(k+2)->X.Lt (bg p b) (bg p a)) ⟨rfl,rfl,λa b ag af aV=>?_⟩ ?_ ?_ ?_
   .have bw:a=lo:=by omega
    have dN:b=lo+1:=by omega
    rw[bw,dN];exact jP
   .rintro k b aN aE ⟨rfl,rfl,ds⟩
    try dsimp only
    refine cC (yD ab (by omega) (by omega) ?_)
    try dsimp only
    cases e:X.lt (bg p (lo+(k+2))) (bg p (lo+(k+2)-1))with
    |true=>
     rw[aO rfl,aJ (by omega)];refine cv ⟨rfl,rfl,λa b ag af aV=>?_⟩;by_cases dN:b=lo+(k+2)
     .subst dN;by_cases bw:a=lo+(k+2)-1
      .rw[bw];exact e
      .exact X.ok.hF _ _ _ e (ds a _ ag (by omega) (by omega))
     .exact ds a b ag af (by omega)
    |false=>
     rw[aJ (by decide)];refine cC (yD ab (by omega) (by omega) ?_)
     try dsimp only
     have az:X.lt (bg p (lo+(k+2)-1)) (bg p (lo+(k+2)))=true:=or' ab (by omega) (by omega) (by omega) e;rw[az,aO rfl];exact cv ⟨rfl,k+2,rfl,by omega,by omega,ds⟩
   .rintro b aN ⟨rfl,rfl,ds⟩;exact⟨rfl,lC-(1+1)+2,rfl,by omega,by omega,ds⟩
   .rintro b aN ⟨rfl,k,rfl,k1,k2,ds⟩
    try dsimp only
    rw[aJ (by omega)];refine cC (WP ?_);have jD:=ab.size;have eR:=ab.rev lo (lo+k);have cg:∀i,bg (o6 p lo (lo+k)) i=if lo<=i/\i<lo+k then bg p (lo+(lo+k)-1-i)else bg p i:=λi=>by
     have z:=ald (xs:=p) (i:=lo) (j:=lo+k) (by omega) i;by_cases c:lo<=i/\i<lo+k
     .rw[aO c]at z⊢;exact yY z
     .rw[aJ c]at z⊢;exact yY z
    have eL:h5 X p (o6 p lo (lo+k)) lo (lo+lC):=⟨eR,λi z=>by rw[cg,aJ (by omega)]⟩
    have rR:Seg X (o6 p lo (lo+k)) lo (lo+k):=λa b ag af aV=>by rw[cg,cg,aO ⟨ag,by omega⟩,aO ⟨by omega,aV⟩];exact ds _ _ (by omega) (by omega) (by omega)
    generalize o6 p lo (lo+k)=q at eR cg eL rR⊢;refine HB (Post:=λb aN=>aN=ST X q bc g/\∃m,b=(none,m)/\1<=m/\m<=lC/\Seg X q lo (lo+m))
     (λj b aN=>aN=ST X q bc g/\b=(none,k+j)/\Seg X q lo (lo+(k+j))) ⟨rfl,rfl,rR⟩ ?_ ?_ ?_
    .rintro j b aN aQ ⟨rfl,rfl,d7⟩
     try dsimp only
     refine cC (yD eR (by omega) (by omega) ?_)
     try dsimp only
     cases e:X.lt (bg q (lo+(k+j))) (bg q (lo+(k+j)-1))with
     |true=>
      rw[aO rfl];exact cv ⟨rfl,k+j,rfl,by omega,by omega,d7⟩
     |false=>
      rw[aJ (by decide)];exact cv ⟨rfl,rfl,d7.succ (by omega) (or' eR (by omega) (by omega) (by omega) e)⟩
    .rintro b aN ⟨rfl,rfl,d7⟩;exact⟨rfl,k+(lC-k),rfl,by omega,by omega,d7⟩
    .rintro b aN ⟨rfl,m,rfl,eO,hD,d7⟩;exact cv (h m q eO hD eL d7)
theorem agP{p:c'}{bc:l0}{g:Nat}{lo n ok:Nat}{Q:Bool->SortSt->Prop}(ab:c8 X.n p)(aD:lo+n<=X.n)(ag:1<=ok)(af:ok<=n)(d7:Seg X p lo (lo+ok))(h:∀q,h5 X p q lo (lo+n)->Seg X q lo (lo+n)->Q true (ST X q bc g)):W X (binarySort' lo n ok) Q (ST X p bc g):=by
 rw[binarySort'_eq];have OG:max ok 1=ok:=by omega
 rw[OG];refine HB (Post:=λb aN=>∃q,aN=ST X q bc g/\b.1=none/\h5 X p q lo (lo+n)/\Seg X q lo (lo+n))
  (λk b aN=>∃q,aN=ST X q bc g/\b.1=none/\h5 X p q lo (lo+n)/\Seg X q lo (lo+(ok+k))) ⟨p,rfl,rfl,h5.rfl' ab,d7⟩ ?_ ?_ ?_
 .rintro k b aN aE ⟨q,rfl,U,eL,d7⟩
  try dsimp only
  have eR:=eL.ab;have jD:=eR.size;refine lp (Post:=λb aN=>aN=ST X q bc g/\∃l,b=(none,l,l)/\l<=ok+k/\(∀a,a<l->X.Lt (bg q (lo+a)) (bg q (lo+(ok+k))))/\∀a,l<=a->a<ok+k->X.Lt (bg q (lo+(ok+k))) (bg q (lo+a)))
   (λj b aN=>aN=ST X q bc g/\∃l r,b=(none,l,r)/\l<=r/\r<=ok+k/\r-l<=ok+k-j/\(∀a,a<l->X.Lt (bg q (lo+a)) (bg q (lo+(ok+k))))/\∀a,r<=a->a<ok+k->X.Lt (bg q (lo+(ok+k))) (bg q (lo+a))) ⟨rfl,0,ok+k,rfl,by omega,by omega,by omega,λa z=>by omega,λa b0 bH=>by omega⟩ ?_ ?_ ?_
  .rintro j b aN aQ ⟨rfl,l,r,rfl,gh,fy,kp,x3,x4⟩
   try dsimp only
   by_cases c:l≥r
   .rw[aO c];have:l=r:=by omega
    subst this;exact cv ⟨rfl,l,rfl,fy,x3,x4⟩
   .rw[aJ c];refine cC (yD eR (by omega) (by omega) ?_)
    try dsimp only
    cases e:X.lt (bg q (lo+(ok+k))) (bg q (lo+(l+r)/2))with
    |true=>
     rw[aO rfl];refine cv ⟨rfl,l,(l+r)/2,rfl,by omega,by omega,by omega,x3,λa b0 bH=>?_⟩;by_cases bw:a=(l+r)/2
     .rw[bw];exact e
     .exact X.ok.hF _ _ _ e (d7 _ _ (by omega) (by omega) (by omega))
    |false=>
     rw[aJ (by decide)];have up:=or' eR (a:=lo+(ok+k)) (b:=lo+(l+r)/2) (by omega) (by omega) (by omega) e;refine cv ⟨rfl,(l+r)/2+1,r,rfl,by omega,by omega,by omega,λa z=>?_,x4⟩;by_cases bw:a=(l+r)/2
     .rw[bw];exact up
     .exact X.ok.hF _ _ _ (d7 _ _ (by omega) (by omega) (by omega)) up
  .rintro b aN ⟨rfl,l,r,rfl,gh,fy,kp,x3,x4⟩;have:l=r:=by omega
   subst this;exact⟨rfl,l,rfl,fy,x3,x4⟩
  .rintro a7 aN ⟨rfl,l,rfl,fy,x3,x4⟩
   try dsimp only
   refine cC (afW ?_);have bb:∀i,bg (oL q (lo+(ok+k)) (lo+(ok+k)-(lo+l))) i=if i=lo+l then bg q (lo+(ok+k))else if lo+l<i/\i<=lo+(ok+k)then bg q (i-1)else bg q i:=λi=>IZ (by omega) (by omega)
   have Wg:=eR.Lw (lo+(ok+k)) (lo+(ok+k)-(lo+l));generalize oL q (lo+(ok+k)) (lo+(ok+k)-(lo+l))=cj at bb Wg⊢;refine cv ⟨cj,rfl,rfl,eL.trans ⟨Wg,λi z=>?_⟩,λa b aH jW gK=>?_⟩
   .rw[bb,aJ (by omega),aJ (by omega)]
   .rw[bb,bb];by_cases a1:a=lo+l
    .rw[aO a1,aJ (by omega),aO ⟨by omega,by omega⟩];have:=x4 (b-1-lo) (by omega) (by omega);rw[show lo+(b-1-lo)=b-1 by omega]at this;exact this
    .rw[aJ a1];by_cases eC:b=lo+l
     .rw[aO eC,aJ (by omega)];have:=x3 (a-lo) (by omega);rw[show lo+(a-lo)=a by omega]at this;exact this
     .rw[aJ eC];by_cases a2:lo+l<a/\a<=lo+(ok+k)
      .rw[aO a2,aO ⟨by omega,by omega⟩];exact d7 _ _ (by omega) (by omega) (by omega)
      .rw[aJ a2];by_cases dT:lo+l<b/\b<=lo+(ok+k)
       .rw[aO dT];exact d7 _ _ (by omega) (by omega) (by omega)
       .rw[aJ dT];exact d7 _ _ (by omega) jW (by omega)
 .rintro b aN ⟨q,rfl,U,eL,d7⟩;rw[show ok+(n-ok)=n by omega]at d7;exact⟨q,rfl,U,eL,d7⟩
 .rintro b aN ⟨q,rfl,U,eL,d7⟩;obtain⟨eC,dT⟩:=b;dsimp only at U;subst U;exact cv (h q eL d7)
variable{X:Ctx}
theorem ă(i:Nat):mergeAt' i=(do
 let s <-get
 let(some (aU,na,power),some (b5,nb,_)):=((ZA s)[i]?,(ZA s)[i+1]?)|unsupported "internal:list.sort.pending"
 set (setPending s (((ZA s).setIfInBounds i (aU,na+nb,power)).eraseIdxIfInBounds (i+1)))
 let some k <-nO false (<-f7 (gR s) b5) (gR s) aU na 0|return false
 let(aU,na):=(aU+k,na-k)
 if na==0 then return true
 let some nb <-nO true (<-f7 (gR s) (aU+na-1)) (gR s) b5 nb (nb-1)|return false
 if nb==0 then return true
 let x:=(gR s).extract aU b5
 let y:=(gR s).extract b5 (b5+nb)
 let merged <-if na<=nb then Qx x y else Qy x y
 modify λs=>HG s (merged.toList.zipIdx.foldl (λa(p,j)=>a.setIfInBounds (aU+j) p) (gR s))
 return (sN (<-get)).isNone):=rfl
theorem agQ{st aN:SortSt}{Q:PUnit->SortSt->Prop}(h:Q ⟨⟩ aN):W X (set aN) Q st:=by unfold W kasC;rw[StateT.run_set];exact a9 ⟨rfl,h⟩
theorem UC{α:Type}:∀(r:List α)(a:Array α)(s o:Nat),s+o+r.length<=a.size->((r.zipIdx o).foldl (λa(x:α×Nat)=>a.setIfInBounds (s+x.2) x.1) a).toList=a.toList.take (s+o)++r++a.toList.drop (s+o+r.length)
 |[],a,s,o,_=>by simp
 |x::r,a,s,o,h=>by
  rw[List.zipIdx_cons,List.foldl_cons];have aq:(x::r).length=r.length+1:=rfl;rw[aq]at h;rw[UC r (a.setIfInBounds (s+o) x) s (o+1) (by rw[Array.size_setIfInBounds];omega)];rw[Sa,aq];have ax:(a.toList.set (s+o) x).take (s+(o+1))=a.toList.take (s+o)++[x]:=by rw[show s+(o+1)=s+o+1 by omega,mw,List.take_set_of_le (by omega)];congr 1;rw[Uj (by simp;omega)];rfl
  have az:(a.toList.set (s+o) x).drop (s+(o+1)+r.length)=a.toList.drop (s+o+(r.length+1)):=by rw[show s+(o+1)+r.length=s+o+(r.length+1) by omega,List.drop_set_of_lt (by omega)]
  rw[ax,az];simp
theorem HC{p:c'}{i:Nat}(h:i<p.toList.length):bg p i=p.toList[i]:=by
 have af:i<p.size:=by simpa using h
 simp[bg,lR,af]
theorem RC(p:c'):p.map X.item=X.arr p.toList:=by unfold Ctx.arr;apply DY.mp;simp
theorem aaH{p:c'}{bc:l0}{g i aU na kr nb yv:Nat}{Q:Bool->SortSt->Prop}(ab:c8 X.n p)(ax:bc[i]?=some (aU,na,kr))(az:bc[i+1]?=some (aU+na,nb,yv))(aD:aU+na+nb<=X.n)(aH:0<na)(U:0<nb)(s1:Seg X p aU (aU+na))(s2:Seg X p (aU+na) (aU+na+nb))(h:∀q g',h5 X p q aU (aU+na+nb)->Seg X q aU (aU+na+nb)->Q true (ST X q ((bc.setIfInBounds i (aU,na+nb,kr)).eraseIdxIfInBounds (i+1)) g')):W X (mergeAt' i) Q (ST X p bc g):=by
 rw[ă];refine cC (n6 ?_);show W X (match(bc[i]?,bc[i+1]?)with|(some (aU,na,power),some (b5,nb,_))=>_|_=>_) Q _;rw[ax,az];dsimp only;refine cC (agQ ?_);show W X _ Q (ST X p ((bc.setIfInBounds i (aU,na+nb,kr)).eraseIdxIfInBounds (i+1)) g);generalize(bc.setIfInBounds i (aU,na+nb,kr)).eraseIdxIfInBounds (i+1)=dX at h⊢;have bw:gR (ST X p bc g)=X.arr p.toList:=RC p;rw[bw];have jD:=ab.size;obtain⟨L,l8⟩:∃L,L=p.toList:=⟨_,rfl⟩
 have aq:L.length=X.n:=by rw[l8];simpa using jD
 have gl:∀j(aQ:j<L.length),bg p j=L[j]:=λj aQ=>by subst l8;exact HC aQ
 have ln:∀x∈L,x<X.n:=λx ao=>by rw[l8]at ao;exact ab.lt (by simpa using ao)
 rw[<-l8];have s_:aU+na<L.length:=by omega
 refine cC (ja s_ ?_);refine cC (xW (left:=false) (key:=L[aU+na]) (l:=L) (base:=aU) (m:=na) (hint:=0) (ln _ (eY s_)) ln (by omega) (by omega) (λa b jW c2 z=>?_) λk k1 k2 k3=>?_)
 .rw[tu (by omega)]at z⊢;cases e:X.lt L[aU+na] (L[aU+a]'(by omega))with
  |false=>rfl
  |true=>
   have w:=s1 (aU+a) (aU+b) (by omega) (by omega) (by omega);rw[gl _ (by omega),gl _ (by omega)]at w;rw[X.ok.hF _ _ _ e w]at z;cases z
 try dsimp only
 have qV:∀j,j<k->X.Lt (bg p (aU+j)) (bg p (aU+na)):=λj aQ=>by have:=k2 j aQ;rw[tu (by omega),<-gl _ (by omega),<-gl _ (by omega)]at this;exact or' ab (by omega) (by omega) (by omega) (by simpa using this)
 have kP:∀j,k<=j->j<na->X.Lt (bg p (aU+na)) (bg p (aU+j)):=λj aQ M1=>by have:=k3 j aQ M1;rw[tu (by omega),<-gl _ (by omega),<-gl _ (by omega)]at this;simpa using this
 have Oo:∀{x:Nat}c,aU+na<=c->c<aU+na+nb->X.Lt x (bg p (aU+na))->X.Lt x (bg p c):=λ{x}c ag af aV=>by
  by_cases e:c=aU+na
  .rw[e];exact aV
  .exact X.ok.hF _ _ _ aV (s2 (aU+na) c (b1 _) (by omega) af)
 by_cases eE:(na-k==0)=true
 .rw[aO eE];have eS:k=na:=by simp at eE;omega
  subst eS;refine cv (h p g (h5.rfl' ab) λa b ag af aV=>?_);by_cases gK:b<aU+k
  .exact s1 a b ag af gK
  .by_cases MB:aU+k<=a
   .exact s2 a b MB af aV
   .have:=qV (a-aU) (by omega);rw[show aU+(a-aU)=a by omega]at this;exact Oo b (by omega) aV this
 rw[aJ eE];have aE:k<na:=by simp at eE;omega
 have gH:aU+k+(na-k)-1=aU+na-1:=by omega
 rw[gH];have qp:aU+na-1<L.length:=by omega
 refine cC (ja qp ?_);refine cC (xW (left:=true) (key:=L[aU+na-1]) (l:=L) (base:=aU+na) (m:=nb) (hint:=nb-1) (ln _ (eY qp)) ln (by omega) (by omega) (λa b jW c2 z=>?_) λew gh fy kp=>?_)
 .rw[tv (by omega)]at z⊢;have w:=s2 (aU+na+a) (aU+na+b) (by omega) (by omega) (by omega);rw[gl _ (by omega),gl _ (by omega)]at w;exact X.ok.hF _ _ _ w z
 try dsimp only
 have ą:∀j,j<ew->X.Lt (bg p (aU+na+j)) (bg p (aU+na-1)):=λj aQ=>by have:=fy j aQ;rw[tv (by omega),<-gl _ (by omega),<-gl _ (by omega)]at this;exact this
 have nj:∀j,ew<=j->j<nb->X.Lt (bg p (aU+na-1)) (bg p (aU+na+j)):=λj aQ M1=>by have:=kp j aQ M1;rw[tv (by omega),<-gl _ (by omega),<-gl _ (by omega)]at this;exact or' ab (by omega) (by omega) (by omega) this
 have YW:∀{x:Nat}c,aU<=c->c<aU+na->X.Lt (bg p (aU+na-1)) x->X.Lt (bg p c) x:=λ{x}c ag af aV=>by
  by_cases e:c=aU+na-1
  .rw[e];exact aV
  .exact X.ok.hF _ _ _ (s1 c (aU+na-1) ag (by omega) (by omega)) aV
 by_cases dp:(ew==0)=true
 .rw[aO dp];have eS:ew=0:=by simpa using dp
  subst eS;refine cv (h p g (h5.rfl' ab) λa b ag af aV=>?_);by_cases gK:b<aU+na
  .exact s1 a b ag af gK
  .by_cases MB:aU+na<=a
   .exact s2 a b MB af aV
   .have:=nj (b-(aU+na)) (by omega) (by omega);rw[show aU+na+(b-(aU+na))=b by omega]at this;exact YW a ag (by omega) this
 rw[aJ dp];have BN:0<ew:=by simp at dp;omega
 rw[k_,k_];have am6:aU+na+ew-(aU+na)=ew:=by omega
 rw[am6];obtain⟨aw,LU⟩:∃aw,aw=(L.drop (aU+k)).take (aU+na-(aU+k)):=⟨_,rfl⟩
 obtain⟨aB,LV⟩:∃aB,aB=(L.drop (aU+na)).take ew:=⟨_,rfl⟩
 rw[<-LU,<-LV];have arP:aw.length=na-k:=by rw[LU,f_,pP];omega
 have arQ:aB.length=ew:=by rw[LV,f_,pP];omega
 have ga:∀j(aQ:j<aw.length),aw[j]=bg p (aU+k+j):=λj aQ=>by rw[gl _ (by omega)];subst LU;rw[q2,ue]
 have jU:∀j(aQ:j<aB.length),aB[j]=bg p (aU+na+j):=λj aQ=>by rw[gl _ (by omega)];subst LV;rw[q2,ue]
 have M:jg X aw aB:=by
  refine⟨?_,?_,λx ao=>?_,λx ao=>?_,λx ao y aZ=>?_,λh0 y aZ=>?_,λh0 y aZ=>?_⟩
  .rw[sm];intro a b aH U jW;rw[ga _ aH,ga _ U];exact s1 _ _ (by omega) (by omega) (by omega)
  .rw[sm];intro a b aH U jW;rw[jU _ aH,jU _ U];exact s2 _ _ (by omega) (by omega) (by omega)
  .obtain⟨j,aQ,rfl⟩:=hq ao;rw[ga _ aQ];exact ab.at (by omega) _
  .obtain⟨j,aQ,rfl⟩:=hq ao;rw[jU _ aQ];exact ab.at (by omega) _
  .obtain⟨j,aQ,rfl⟩:=hq ao;obtain⟨g_,BJ,rfl⟩:=hq aZ;rw[ga _ aQ,jU _ BJ];intro z;have:=ab.inj (by omega) (by omega) z;omega
  .obtain⟨j,aQ,rfl⟩:=hq aZ;rw[jU _ h0,ga _ aQ];have:=kP (k+j) (by omega) (by omega);rw[show aU+(k+j)=aU+k+j by omega]at this;exact this
  .obtain⟨j,aQ,rfl⟩:=hq aZ;rw[jU _ aQ,ga _ h0];have:=ą j (by omega);rw[show aU+k+(aw.length-1)=aU+na-1 by omega];exact this
 have fin:∀r g',oC X aw aB r->W X (do
   modify λs=>HG s ((X.arr r).toList.zipIdx.foldl (λa(x:Keyed×Nat)=>a.setIfInBounds (aU+k+x.2) x.1) (gR s))
   let st <-get
   pure (sN st).isNone) Q (ST X p dX g'):=λr g' e3=>by
  have kG:r.length=na-k+ew:=by have:=e3.1.length_eq;rw[e8]at this;omega
  have es:HG (ST X p dX g') ((X.arr r).toList.zipIdx.foldl (λa(x:Keyed×Nat)=>a.setIfInBounds (aU+k+x.2) x.1) (gR (ST X p dX g')))=ST X (L.take (aU+k)++r++L.drop (aU+k+r.length)).toArray dX g':=by
   have cq:(X.arr r).toList.zipIdx.foldl (λa(x:Keyed×Nat)=>a.setIfInBounds (aU+k+x.2) x.1) (p.map X.item)=((L.take (aU+k)++r++L.drop (aU+k+r.length)).toArray).map X.item:=by apply DY.mp;rw[UC (X.arr r).toList (p.map X.item) (aU+k) 0 (by simp[Ctx.arr];omega)];rw[RC,RC,<-l8];simp[Ctx.arr,wM,abM]
   show nz X.κ ((X.arr r).toList.zipIdx.foldl (λa(x:Keyed×Nat)=>a.setIfInBounds (aU+k+x.2) x.1) (p.map X.item)) dX g' none=nz X.κ (((L.take (aU+k)++r++L.drop (aU+k+r.length)).toArray).map X.item) dX g' none;rw[cq]
  refine cC (qf ?_);rw[es];refine cC (n6 (cv ?_));obtain⟨nr,AU⟩:∃nr,nr=L.take (aU+k)++r++L.drop (aU+k+r.length):=⟨_,rfl⟩
  rw[<-AU];have split:L=L.take (aU+k)++(aw++aB)++L.drop (aU+k+r.length):=by
   have et:aw++aB=(L.drop (aU+k)).take r.length:=by
    apply zZ
    .rw[e8,f_,pP];omega
    .intro j ag af;rw[q2,ue];by_cases aQ:j<aw.length
     .rw[Js aQ,ga _ aQ,gl _ (by omega)]
     .rw[Uk (by omega),jU _ (by rw[e8]at ag;omega),gl _ (by rw[e8]at ag;omega)];congr 1;omega
   have g6:=(so (aU+k) L).symm;have kA:=(so r.length (L.drop (aU+k))).symm;rw[Uc]at kA;rw[et,iV,<-kA];exact g6
  have YT:nr.length=X.n:=by rw[AU,e8,e8,f_,pP];omega
  have eR:c8 X.n nr.toArray:=by
   have pm:nr.Perm L:=by rw[AU];refine zX ?_ (List.Perm.of_eq split.symm);exact abu _ (En _ e3.1)
   have:p.toList.Perm (da X.n):=ab.list;rw[<-l8]at this;exact þ.mpr (by simpa using pm.trans this)
  have Br:∀j(aQ:j<X.n),bg nr.toArray j=nr[j]'(by omega):=λj aQ=>HC (p:=nr.toArray) (by simpa[YT]using aQ);have out:∀j,j<aU+k\/aU+na+ew<=j->bg nr.toArray j=bg p j:=λj aQ=>by
   by_cases M4:j<X.n
   .rw[Br j M4,gl j (by omega)];subst AU;by_cases ag:j<aU+k
    .rw[Js (by rw[e8,f_];omega),Js (by rw[f_];omega),q2]
    .rw[Uk (by rw[e8,f_];omega),ue];congr 1;rw[e8,f_];omega
   .have b0:bg nr.toArray j=0:=by simp[bg,lR,YT,show¬j<X.n from M4]
    have bH:bg p j=0:=by simp[bg,lR,jD,show¬j<X.n from M4]
    rw[b0,bH]
  have mid:∀j(ag:aU+k<=j)(af:j<aU+na+ew),bg nr.toArray j=r[j-(aU+k)]'(by omega):=λj ag af=>by rw[Br j (by omega)];subst AU;rw[Js (by rw[e8,f_];omega),Uk (by rw[f_];omega)];congr 1;rw[f_];omega
  have inr:∀x∈r,(∃c,aU+k<=c/\c<aU+na/\x=bg p c)\/∃c,aU+na<=c/\c<aU+na+ew/\x=bg p c:=λx ao=>by
   rcases fY.mp (e3.1.mem_iff.mp ao)with z|z
   .obtain⟨j,aQ,rfl⟩:=hq z;exact .inl ⟨aU+k+j,by omega,by omega,ga j aQ⟩
   .obtain⟨j,aQ,rfl⟩:=hq z;exact .inr ⟨aU+na+j,by omega,by omega,jU j aQ⟩
  refine h nr.toArray g' ⟨eR,λj aQ=>out j (by omega)⟩ λa b ag af aV=>?_;by_cases a1:a<aU+k
  .rw[out a (.inl a1)];have Li:=qV (a-aU) (by omega);rw[show aU+(a-aU)=a by omega]at Li;by_cases eC:b<aU+k
   .rw[out b (.inl eC)];exact s1 a b ag af (by omega)
   .by_cases dT:b<aU+na+ew
    .rw[mid b (by omega) dT];rcases inr _ (eY (by omega:b-(aU+k)<r.length))with⟨c,eE,dp,e⟩|⟨c,eE,dp,e⟩
     .rw[e];exact s1 a c ag (by omega) dp
     .rw[e];exact Oo c eE (by omega) Li
    .rw[out b (.inr (by omega))];exact Oo b (by omega) aV Li
  .by_cases a2:a<aU+na+ew
   .rw[mid a (by omega) a2];by_cases dT:b<aU+na+ew
    .rw[mid b (by omega) dT];exact y' e3.2 (by omega) (by omega)
    .rw[out b (.inr (by omega))];have gU:=nj (b-(aU+na)) (by omega) (by omega);rw[show aU+na+(b-(aU+na))=b by omega]at gU;rcases inr _ (eY (by omega:a-(aU+k)<r.length))with⟨c,eE,dp,e⟩|⟨c,eE,dp,e⟩
     .rw[e];exact YW c (by omega) dp gU
     .rw[e];exact s2 c b eE (by omega) aV
   .rw[out a (.inr (by omega)),out b (.inr (by omega))];exact s2 a b (by omega) af aV
 by_cases hM:na-k<=ew
 .rw[aO hM];exact cC (Ŷ M (by omega) (by omega) λr g' e3=>fin r g' e3)
 .rw[aJ hM];exact cC (ŷ M (by omega) (by omega) λr g' e3=>fin r g' e3)
variable{X:Ctx}
noncomputable abbrev uz:=Nat×Nat×Nat
noncomputable def Runs(X:Ctx)(p:c'):List uz->Nat->Nat->Prop
 |[],s,e=>s=e
 |x::l,s,e=>x.1=s/\0<x.2.1/\Seg X p s (s+x.2.1)/\Runs X p l (s+x.2.1) e
theorem Seg.keep{p q:c'}{s e:Nat}(h:Seg X p s e)(k:∀i,s<=i->i<e->bg q i=bg p i):Seg X q s e:=λa b ag af aV=>by rw[k a ag (by omega),k b (by omega) aV];exact h a b ag af aV
theorem Runs.le{p:c'}:∀{l:List uz}{s e:Nat},Runs X p l s e->s+l.length<=e
 |[],s,e,h=>by rw[show s=e from h];exact b1 _
 |x::l,s,e,⟨_,af,_,bU⟩=>by have:=Runs.le bU;rw[hH];omega
theorem Runs.keep{p q:c'}:∀{l:List uz}{s e:Nat},Runs X p l s e->(∀i,s<=i->i<e->bg q i=bg p i)->Runs X q l s e
 |[],_,_,h,_=>h
 |x::l,s,e,⟨ag,af,aV,bU⟩,k=>by have:=Runs.le bU;exact⟨ag,af,aV.keep λi a b=>k i a (by omega),Runs.keep bU λi a b=>k i (by omega) b⟩
theorem Runs.snoc{p:c'}{len kr:Nat}:∀{l:List uz}{s e:Nat},Runs X p l s e->0<len->Seg X p e (e+len)->Runs X p (l++[(e,len,kr)]) s (e+len)
 |[],s,e,h,ag,af=>by have h:s=e:=h;subst h;exact⟨rfl,ag,af,rfl⟩
 |x::l,s,e,⟨a,b,c,d⟩,ag,af=>⟨a,b,c,Runs.snoc d ag af⟩
theorem Runs.kr{p:c'}{w:Nat}:∀{l:List uz}{s e i:Nat},Runs X p l s e->Runs X p (l.modify i λx=>(x.1,x.2.1,w)) s e
 |[],_,_,i,h=>by cases i<;>exact h
 |x::l,s,e,0,⟨a,b,c,d⟩=>⟨a,b,c,d⟩
 |x::l,s,e,i+1,⟨a,b,c,d⟩=>⟨a,b,c,Runs.kr d⟩
theorem Runs.merge{p:c'}:∀{l:List uz}{s e i:Nat},Runs X p l s e->i+1<l.length->∃aU na kr nb yv,l[i]?=some (aU,na,kr)/\l[i+1]?=some (aU+na,nb,yv)/\0<na/\0<nb/\Seg X p aU (aU+na)/\Seg X p (aU+na) (aU+na+nb)/\s<=aU/\aU+na+nb<=e/\
  ∀q,h5 X p q aU (aU+na+nb)->Seg X q aU (aU+na+nb)->Runs X q ((l.set i (aU,na+nb,kr)).eraseIdx (i+1)) s e
 |[],_,_,_,_,h=>by simp at h
 |[x],_,_,i,_,h=>by simp at h
 |x::y::l,s,e,0,⟨a1,a2,gn,eC,dT,jm,q9⟩,h=>by
  have le:=Runs.le q9;refine⟨x.1,x.2.1,x.2.2,y.2.1,y.2.2,rfl,?_,a2,dT,by rw[a1];exact gn,by rw[a1];exact jm,by omega,by omega,λq eL d7=>?_⟩
  .show some y=_;rw[a1,<-eC]
  .show Runs X q ((x.1,x.2.1+y.2.1,x.2.2)::l) s e;rw[a1]at d7 eL⊢;refine⟨rfl,by show 0<x.2.1+y.2.1;omega,?_,?_⟩
   .show Seg X q s (s+(x.2.1+y.2.1));rw[<-acw];exact d7
   .show Runs X q l (s+(x.2.1+y.2.1)) e;rw[<-acw];exact q9.keep λi ag af=>eL.out i (.inr ag)
 |x::y::l,s,e,i+1,⟨a1,a2,gn,b⟩,h=>by obtain⟨aU,na,kr,nb,yv,eE,dp,hM,mI,Ly,Lz,ajI,LA,LB⟩:=Runs.merge (i:=i) b (by simpa using h);refine⟨aU,na,kr,nb,yv,by simpa using eE,by simpa using dp,hM,mI,Ly,Lz,by omega,LA,λq eL d7=>?_⟩;refine⟨a1,a2,gn.keep λj ag af=>eL.out j (.inl (by omega)),?_⟩;exact LB q eL d7
theorem χ{α:Type}(a:Array α)(i:Nat)(v:α)(j:Nat):((a.setIfInBounds i v).eraseIdxIfInBounds j).toList=(a.toList.set i v).eraseIdx j:=by
 unfold Array.eraseIdxIfInBounds;split
 .rw[Array.toList_eraseIdx,Sa]
 .rename_i h;rw[Sa,List.eraseIdx_of_length_le (by simpa using h)]
theorem Qz{p:c'}{bc:Array uz}{g i e:Nat}{Q:Bool->SortSt->Prop}(ab:c8 X.n p)(R:Runs X p bc.toList 0 e)(he:e<=X.n)(ai:i+1<bc.size)(h:∀q dX g',h5 X p q 0 e->Runs X q dX.toList 0 e->dX.size+1=bc.size->Q true (ST X q dX g')):W X (mergeAt' i) Q (ST X p bc g):=by
 obtain⟨aU,na,kr,nb,yv,eE,dp,hM,mI,Ly,Lz,ajI,LA,LB⟩:=R.merge (i:=i) (by simpa using ai);refine aaH ab (by simpa using eE) (by simpa using dp) (by omega) hM mI Ly Lz λq g' eL d7=>?_;refine h q _ g' (eL.wide (by omega) LA) ?_ ?_
 .rw[χ];exact LB q eL d7
 .have:=e9 uf (χ bc i (aU,na+nb,kr) (i+1));rw[List.length_eraseIdx,abK,kQ,kQ,aO ai]at this;omega
theorem afX{p:c'}{g:Nat}{Q:Unit->SortSt->Prop}(ab:c8 X.n p)(af:2<=X.n)(h:∀q dX g',c8 X.n q->Seg X q 0 X.n->Q () (ST X q dX g')):W X sortRuns' Q (ST X p #[] g):=by
 rw[sortRuns'_eq];refine cC (n6 ?_);have jD:(gR (ST X p #[] g)).size=X.n:=by show(p.map X.item).size=X.n;rw[Array.size_map,ab.size]
 try dsimp only
 rw[jD];generalize minRun' X.n X.n 0=e3;refine lp (Post:=λb aN=>∃q bc g',aN=ST X q bc g'/\b.1=none/\c8 X.n q/\Runs X q bc.toList 0 X.n)
  (λk b aN=>∃q bc g' lo,aN=ST X q bc g'/\b=(none,lo)/\c8 X.n q/\Runs X q bc.toList 0 lo/\lo<=X.n/\k<=lo) ⟨p,#[],g,0,rfl,rfl,ab,rfl,by omega,by omega⟩ ?_ ?_ ?_
 .rintro k b aN aE ⟨q,bc,g',lo,rfl,rfl,eR,R,gh,fy⟩
  try dsimp only
  by_cases c:lo≥X.n
  .rw[aO c];have:lo=X.n:=by omega
   subst this;exact cv ⟨q,bc,g',rfl,rfl,eR,R⟩
  rw[aJ c];refine cC (aeb eR (by omega) (by omega) λm bq eO hD Lv Z3=>?_)
  try dsimp only
  have Vr:Runs X bq bc.toList 0 lo:=R.keep λi a b=>Lv.out i (.inl b);by_cases dp:m<e3
  .rw[aO dp];refine cC (yC ?_);refine cC (agP Lv.ab (n:=min (X.n-lo) e3) (by omega) eO (by omega) Z3 λcj eL d7=>?_);rw[aJ (by decide)];have gQ:Runs X cj bc.toList 0 lo:=Vr.keep λi a b=>eL.out i (.inl b);refine cC (n6 ?_);show W X (match bc.back? with|some (s1,gB,_)=>_|_=>_) _ _;cases dN:bc.back? with
   |none=>
    try dsimp only
    refine cC (qf (cv ⟨cj,bc.push (lo,min (X.n-lo) e3,0),g',lo+min (X.n-lo) e3,rfl,rfl,eL.ab,?_,by omega,by omega⟩));rw[za];exact Runs.snoc gQ (by omega) d7
   |some x=>
    obtain⟨s1,gB,gO⟩:=x
    try dsimp only
    refine lp (Post:=λb aN=>∃dj dX g',aN=ST X dj dX g'/\b=(none,())/\c8 X.n dj/\Runs X dj dX.toList 0 lo/\Seg X dj lo (lo+min (X.n-lo) e3))
     (λ_ b aN=>∃dj dX g',aN=ST X dj dX g'/\b=(none,())/\c8 X.n dj/\Runs X dj dX.toList 0 lo/\Seg X dj lo (lo+min (X.n-lo) e3)) ⟨cj,bc,g',rfl,rfl,eL.ab,gQ,d7⟩ ?_ (λ_ _ z=>z) ?_
    .rintro j b aN aQ ⟨dj,dX,g',rfl,rfl,eR,oJ,pq⟩;refine cC (n6 ?_);show W X (match(if dX.size>1 then dX[dX.size-2]? else none)with|some (_,_,anZ)=>_|_=>_) _ _;by_cases c:dX.size>1
     .rw[aO c];obtain⟨x,ex⟩:∃x,dX[dX.size-2]?=some x:=⟨_,qY (by omega)⟩
      rw[ex];obtain⟨kI,vw,anS⟩:=x
      try dsimp only
      split
      .exact cv ⟨dj,dX,g',rfl,rfl,eR,oJ,pq⟩
      .refine cC (Qz eR oJ (by omega) (by show dX.size-2+1<dX.size;omega) λjC CP uU uG Ar Z_=>?_);rw[aJ (by decide)];exact cv ⟨jC,CP,uU,rfl,rfl,uG.ab,Ar,pq.keep λi a b=>uG.out i (.inr a)⟩
     .rw[aJ c];exact cv ⟨dj,dX,g',rfl,rfl,eR,oJ,pq⟩
    .rintro b aN ⟨dj,dX,g',rfl,rfl,eR,oJ,pq⟩
     try dsimp only
     refine cC (qf (cC (qf (cv ⟨dj,_,g',lo+min (X.n-lo) e3,rfl,rfl,eR,?_,by omega,by omega⟩))));show Runs X dj (((dX.modify (dX.size-1) λx=>(x.1,x.2.1,_)).push (lo,min (X.n-lo) e3,0)).toList) 0 (lo+min (X.n-lo) e3);rw[za,ā];exact Runs.snoc (Runs.kr oJ) (by omega) pq
  .rw[aJ dp];have eL:=Lv;have gQ:=Vr;have d7:=Z3;have asi:bq=bq:=rfl;refine cC (n6 ?_);show W X (match bc.back? with|some (s1,gB,_)=>_|_=>_) _ _;cases dN:bc.back? with
   |none=>
    try dsimp only
    refine cC (qf (cv ⟨bq,bc.push (lo,m,0),g',lo+m,rfl,rfl,eL.ab,?_,by omega,by omega⟩));rw[za];exact Runs.snoc gQ (by omega) d7
   |some x=>
    obtain⟨s1,gB,gO⟩:=x
    try dsimp only
    refine lp (Post:=λb aN=>∃dj dX g',aN=ST X dj dX g'/\b=(none,())/\c8 X.n dj/\Runs X dj dX.toList 0 lo/\Seg X dj lo (lo+m))
     (λ_ b aN=>∃dj dX g',aN=ST X dj dX g'/\b=(none,())/\c8 X.n dj/\Runs X dj dX.toList 0 lo/\Seg X dj lo (lo+m)) ⟨bq,bc,g',rfl,rfl,eL.ab,gQ,d7⟩ ?_ (λ_ _ z=>z) ?_
    .rintro j b aN aQ ⟨dj,dX,g',rfl,rfl,eR,oJ,pq⟩;refine cC (n6 ?_);show W X (match(if dX.size>1 then dX[dX.size-2]? else none)with|some (_,_,anZ)=>_|_=>_) _ _;by_cases c:dX.size>1
     .rw[aO c];obtain⟨x,ex⟩:∃x,dX[dX.size-2]?=some x:=⟨_,qY (by omega)⟩
      rw[ex];obtain⟨kI,vw,anS⟩:=x
      try dsimp only
      split
      .exact cv ⟨dj,dX,g',rfl,rfl,eR,oJ,pq⟩
      .refine cC (Qz eR oJ (by omega) (by show dX.size-2+1<dX.size;omega) λjC CP uU uG Ar Z_=>?_);rw[aJ (by decide)];exact cv ⟨jC,CP,uU,rfl,rfl,uG.ab,Ar,pq.keep λi a b=>uG.out i (.inr a)⟩
     .rw[aJ c];exact cv ⟨dj,dX,g',rfl,rfl,eR,oJ,pq⟩
    .rintro b aN ⟨dj,dX,g',rfl,rfl,eR,oJ,pq⟩
     try dsimp only
     refine cC (qf (cC (qf (cv ⟨dj,_,g',lo+m,rfl,rfl,eR,?_,by omega,by omega⟩))));show Runs X dj (((dX.modify (dX.size-1) λx=>(x.1,x.2.1,_)).push (lo,m,0)).toList) 0 (lo+m);rw[za,ā];exact Runs.snoc (Runs.kr oJ) (by omega) pq
 .rintro b aN ⟨q,bc,g',lo,rfl,rfl,eR,R,gh,fy⟩;have:lo=X.n:=by omega
  subst this;exact⟨q,bc,g',rfl,rfl,eR,R⟩
 .rintro b aN ⟨q,bc,g',rfl,U,eR,R⟩;obtain⟨eC,dT⟩:=b;dsimp only at U;subst U
  try dsimp only
  refine lp (Post:=λb aN=>∃q bc g',aN=ST X q bc g'/\b=(none,())/\c8 X.n q/\Runs X q bc.toList 0 X.n/\bc.size<=1)
   (λk b aN=>∃q bc g',aN=ST X q bc g'/\b=(none,())/\c8 X.n q/\Runs X q bc.toList 0 X.n/\bc.size+k<=X.n+1) ⟨q,bc,g',rfl,rfl,eR,R,by have:=R.le;rw[kQ]at this;omega⟩ ?_ ?_ ?_
  .rintro k b aN aE ⟨q,bc,g',rfl,rfl,eR,R,gh⟩;refine cC (n6 ?_);show W X (if bc.size<=1 then _ else _) _ _;by_cases c:bc.size<=1
   .rw[aO c];exact cv ⟨q,bc,g',rfl,rfl,eR,R,c⟩
   rw[aJ c];refine cC (Qz eR R (b1 _) ?_ λjC CP uU uG Ar Z_=>?_)
   .have le:∀(c:Prop)[Decidable c],(if c then bc.size-2-1 else bc.size-2)+1<bc.size:=λc _=>by split<;>omega
    exact le _
   rw[aJ (by decide)];exact cv ⟨jC,CP,uU,rfl,rfl,uG.ab,Ar,by omega⟩
  .rintro b aN ⟨q,bc,g',rfl,rfl,eR,R,gh⟩;exact⟨q,bc,g',rfl,rfl,eR,R,by omega⟩
  .rintro b aN ⟨q,bc,g',rfl,rfl,eR,R,gh⟩;refine cv (h q bc g' eR ?_);have x6:bc.toList.length<=1:=by simpa using gh
   rcases e:bc.toList with _|⟨x,_|⟨y,l⟩⟩
   .rw[e]at R;have R:0=X.n:=R;omega
   .rw[e]at R;obtain⟨_,_,d7,kB⟩:=R;have kB:0+x.2.1=X.n:=kB;rw[<-kB];exact d7
   .rw[e]at x6;simp at x6
theorem Ë{lt:hg}{n:Nat}(ok:i_ n lt):∀{a b:bj},a.Perm b->(∀x∈a,x<n)->a.Pairwise (λi j=>lt i j=true)->b.Pairwise (λi j=>lt i j=true)->a=b
 |[],b,p,_,_,_=>p.nil_eq
 |x::a,[],p,_,_,_=>bE p.length_eq (by simp)
 |x::a,y::b,p,ln,aU,b5=>by
  rw[JA]at aU b5;have L5:x=y:=by
   rcases fp.mp (p.mem_iff.mp (.head _):x∈y::b)with e|e
   .exact e
   .rcases fp.mp (p.mem_iff.mpr (.head _):y∈x::a)with az|az
    .exact az.symm
    .have h:=ok.hF _ _ _ (aU.1 y az) (b5.1 x e);rw[ok.N1]at h;cases h
  subst L5;rw[Ë ok (abv p) (λz hz=>ln z (.tail _ hz)) aU.2 b5.2]
theorem aoq{prog:bP}{w:bt}{A:cU}{E:cx}{s:aF}{κ:ny}{vs:b_}{lt:hg}(af:2<=vs.length)(ok:i_ vs.length lt)(aC:∀i j C,i<vs.length->j<vs.length->C (lt i j) s->rA prog w A κ vs i j C s):
  aM (ba prog w) A ((sortRuns').run (nz κ (vs.toArray.zip vs.toArray) #[] 7 none)) (λr s'=>s'=s/\(gR r.2).map (·.2)=lZ (fj dY lt vs)/\sN r.2=none) E s:=by
 let X:Ctx:=⟨prog,w,A,E,κ,Ph vs,s,vs.length,lt,λi j C ai aQ dV=>by have:=aC i j C ai aQ dV;rw[kas_ask_eq]at this;exact this,ok⟩
 have ab:c8 vs.length (lZ (da vs.length)):=R_ _;have run:=afX (X:=X) (p:=lZ (da vs.length)) (g:=7) (Q:=λ_ aN=>(gR aN).map (·.2)=lZ (fj dY lt vs)/\sN aN=none) ab af λq dX g' eR d7=>?_
 .have ak0:nz κ (vs.toArray.zip vs.toArray) #[] 7 none=ST X (lZ (da vs.length)) #[] 7:=by have e:=kas_range (Ph vs);rw[pairsOf_size]at e;show nz κ (Ph vs) #[] 7 none=nz κ ((lZ (da vs.length)).map (kas_item (Ph vs))) #[] 7 none;rw[e]
  rw[ak0];exact run
 .refine⟨?_,rfl⟩;have eq:fj dY lt vs=q.toList.map λi=>vs.getD i dY:=by
   unfold fj;congr 1;refine(Ë ok ((eR.list).trans (GA lt vs.length).symm) (λx ao=>eR.lt (by simpa using ao)) ?_ (ZI ok)).symm;rw[sm];intro i j ai aQ o1;have jD:q.size=vs.length:=eR.size;have BJ:j<vs.length:=by rw[<-jD];simpa using aQ
   have:=d7 i j (dM _) o1 BJ;rw[HC ai,HC aQ]at this;exact this
  rw[eq];exact kat_snds (ks:=vs) rfl rfl
end Si
namespace cK
open PySem PySem.Spec PyProof.Rows ar PySem.W
section
variable{prog:bP}{w:bt}{A:cU}{E:cx}{s:aF}{vs:b_}{κ:ny}{lt:hg}
theorem aca{a:Addr}{e:Nat}{R:JU->aF->Prop}(aR:s.heap.get? a=some (fe "list" vs.toArray e))(hz:vs.length<=sizeLine)(ok:i_ vs.length lt)(aE:2<=vs.length->∀s1:aF,mh a s.heap s1.heap->∀Q:ny->aF->Prop,Q κ s1->aM (ba prog w) A (Ca vs.toArray) Q (λ_ _=>False) s1)(aq:2<=vs.length->∀s1:aF,mh a s.heap s1.heap->∀i j C,i<vs.length->j<vs.length->C (lt i j) s1->rA prog w A κ vs i j C s1)(h:∀h' c,mh a s.heap h'->h'.get? a=some (fe "list" (lZ (fj dY lt vs)) c)->R (.done (.ret .none)) {s with heap:=h'}):
  aM (ba prog w) A (Builtin.«list.sort» ⟨[.ref a],[]⟩) R E s:=by
 have emptied:=Mg aR λ_=>(#[]:iA)
 obtain⟨ax,s6⟩:∃k,(s.heap.update a (jI λ_=>(#[]:iA))).get? a=some (fe "list" #[] k):=⟨_,emptied⟩
 have fX:mh a s.heap (s.heap.update a (jI λ_=>(#[]:iA))):=λb o U q=>(zN _ _ _ _ U).trans q;rw[amZ];refine au (listItems_at aR rfl (au (Ot aR rfl ?_ (by rw[ek];exact hz) (dM _))));refine au (P8 s6 rfl (au (Q0 ?_ hz)));refine au (DH (iv ?_) (dM _));dsimp only;generalize i5:((s.heap.update a (jI λ_=>(#[]:iA))).push (fe "tuple" vs.toArray 0)).push (fe "list" #[] 0)=aj;have nU:aj.get? a=some (fe "list" #[] ax):=by rw[<-i5];exact c6 _ (c6 _ s6)
 have dJ:mh a s.heap aj:=λb o U q=>by rw[<-i5];exact c6 _ (c6 _ (fX b o U q))
 have tail:∀(x:Unit×SortSt)(out:b_),(gR x.2).map (·.2)=out.toArray->sN x.2=none->out.length<=sizeLine->out=fj dY lt vs->
   aM (ba prog w) A (do
    let now <-seqEpoch a
    Ĕ (.ref a) λ_=>(gR x.2).map (·.2)
    match sN x.2 with
    |some d6=>do
     rule "list.sort.comparison-raised"
     throw d6
     if(now !=ax)=true then do
      rule "list.sort.modified"
      PM "ValueError" "list modified during sort"
      ret dY
     else ret dY
    |_=>
     if(now !=ax)=true then do
      rule "list.sort.modified"
      PM "ValueError" "list modified during sort"
      ret dY
     else ret dY) R E {s with heap:=aj}:=λx out az cq x5 AZ=>by
  refine au (P8 nU rfl (au (Ot nU rfl ?_ (dM _) ?_)))
  .rw[cq];dsimp only;rw[aJ (by simp)];obtain⟨c,aC⟩:∃c,(aj.update a (jI λ_=>(gR x.2).map (·.2))).get? a=some (fe "list" ((gR x.2).map (·.2)) c):=⟨_,Mg nU λ_=>(gR x.2).map (·.2)⟩
   refine a9 (h _ c (λb o U q=>(zN _ _ _ _ U).trans (dJ b o U q)) ?_);rw[aC,az,AZ]
  .rw[az,ek];exact Nat.le_succ_of_le x5
 by_cases af:(vs.toArray.size<2)
 .rw[aO af,aO af];have fV:vs.length<2:=by rw[ek]at af;exact af
  refine au (a9 (au (a9 ?_)));refine tail ((),nz general' (vs.toArray.zip vs.toArray) #[] 7 none) vs ?_ rfl hz (ì _ _ fV).symm;show(vs.toArray.zip vs.toArray).map (·.2)=vs.toArray;apply DY.mp;simp only[Ā,Ă];exact abP (b1 _)
 .rw[aJ af,aJ af];have fV:2<=vs.length:=by rw[ek]at af;omega
  refine au (e6 (aE fV {s with heap:=aj} dJ (λv5 s'=>v5=κ/\s'={s with heap:=aj}) ⟨rfl,rfl⟩) ?_ λ_ _ x=>x.elim);rintro v5 s' ⟨rfl,rfl⟩;have run:=Si.aoq (prog:=prog) (w:=w) (A:=A) (E:=E) (s:={s with heap:=aj}) (κ:=v5) (vs:=vs) fV ok (λi j C ai aQ dV=>aq fV _ dJ i j C ai aQ dV);refine au (e6 run ?_ λ_ _ x=>x);rintro⟨⟨⟩,st⟩ s' ⟨rfl,dT,jm⟩;exact tail ((),st) _ dT jm (by rw[xQ];exact hz) rfl
theorem ľ{l:Addr}{Q:cx}(aq:s.heap.IsList l vs.toArray)(big:vs.length<=sizeLine)(ok:i_ vs.length lt)(aE:2<=vs.length->∀s1:aF,i9 s.heap s1.heap->∀Q:ny->aF->Prop,Q κ s1->aM (ba prog w) A.in1.in1 (Ca vs.toArray) Q (λ_ _=>False) s1)(aH:2<=vs.length->∀s1:aF,i9 s.heap s1.heap->∀i j C,i<vs.length->j<vs.length->C (lt i j) s1->rA prog w A.in1.in1 κ vs i j C s1)(h:∀D h' c,s.heap.objs.size<=D->i9 s.heap h'->h'.get? D=some (fe "list" (lZ (fj dY lt vs)) c)->Q (.ref D) {s with heap:=h'}):
  aM (ba prog w) A (call (.builtin "sorted") ([.ref l]:b_)) Q E s:=by
 refine D1 Oc Pm LY (Lo (.ref l)) ?_;unfold Builtin.«sorted»;refine au (m:=LG "sorted" 1 1 _) (a9 (au (collect_list aq ?_ big)));refine au (DH ?_ big);generalize nQ:(s.heap.push (fe "list" #[] 0)).update s.heap.objs.size (jI (·++vs.toArray))=G;have gs:G.objs.size=s.heap.objs.size+1:=by rw[<-nQ,ţ,size_push']
 have fX:i9 s.heap G:=λb o q=>by have U:=dP (dm q);rw[<-nQ,zN _ _ _ _ U];exact c6 _ q
 show aM _ _ _ _ _ {s with heap:=G.push (fe "list" vs.toArray 0)};have ck:(G.push (fe "list" vs.toArray 0)).get? G.objs.size=some (fe "list" vs.toArray 0):=ff _ rfl;have dJ:i9 s.heap (G.push (fe "list" vs.toArray 0)):=λb o q=>c6 _ (fX b o q);have pG:∀h',mh G.objs.size (G.push (fe "list" vs.toArray 0)) h'->i9 s.heap h':=λh' x b o q=>x b o (dP (by rw[gs];exact uo (dm q))) (dJ b o q);refine au (iv (kO Qd ⟨_,ck,rfl⟩ LX ?_ (Ln _)));refine aca (s:={s with heap:=G.push (fe "list" vs.toArray 0)}) (κ:=κ) (lt:=lt) ck big ok (λaf s1 x=>aE af s1 (pG _ x)) (λaf s1 x=>aH af s1 (pG _ x)) λh' c x aC=>?_;exact⟨_,rfl,a9 ⟨_,rfl,h _ h' c (by rw[gs];exact wO _) (pG _ x) aC⟩⟩
end
section
variable{X:bB}
theorem api:iF X (.builtin "sorted") (λxs H Q=>∃(p:Addr)(ts:b4)(ds:List (List br))(b:Bool)(ku:List Bool),xs=[.ref p]/\aS X.K H p (ts.map V.ref)/\bX (λr d=>H r=some (.tup (d.map di))) ts ds/\i_ ts.length (iM ds)/\(∀d∈ds,hS d=b::ku)/\
  ∀l,H l=none->Q (.ref l) (upd H l (.lst (fj .bV (iM ds) (ts.map V.ref))))):=by
 intro pins s σ H xs us Q I r h;obtain⟨p,ts,ds,b,ku,rfl,bp,cc,anY,mS,q⟩:=h;obtain⟨u,rfl,eA⟩:=vals1 r;cases eA;obtain⟨its,cg,pl,hz⟩:=I.list bp;have hlen:=cg.length;rw[bh]at hlen;obtain rfl:=PD cg;have NB:(ts.map dA).length<=sizeLine:=by first|exact hz|simpa using hz
 have akD:ts.length=ds.length:=h8 cc;have at_:∀i,i<ts.length->∃d its,(ts.map dA).getD i dY=.ref ts[i]!/\ds.getD i []=d/\hS d=b::ku/\cp (d.map di) its/\ub s.heap ts[i]! its.toArray:=λi ai=>by
  have ax:ts[i]?=some ts[i]:=ct ai;have az:ds[i]?=some ds[i]:=ct (by omega);have cq:ts[i]! =ts[i]:=by simp[ai]
  have aP:H ts[i]=some (.tup (ds[i].map di)):=by
   have:∀{l:b4}{m:List (List br)}{k:Nat}{x:Addr}{y:List br},bX (λr d=>H r=some (.tup (d.map di))) l m->l[k]?=some x->m[k]?=some y->H x=some (.tup (y.map di)):=λ{l m k x y}P=>by
    induction P generalizing k with
    |nil=>intro h;simp at h
    |cons a t bk=>
     cases k with
     |zero=>intro ag af;simp at ag af;subst ag;subst af;exact a
     |succ k=>intro ag af;simp at ag af;exact bk ag af
   exact this cc ax az
  obtain⟨_,its,v1,t1⟩:=I.bo _ _ aP;refine⟨ds[i],its,?_,?_,mS _ (eY _),v1,?_⟩
  .rw[dr,cM,ax,cq];rfl
  .rw[dr,az];rfl
  .rw[cq];exact t1
 refine ľ (κ:=tuples' true) (lt:=iM ds) pl.isList NB (by rw[bh];exact anY) (λaf s1 x kX dk=>?_) (λaf s1 x i j C ai aQ dV=>?_) λD h' c hle x aC=>?_
 .obtain⟨fs,k1,k2,k3⟩:=IX I.bo x cc λd hd=>⟨ku,mS d hd⟩
  rw[bh]at af;refine kat_kind (T:=HX b) k1 (by omega) (λv bI=>?_) (by cases b<;>decide+kernel) ?_
  .obtain⟨k,eS,pk⟩:=k3 v bI;subst eS;cases k with
   |inl i=>obtain⟨t,rfl⟩:=pk;exact Ez rfl
   |inr i=>obtain⟨t,rfl⟩:=pk;exact Ez rfl
  .have e:(HX b !=mF "tuple")=true:=by cases b<;>decide+kernel
   rw[e];exact dk
 .rw[bh]at ai aQ;obtain⟨d,its,a1,a2,gn,iZ,o,aR,_,n,hj⟩:=at_ i ai;obtain⟨d',its',eC,dT,jm,q9,cQ,jz,_,lB,MV⟩:=at_ j aQ;unfold rA;rw[a1,eC];have gh:=iZ.length;have fy:=q9.length;rw[bh]at gh fy;have kp:d.length=d'.length:=by have e:=e9 uf (gn.trans jm.symm);simpa[hS]using e
  refine kat_lt (b:=true) (x _ _ aR) hj (x _ _ jz) MV ?_;rw[eM (by rw[ek,ek];omega)];refine He d d' its its' 0 iZ q9 (gn.trans jm.symm) ?_;have:iM ds i j=lexLt d d':=by unfold iM;rw[a2,dT]
  rw[<-this];exact dV
 .refine⟨.ref D,_,I.laid (a:=D) (o:=.lst (fj .bV (iM ds) (ts.map V.ref))) (t':=s.toks) (λb o q=>x b o q) hle ?_,rfl,q D (I.bo.fresh hle)⟩;refine⟨?_,_,c,B0 cg,aC⟩;rw[xQ];rw[bh]at NB⊢;exact NB
noncomputable def ltI(ns:fh)(i j:Nat):Bool:=decide (i<ns.length/\j<ns.length/\ns.getD i 0<ns.getD j 0)
theorem afY{ns:fh}(aK:ns.Nodup):i_ ns.length (ltI ns)where
 hF:=λi j k ag af=>by have ag:=kJ ag;have af:=kJ af;exact dU ⟨ag.1,af.2.1,by omega⟩
 to:=λi j ai aQ ne=>by
  have ax:ns.getD i 0=ns[i]:=by rw[dr,ct ai];rfl
  have az:ns.getD j 0=ns[j]:=by rw[dr,ct aQ];rfl
  have fH:ns.getD i 0≠ns.getD j 0:=λz=>ne ((wL aK).mp (by rw[<-ax,<-az];exact z));rcases Int.lt_or_lt_of_ne fH with z|z
  .exact .inl (dU ⟨ai,aQ,z⟩)
  .exact .inr (dU ⟨aQ,ai,z⟩)
 N1:=λi=>eM λz=>by omega
noncomputable def sortI(ns:fh):List Int:=fj 0 (ltI ns) ns
theorem sortI_perm(ns:fh):(sortI ns).Perm ns:=Å _ _ _
theorem Sd{ns:fh}(aK:ns.Nodup):(sortI ns).Pairwise (· < ·):=by unfold sortI fj;rw[oA];exact(ZI (afY aK)).imp λz=>(kJ z).2.2
theorem RD(ns:fh):fj V.bV (ltI ns) (ns.map V.int)=(sortI ns).map V.int:=by unfold sortI fj;rw[fS,bh];refine q3 λi ai=>?_;have:=G4 ai;show(ns.map V.int).getD i .bV=V.int (ns.getD i 0);rw[dr,cM,ct this,dr,ct this];rfl
section
variable{prog:bP}{w:bt}{A:cU}{s:aF}{ns:fh}{us:b_}
theorem RF(r:cp (ns.map V.int) us){i:Nat}(ai:i<us.length):∃t,us.getD i dY=.int (ns.getD i 0) t:=by have aq:=r.length;rw[bh]at aq;obtain⟨u,cJ,t,rfl⟩:=r.get (x:=V.int (ns.getD i 0)) (i:=i) (by rw[cM,ct (by omega),dr,ct (by omega)];rfl);exact⟨t,by rw[dr,cJ];rfl⟩
theorem PK(r:cp (ns.map V.int) us)(af:2<=us.length){Q:ny->aF->Prop}(h:Q G1 s):aM (ba prog w) A (Ca us.toArray) Q (λ_ _=>False) s:=by refine kas_kind (T:=.type "int") af (λv bI=>?_) (by decide+kernel) (by decide+kernel) h;obtain⟨i,ai,rfl⟩:=hq bI;obtain⟨t,e⟩:=RF r ai;rw[dr,ct ai]at e;have e:us[i]=.int (ns.getD i 0) t:=e;rw[e];exact Ez rfl
theorem QA(r:cp (ns.map V.int) us){i j:Nat}(ai:i<us.length)(aQ:j<us.length){C:Bool->aF->Prop}(h:C (ltI ns i j) s):rA prog w A G1 us i j C s:=by have aq:=r.length;rw[bh]at aq;obtain⟨t,ax⟩:=RF r ai;obtain⟨u,az⟩:=RF r aQ;unfold rA;rw[ax,az];refine kat_lt_int ?_;have e:ltI ns i j=decide (ns.getD i 0<ns.getD j 0):=decide_eq_decide.mpr ⟨λz=>z.2.2,λz=>⟨by omega,by omega,z⟩⟩;rw[<-e];exact h
end
theorem aec{P:bP}{w:bt}{n:Int}{v:Value}(h:(hx P w).is (.inl n) v=true):RelV (V.int n) v:=by obtain⟨t,e⟩:=agm h;exact⟨t,e⟩
theorem afZ{a b:Str}(h:a.cps.toList=b.cps.toList):a=b:=by cases a;cases b;simp only[DY]at h;rw[h]
theorem I0:∀a:List br,lexLt a a=false
 |[]=>rfl
 |.inl a::r=>by show(if a=a then lexLt r r else _)=false;rw[aO rfl];exact I0 r
 |.inr a::r=>by show(if a=a then lexLt r r else _)=false;rw[aO rfl];exact I0 r
theorem I1:∀a b:List br,hS a=hS b->a≠b->lexLt a b=true\/lexLt b a=true
 |[],[],_,n=>bE rfl n
 |[],.inl _::_,h,_=>by cases h
 |[],.inr _::_,h,_=>by cases h
 |.inl _::_,[],h,_=>by cases h
 |.inr _::_,[],h,_=>by cases h
 |.inl a::r,.inr b::q,h,_=>by cases h
 |.inr a::r,.inl b::q,h,_=>by cases h
 |.inl a::r,.inl b::q,h,n=>by
  show(if a=b then lexLt r q else decide (a<b))=true\/(if b=a then lexLt q r else decide (b<a))=true;by_cases e:a=b
  .subst e;rw[aO rfl,aO rfl];exact I1 r q (Ua h).2 λz=>n (by rw[z])
  .rw[aJ e,aJ (d8 e),nJ,nJ];omega
 |.inr a::r,.inr b::q,h,n=>by
  show(if a=b then lexLt r q else decide (a.cps.toList<b.cps.toList))=true\/(if b=a then lexLt q r else decide (b.cps.toList<a.cps.toList))=true;by_cases e:a=b
  .subst e;rw[aO rfl,aO rfl];exact I1 r q (Ua h).2 λz=>n (by rw[z])
  .rw[aJ e,aJ (d8 e),nJ,nJ];by_cases l:a.cps.toList<b.cps.toList
   .exact .inl l
   .by_cases fy:b.cps.toList<a.cps.toList
    .exact .inr fy
    .exact bE (afZ (List.le_antisymm (abS.mp fy) (abS.mp l))) e
theorem I2:∀a b c:List br,lexLt a b=true->lexLt b c=true->lexLt a c=true
 |[],_,_,h,_=>by cases h
 |.inl _::_,[],_,h,_=>by cases h
 |.inr _::_,[],_,h,_=>by cases h
 |.inl _::_,.inr _::_,_,h,_=>by cases h
 |.inr _::_,.inl _::_,_,h,_=>by cases h
 |.inl _::_,.inl _::_,[],_,h=>by cases h
 |.inr _::_,.inr _::_,[],_,h=>by cases h
 |.inl _::_,.inl _::_,.inr _::_,_,h=>by cases h
 |.inr _::_,.inr _::_,.inl _::_,_,h=>by cases h
 |.inl a::r,.inl b::q,.inl c::p,ag,af=>by
  have jV:(if a=b then lexLt r q else decide (a<b))=true:=ag;have fV:(if b=c then lexLt q p else decide (b<c))=true:=af;show(if a=c then lexLt r p else decide (a<c))=true;by_cases ax:a=b
  .subst ax;rw[aO rfl]at jV;by_cases az:a=c
   .rw[aO az]at fV⊢;exact I2 r q p jV fV
   .rw[aJ az]at fV⊢;exact fV
  .rw[aJ ax,nJ]at jV;by_cases az:b=c
   .subst az;rw[aJ ax,nJ];exact jV
   .rw[aJ az,nJ]at fV;rw[aJ (by omega),nJ];omega
 |.inr a::r,.inr b::q,.inr c::p,ag,af=>by
  have jV:(if a=b then lexLt r q else decide (a.cps.toList<b.cps.toList))=true:=ag;have fV:(if b=c then lexLt q p else decide (b.cps.toList<c.cps.toList))=true:=af;show(if a=c then lexLt r p else decide (a.cps.toList<c.cps.toList))=true;by_cases ax:a=b
  .subst ax;rw[aO rfl]at jV;by_cases az:a=c
   .rw[aO az]at fV⊢;exact I2 r q p jV fV
   .rw[aJ az]at fV⊢;exact fV
  .rw[aJ ax,nJ]at jV;by_cases az:b=c
   .subst az;rw[aJ ax,nJ];exact jV
   .rw[aJ az,nJ]at fV;have hF:=List.lt_trans jV fV;rw[aJ λz=>by rw[z]at hF;exact List.lt_irrefl _ hF,nJ];exact hF
theorem aed{ds:List (List br)}{ku:List Bool}(mS:∀d∈ds,hS d=ku)(aK:ds.Nodup):i_ ds.length (iM ds)where
 hF:=λi j k ag af=>I2 _ _ _ ag af
 to:=λi j ai aQ ne=>by
  have ax:ds.getD i []=ds[i]:=by rw[dr,ct ai];rfl
  have az:ds.getD j []=ds[j]:=by rw[dr,ct aQ];rfl
  unfold iM;rw[ax,az];refine I1 _ _ ((mS _ (eY ai)).trans (mS _ (eY aQ)).symm) λz=>ne ?_;exact(List.getElem?_inj ai aK).mp (by rw[ct ai,ct aQ,z])
 N1:=λi=>I0 _
end
end cK
namespace fR
open PySem ar cK de
theorem Tw{α:Type}{R:α->α->Prop}(as:∀a b,R a b->R b a->False):∀{a b:List α},a.Perm b->a.Pairwise R->b.Pairwise R->a=b
 |[],b,p,_,_=>p.nil_eq
 |x::a,[],p,_,_=>bE p.length_eq (by simp)
 |x::a,y::b,p,aU,b5=>by
  rw[JA]at aU b5;have L5:x=y:=by
   rcases fp.mp (p.mem_iff.mp (.head _):x∈y::b)with e|e
   .exact e
   .rcases fp.mp (p.mem_iff.mpr (.head _):y∈x::a)with az|az
    .exact az.symm
    .exact(as _ _ (aU.1 y az) (b5.1 x e)).elim
  subst L5;rw[Tw as (abv p) aU.2 b5.2]
theorem ψ(rs:List Row):(y9 rs).Perm rs:=by unfold y9 JD;refine((GA _ _).map _).trans ?_;rw[show(da rs.length).map (λi=>rs.getD i r0)=rs from ?_];refine zZ (by simp) λi ag af=>?_;rw[sh,Ul,dr,ct af];rfl
theorem S9:∀{kvs:List (List br×ar.V)},(∀p∈kvs,∃r:Row,p=([.inr r.1,.inr r.2.1],.int r.2.2))->∃rs,kvs=du rs
 |[],_=>⟨[],rfl⟩
 |p::q,h=>by obtain⟨r,rfl⟩:=h p (.head _);obtain⟨rs,rfl⟩:=S9 (kvs:=q) λp aP=>h p (.tail _ aP);exact⟨r::rs,rfl⟩
noncomputable def kq(c:Int×Nat):List ar.V:=[.int c.1,.int (c.2:Int)]
noncomputable def vE(c:Int×Nat):List br:=[.inl c.1,.inl (c.2:Int)]
theorem ach(cs:List (Int×Nat)):∀d∈cs.map vE,hS d=true::[true]:=λd hd=>by obtain⟨r,_,rfl⟩:=cf.mp hd;rfl
noncomputable def ma(cs:List (Int×Nat)):List (Int×Nat):=(o' (iM (cs.map vE)) cs.length).map λi=>cs.getD i (0,0)
theorem Gn(cs:List (Int×Nat)):(ma cs).Perm cs:=by unfold ma;refine((GA _ _).map _).trans ?_;rw[show(da cs.length).map (λi=>cs.getD i (0,0))=cs from ?_];refine zZ (by simp) λi ag af=>?_;rw[sh,Ul,dr,ct af];rfl
theorem ω{H:aa}:∀{ts:b4}{cs:List (Int×Nat)},eh H ts (cs.map kq)->bX (λr d=>H r=some (.tup (d.map di))) ts (cs.map vE)
 |_,[],h=>by cases h;exact .nil
 |_,c::cs,h=>by cases h with|cons a t=>exact .cons a (ω t)
theorem aaI{H:aa}{ts:b4}{cs:List (Int×Nat)}(cc:eh H ts (cs.map kq)):∃hl,fj V.bV (iM (cs.map vE)) (aW ts)=aW hl/\eh H hl ((ma cs).map kq):=by
 have ln:(aW ts).length=cs.length:=by have:=cc.len;rw[bh]at this;rw[fO,this]
 unfold fj ma;rw[ln];have all:∀is:List Nat,(∀i∈is,i<cs.length)->∃hl,(is.map λi=>(aW ts).getD i .bV)=aW hl/\eh H hl ((is.map λi=>cs.getD i (0,0)).map kq):=λis=>by
  induction is with
  |nil=>intro _;exact⟨[],rfl,.nil⟩
  |cons i q bk=>
   intro ai;obtain⟨hl,ax,Qp⟩:=bk λj aQ=>ai j (.tail _ aQ);have lt:=ai i (.head _);have Ou:i<ts.length:=by rw[fO]at ln;omega
   have az:ts[i]?=some ts[i]:=ct Ou;obtain⟨y,ag,af⟩:=bX.get cc az;rw[cM,ct lt]at ag;cases ag;refine⟨ts[i]::hl,?_,.cons ?_ Qp⟩
   .rw[gk,ax];show(aW ts).getD i .bV::aW hl=V.ref ts[i]::aW hl;congr 1;show((aW ts)[i]?).getD .bV=_;unfold aW;rw[cM,az];rfl
   .show H ts[i]=some (d4.tup (kq (cs.getD i (0,0))));rw[show cs.getD i (0,0)=cs[i] by rw[dr,ct lt];rfl];exact af
 exact all _ λi ai=>G4 ai
noncomputable def dZ(ns:bj):List Int:=ns.map λn:Nat=>(n:Int)
noncomputable def jv(ns:bj):List Nat:=(sortI (dZ ns)).map Ei
theorem aee{ns:bj}(aK:ns.Nodup):(dZ ns).Nodup:=oA.mpr (aK.imp λh z=>h (by omega))
theorem HD(ns:bj):dZ (jv ns)=sortI (dZ ns):=by
 unfold jv dZ;rw[fS];have:∀x∈sortI (ns.map λn:Nat=>(n:Int)),((λn:Nat=>(n:Int))∘Ei) x=x:=λx ao=>by obtain⟨n,_,rfl⟩:=cf.mp ((sortI_perm _).mem_iff.mp ao);rfl
 rw[q3 this,Jv]
theorem xP(ns:bj):(jv ns).Perm ns:=by
 have h:=(sortI_perm (dZ ns)).map Ei;have e:(dZ ns).map Ei=ns:=by unfold dZ;rw[fS];have:∀x∈ns,(Ei∘λn:Nat=>(n:Int)) x=x:=λx _=>lX x;rw[q3 this,Jv]
 rw[e]at h;exact h
theorem Se{ns:bj}(aK:ns.Nodup):(jv ns).Pairwise (· < ·):=by have h:=Sd (aee aK);rw[<-HD]at h;unfold dZ at h;exact(oA.mp h).imp λz=>by omega
noncomputable def z6(room:Int)(q:List (Int×Nat)):List Nat:=jv (((ma q).take room.toNat).map (·.2))
noncomputable def lj(E:List (Nat×Addr)):List (br×ar.V):=E.map λe=>(iX (e.1:Int),.ref e.2)
structure oI(mr H:aa)(p:Addr)(E:List (Nat×Addr))(q:Nat->List (Int×Nat)):Prop where
 tab:H p=some (.cD (lj E))
 tl:(E.map (·.1)).Nodup
 na:(E.map (·.2)).Nodup
 each:∀e∈E,mr e.2=none/\e.2≠p/\∃ts,H e.2=some (.lst (aW ts))/\eh H ts ((q e.1).map kq)
theorem oI.same{mr H H':aa}{p:Addr}{E:List (Nat×Addr)}{q:Nat->List (Int×Nat)}(h:oI mr H p E q)(aI:aT H H'):oI mr H' p E q:=
 ⟨aI _ _ h.tab,h.tl,h.na,λe he=>let⟨a,b,ts,c,d⟩:=h.each e he;⟨a,b,ts,aI _ _ c,d.same aI⟩⟩
theorem Hg:∀{E:List (Nat×Addr)},(E.map (·.1)).Nodup->∀{r:Nat}{l:Addr},(r,l)∈E->cW (lj E) (iX (r:Int):br)=some (.ref l)
 |[],_,_,_,h=>nomatch h
 | (r0,Og)::E,aK,r,l,h=>by
  rw[gk,jf]at aK;rcases fp.mp h with e|e
  .cases e;exact l5 rfl
  .show cW ((iX (r0:Int),V.ref Og)::lj E) _=_;rw[k8 (λz=>aK.1 (by
    have dz:(r0:Int)=(r:Int):=VQ z;have:r0=r:=by omega
    rw[this];exact cf.mpr ⟨_,e,rfl⟩))]
   exact Hg aK.2 e
theorem RG:∀{E:List (Nat×Addr)}{r:Nat},r∉E.map (·.1)->cW (lj E) (iX (r:Int):br)=none
 |[],_,_=>rfl
 | (r0,Og)::E,r,h=>by
  show cW ((iX (r0:Int),V.ref Og)::lj E) _=_;rw[k8 (λz=>h (by
   have dz:(r0:Int)=(r:Int):=VQ z;have:r0=r:=by omega
   rw[this];exact .head _))]
  exact RG λz=>h (.tail _ z)
theorem oI.new{mr H:aa}{p jd:Addr}{E:List (Nat×Addr)}{q:Nat->List (Int×Nat)}(h:oI mr H p E q){r:Nat}(ay:r∉E.map (·.1))(yw:q r=[])(CE:mr jd=none)(hz:H jd=some (.lst []))(OI:∀e∈E,e.2≠jd):
  oI mr (upd H p (.cD (ez (lj E) (iX (r:Int)) (.ref jd)))) p (E++[(r,jd)]) q:=by
 have np:jd≠p:=λz=>by rw[z,h.tab]at hz;cases hz
 refine⟨?_,?_,?_,λe he=>?_⟩
 .rw[a8,xS _ (RG ay)];unfold lj;rw[fo];rfl
 .rw[fo];exact GB h.tl ay
 .rw[fo];refine GB h.na λz=>?_;obtain⟨e,he,az⟩:=cf.mp z;exact OI e he az
 .rcases fY.mp he with z|z
  .obtain⟨a,b,ts,c,d⟩:=h.each e z;exact⟨a,b,ts,by rw[aL b];exact c,d.upd h.tab (by intro d z;cases z)⟩
  .rw[fD.mp z];refine⟨CE,np,[],by rw[aL np];exact hz,?_⟩;show eh _ [] ((q r).map kq);rw[yw];exact .nil
theorem oI.add{mr H:aa}{p l t:Addr}{E:List (Nat×Addr)}{q:Nat->List (Int×Nat)}{ts:b4}(h:oI mr H p E q){r:Nat}(ay:(r,l)∈E){c:Int×Nat}(aq:H l=some (.lst (aW ts)))(cc:eh H ts ((q r).map kq))(cO:H t=some (.tup (kq c)))(aD:mr t=none):
  oI mr (upd H l (.lst (aW ts++[V.ref t]))) p E (λcB=>if cB=r then q r++[c]else q cB):=by
 obtain⟨a0,w4,_⟩:=h.each _ ay;have w4:l≠p:=w4;have uniq:∀e∈E,e.2=l->e=(r,l):=λe he z=>by
  obtain⟨i,ai,e'⟩:=hq he;obtain⟨j,aQ,ei⟩:=hq ay;have ax:(E.map (·.2))[i]'(by rw[bh];exact ai)=(E.map (·.2))[j]'(by rw[bh];exact aQ):=by rw[sh,sh,e',ei,z]
  have:=(wL h.na).mp ax;subst this;rw[<-e',ei]
 refine⟨by rw[aL (d8 w4)];exact h.tab,h.tl,h.na,λe he=>?_⟩;obtain⟨a,b,hl,gz,d⟩:=h.each e he;refine⟨a,b,?_⟩;by_cases z:e.2=l
 .obtain rfl:=uniq e he z;refine⟨ts++[t],by rw[a8,u_],?_⟩;show eh _ _ ((if r=r then q r++[c]else q r).map kq);rw[aO rfl,fo];exact eh.upd (Paired.snoc (F:=λr d=>H r=some (.tup d)) cO cc) aq (by intro d z;cases z)
 .refine⟨hl,by rw[aL z];exact gz,?_⟩;have gi:e.1≠r:=λy=>z (by
   obtain⟨i,ai,e'⟩:=hq he;obtain⟨j,aQ,ei⟩:=hq ay;have ax:(E.map (·.1))[i]'(by rw[bh];exact ai)=(E.map (·.1))[j]'(by rw[bh];exact aQ):=by rw[sh,sh,e',ei,y]
   have:=(wL h.tl).mp ax;subst this;rw[<-e',ei])
  show eh _ _ ((if e.1=r then q r++[c]else q e.1).map kq);rw[aJ gi];exact d.upd aq (by intro d z;cases z)
noncomputable def eI(bO:Nat->Int)(bG:Nat->Nat)(T:Int)(go:bj)(r:Nat):List (Int×Nat):=(go.filter λn=>decide (bO n<=T)&&decide (bG n=r)).map λn=>(bO n,n)
theorem Uy{bO:Nat->Int}{bG:Nat->Nat}{T:Int}{go:bj}{n:Nat}(h:¬bO n<=T):eI bO bG T (go++[n])=eI bO bG T go:=by funext r;unfold eI;rw[pO,fo];simp[wK,h]
theorem HE{bO:Nat->Int}{bG:Nat->Nat}{T:Int}{go:bj}{n:Nat}(h:bO n<=T):eI bO bG T (go++[n])=λcB=>if cB=bG n then eI bO bG T go (bG n)++[(bO n,n)]else eI bO bG T go cB:=by
 funext r;unfold eI;rw[pO,fo];by_cases e:r=bG n
 .subst e;simp[wK,h]
 .simp[wK,h,e,d8 e]
theorem S'(bO:Nat->Int)(bG:Nat->Nat)(T:Int)(go:bj)(r:Nat):(eI bO bG T go r).length<=go.length:=by unfold eI;rw[bh];exact si _ _
noncomputable def I3(hs:bD)(kvs:dt)(gs:bR)(ak:dh)(bO:Nat->Int)(bG:Nat->Nat)(n:Nat):Prop:=∃(ss:List Step)(s:Step)(y:Str),ak[n]?=some (ss++[s])/\s.bO=bO n/\gs[n]?=some y/\s.fK∈hs.map S/\y∈hs.map S/\s.fK≠y/\cW kvs (d3 s.fK y)=some (.int (bG n:Int))
noncomputable def fx(go:bj):List ar.V:=go.map λn:Nat=>V.int (n:Int)
noncomputable def aef(hs:bD)(kvs:dt)(gs:bR)(ak:dh)(bO:Nat->Int)(n:Nat):Prop:=∃(ss:List Step)(s:Step)(y:Str),ak[n]?=some (ss++[s])/\s.bO=bO n/\gs[n]?=some y/\s.fK∈hs.map S/\y∈hs.map S/\s.fK≠y/\cW kvs (d3 s.fK y)=none
noncomputable def S_(hw:Nat->Bool)(hs:bD)(kvs:dt)(gs:bR)(ak:dh)(bO:Nat->Int)(bG:Nat->Nat)(n:Nat):Prop:=(hw n=true/\I3 hs kvs gs ak bO bG n)\/(hw n=false/\aef hs kvs gs ak bO n)
inductive agR(K:aY)(C ec bA:Addr)(vs:a')(H:aa)(Q:bl)(bM:cE):Prop where
 |mk (x n g st gl y lB t bz a7:Addr) (gs:bR) (ls:b4) (ak:dh) (hs:bD) (ys:a') (kvs:dt) (go:bj) (hw:Nat->Bool) (bO:Nat->Int) (bG:Nat->Nat) (T:Int) (b0:vs=[.ref x,.ref gl,.ref y,.int T]) (bH:WalkAt C H x n g st gs ls ak) (cu:aS K H gl (fx go)) (cS:kD ec bA H y lB t bz a7 (dC hs) ys kvs) (dw:Good hs) (en:go.length<=100) (ha:(∀k∈go,S_ hw hs kvs gs ak bO bG k)) (iT:∀(p:Addr)(H':aa)(E:List (Nat×Addr)),H p=none->aT H H'->oI H H' p E (eI bO bG T (go.filter hw))->(∀r,r∈E.map (·.1)↔eI bO bG T (go.filter hw) r≠[])->Q (.ref p) H')
noncomputable def Kh(K:aY)(C ec bA:Addr):c9:=λvs H Q bM=>agR K C ec bA vs H Q bM
section
variable{P:bP}{w:bt}{K:aY}{ae:cN}{base:Heap}
noncomputable abbrev C4:Stmt:=top 17
theorem z5:d0 ["walk","going","ways","turn","queues","number","came","road"] ["walk","going","ways","turn"] (dx C4):=⟨rfl,rfl,rfl,by decide+kernel,rfl,by decide+kernel,by decide+kernel⟩
inductive ah1(x gl y p:Addr)(T:Int)(bO:Nat->Int)(bG:Nat->Nat)(go:bj)(hw:Nat->Bool)(H:aa)(i:Nat)(σ:ar.St)(bJ:aa):Prop where
 |mk (E:List (Nat×Addr)) (v1 v2 iR:l2) (b0:σ=[some (.ref x),some (.ref gl),some (.ref y),some (.int T),some (.ref p),v1,v2,iR]) (bH:aT H bJ) (cu:oI H bJ p E (eI bO bG T ((go.take i).filter hw))) (cS:∀r,r∈E.map (·.1)↔eI bO bG T ((go.take i).filter hw) r≠[]) (dw:E.length<=i)
theorem agS{C ec bA fq f f1 f2 dB f4:Addr}{fd eU gI oR sO:c1}(F:b6 K "queues_at" "queues_at" C4 f fd)(cH:qC K C)(nB:o_ K ec)(nE:eJ K C "last_turn" "Walk.last_turn" vB ["self","number"] f1 eU)(AP:a4 P w K ae base bu 1 f1 eU ["self","number"] (CO C))(sC:eJ K C "last_house" "Walk.last_house" yA ["self","number"] f2 gI)(Me:a4 P w K ae base bu 1 f2 gI ["self","number"] (Hy C))(Gp:eJ K C "goal" "Walk.goal" y8 ["self","number"] dB oR)(Ą:a4 P w K ae base bu 1 dB oR ["self","number"] (IU C))(GC:eJ K ec "way" "Ways.way" C' ["self","house","goal"] f4 sO)(Pc:a4 P w K ae base (gP P w) 3 f4 sO ["self","house","goal"] (Ke ec bA fq)):
  a4 P w K ae base bu 4 f fd ["walk","going","ways","turn"] (Kh K C ec bA):=by
 have l7:=cH.cl;have kf:=nB.cl;refine F.ok z5 (λvs H Q E h=>?_) (λbK A outer s H vs Q E ay h=>?_)
 .obtain⟨x,n,g,st,gl,y,lB,t,bz,a7,gs,ls,ak,hs,ys,kvs,go,hw,bO,bG,T,rfl,_⟩:=h;rfl
 .obtain⟨x,n,g,st,gl,y,lB,t,bz,a7,gs,ls,ak,hs,ys,kvs,go,hw,bO,bG,T,rfl,W,hQ,k6,G,c7,ok,q⟩:=h;obtain⟨av,ao⟩:=W.ins;obtain⟨sI,aZ⟩:=k6.ins;refine⟨_,(bQ (dG (i:=4) z5.aK rfl (cY rfl) ç)
   (bQ (kC jJ rfl (i1 (ah 1)) (d1 (i:=5) z5.aK rfl (cY rfl))
    (bQ (dG (i:=6) z5.aK rfl (cY rfl) (ib (ah 0) l7 nE.gM AP (ay.mono (by decide)) nE.bd .nil dQ (aA (ah 5) a5)))
   (b8 (gd (fP rH (ah 6) (ah 3) (eD _)) (bQ (dG (i:=7) z5.aK rfl (cY rfl) (ib (ah 2) kf GC.gM Pc (ay.mono (by decide)) GC.bd .nil D4 (aA (ib (ah 0) l7 sC.gM Me (ay.mono (by decide)) sC.bd .nil dQ (aA (ah 5) a5)) (aA (ib (ah 0) l7 Gp.gM Ą (ay.mono (by decide)) Gp.bd .nil dQ (aA (ah 5) a5)) a5))))
   (b8 (gd (fP S2 (ah 7) l' (eD _)) (b8 (ia (n4 oF oG oH mJ (ab1 (ah 4) (ah 7) (l_ a5) ⟨rfl,rfl,rfl,rfl⟩) (aA (jS (aA (ah 6) (aA (ah 5) a5))) a5)))) gb))) gb))))
   (b8 (dE (ah 4))))),?_⟩
  refineλp aP=>?_
  have s0:aT H (upd H p (.cD [])):=cV aP;refine⟨_,rfl,gl,rfl,⟨_,s0.seq hQ⟩,?_⟩;refine ta (xs:=fx go) (ah1 x gl y p T bO bG go hw H)
   ⟨[],none,none,none,rfl,s0,⟨a8,pQ,pQ,λe he=>nomatch he⟩,λr=>⟨λz=>(nomatch z),λz=>bE rfl z⟩,b1 _⟩ (λi σ bJ _⟨_,_,_,_,_,h,_,_,_⟩=>h.seq hQ) ?_ ?_
  .rintro i z σ bJ dO ⟨E,v1,v2,iR,rfl,aI,lI,mem,le⟩;unfold fx at dO;rw[cM]at dO;obtain⟨k,eS,rfl⟩:=ft.mp dO;have YI:i<go.length:=(gj.mp eS).1;have aG:go.take (i+1)=go.take i++[k]:=by rw[mw,eS];rfl
   have q8:=W.same aI;rcases ok k (eQ eS)with⟨Nu,ss,s1,qT,ax,az,cq,et,g6,kA,AR⟩|⟨Nu,ss,s1,qT,ax,az,cq,et,g6,kA,AR⟩
   .have aG:(go.take (i+1)).filter hw=(go.take i).filter hw++[k]:=by rw[aG,pO,wK,aO Nu,abD]
    refine⟨_,rfl,x,av,_,rfl,aI _ _ ao,rfl,_,rfl,x,n,g,st,gs,ls,ak,k,ss,s1,rfl,q8,ax,?_⟩;refine⟨_,rfl,_,rfl,_,_,rfl,rfl,_,rfl,?_⟩;by_cases hd:bO k<=T
    .refine fi (dU (by rw[az];exact hd)) ?_;refine⟨_,rfl,y,sI,_,rfl,aI _ _ aZ,rfl,_,rfl,x,av,_,rfl,aI _ _ ao,rfl,_,rfl,x,n,g,st,gs,ls,ak,k,ss,s1,rfl,q8,ax,_,rfl,x,av,_,rfl,aI _ _ ao,rfl,_,rfl,x,n,g,st,gs,ls,ak,k,qT,rfl,q8,cq,?_⟩;refine⟨y,lB,t,bz,a7,hs,_,kvs,s1.fK,qT,rfl,k6.same aI,G,yG G et,yG G g6,λ_ aj s2=>?_,λz=>bE (RB et g6 kA) (by rw[z];decide)⟩;rw[AR];refine⟨_,rfl,rfl,_,rfl,fi (by simp) ?_⟩;have vL:=aI.trans s2;have PG:=lI.same s2;refine⟨_,rfl,p,rfl,.inl ⟨_,.inl PG.tab⟩,_,rfl,dM _,λjd O1=>?_⟩;have s3:=cV (o:=.lst []) O1;have tp:=PG.same s3;have HH:=vL.trans s3;have hz:upd aj jd (.lst []) jd=some (.lst []):=a8;have Zp:=m1 vL O1;have OI:∀e∈E,e.2≠jd:=λe he z=>by obtain⟨_,_,ts,c,_⟩:=PG.each e he;rw[z,O1]at c;cases c
     generalize upd aj jd (.lst [])=bL at s3 tp HH hz⊢;have gH:(lj E).length=E.length:=bh _;refine⟨lj E,iX (bG k:Int),rfl,tp.tab,e1 (by omega),λv bI=>?_,λh0=>?_⟩
     .have iK:bG k∈E.map (·.1):=by
       by_cases z:bG k∈E.map (·.1)
       .exact z
       .rw[RG z]at bI;cases bI
      obtain⟨⟨r0,l⟩,he,cI⟩:=cf.mp iK;have cI:r0=bG k:=cI;subst cI;rw[Hg tp.tl he]at bI;cases bI;obtain⟨nl,_,ts,aq,cc⟩:=tp.each _ he;refine⟨.inl ⟨rfl,_,aS.of aq⟩,_,rfl,_,rfl,(by show 2<=sizeLine;decide),λr gi=>?_⟩;have s4:=cV (o:=.tup [V.int s1.bO,V.int (k:Int)]) gi;have PH:=tp.same s4;have ay:upd bL r (.tup [V.int s1.bO,V.int (k:Int)]) r=some (.tup (kq (bO k,k))):=by rw[a8,az];rfl
      have c3:=cc.len;refine⟨l,_,_,rfl,rfl,s4 _ _ aq,e1 (by rw[fO];rw[bh]at c3;have:=S' bO bG T ((go.take i).filter hw) (bG k);have fy:=si hw (go.take i);rw[f_]at fy;have asp:ts.length=(eI bO bG T ((go.take i).filter hw) (bG k)).length:=c3;omega),?_⟩;refine⟨E,_,_,_,rfl,h_ nl (HH.trans s4),?_,?_,by omega⟩
      .rw[aG,HE hd];exact PH.add he (s4 _ _ aq) (cc.same s4) ay (m1 HH gi)
      .intro cB;rw[aG,HE hd,mem cB];dsimp only;by_cases z:cB=bG k
       .subst z;rw[aO rfl];exact⟨λ_=>by simp,λ_=>(mem _).mp iK⟩
       .rw[aJ z]
     .have iK:bG k∉E.map (·.1):=λz=>by obtain⟨⟨r0,l⟩,he,cI⟩:=cf.mp z;have cI:r0=bG k:=cI;subst cI;rw[Hg tp.tl he]at h0;cases h0
      have yw:eI bO bG T ((go.take i).filter hw) (bG k)=[]:=by
       by_cases z:eI bO bG T ((go.take i).filter hw) (bG k)=[]
       .exact z
       .exact bE ((mem _).mpr z) iK
      have kK:=tp.new iK yw Zp hz OI;have Qf:aT H (upd bL p (.cD (ez (lj E) (iX (bG k:Int)) (.ref jd)))):=h_ aP HH;have np:jd≠p:=λz=>by rw[z,tp.tab]at hz;cases hz
      have Gj:upd bL p (.cD (ez (lj E) (iX (bG k:Int)) (.ref jd))) jd=some (.lst (aW [])):=by rw[aL np];exact hz
      generalize upd bL p (.cD (ez (lj E) (iX (bG k:Int)) (.ref jd)))=eP at kK Qf Gj⊢;have he:(bG k,jd)∈E++[(bG k,jd)]:=fY.mpr (.inr (.head _));refine⟨.inl ⟨rfl,_,aS.of Gj⟩,_,rfl,_,rfl,(by show 2<=sizeLine;decide),λr gi=>?_⟩;have s4:=cV (o:=.tup [V.int s1.bO,V.int (k:Int)]) gi;have PH:=kK.same s4;have ay:upd eP r (.tup [V.int s1.bO,V.int (k:Int)]) r=some (.tup (kq (bO k,k))):=by rw[a8,az];rfl
      refine⟨jd,_,_,rfl,rfl,s4 _ _ Gj,(by show 0<sizeLine;decide),?_⟩;refine⟨E++[(bG k,jd)],_,_,_,rfl,h_ Zp (Qf.trans s4),?_,?_,by rw[e8];show E.length+1<=i+1;omega⟩
      .rw[aG,HE hd];exact PH.add (ts:=[]) he (s4 _ _ Gj) (by rw[yw];exact .nil) ay (m1 Qf gi)
      .intro cB;rw[aG,HE hd,fo,fY,mem cB];dsimp only;by_cases z:cB=bG k
       .subst z;rw[aO rfl];exact⟨λ_=>by simp,λ_=>.inr (.head _)⟩
       .rw[aJ z];exact⟨λy=>y.elim id λy=>bE (fD.mp y) z,.inl⟩
    .refine eF (eM (by rw[az];exact hd)) ?_;exact⟨E,_,_,iR,rfl,aI,by rw[aG,Uy hd];exact lI,by rw[aG,Uy hd];exact mem,by omega⟩
   .have aG:(go.take (i+1)).filter hw=(go.take i).filter hw:=by rw[aG,pO,wK,aJ (by rw[Nu];decide),abD,iW]
    refine⟨_,rfl,x,av,_,rfl,aI _ _ ao,rfl,_,rfl,x,n,g,st,gs,ls,ak,k,ss,s1,rfl,q8,ax,?_⟩;refine⟨_,rfl,_,rfl,_,_,rfl,rfl,_,rfl,?_⟩;by_cases hd:bO k<=T
    .refine fi (dU (by rw[az];exact hd)) ?_;refine⟨_,rfl,y,sI,_,rfl,aI _ _ aZ,rfl,_,rfl,x,av,_,rfl,aI _ _ ao,rfl,_,rfl,x,n,g,st,gs,ls,ak,k,ss,s1,rfl,q8,ax,_,rfl,x,av,_,rfl,aI _ _ ao,rfl,_,rfl,x,n,g,st,gs,ls,ak,k,qT,rfl,q8,cq,?_⟩;refine⟨y,lB,t,bz,a7,hs,_,kvs,s1.fK,qT,rfl,k6.same aI,G,yG G et,yG G g6,λ_ aj s2=>?_,λz=>bE (RB et g6 kA) (by rw[z];decide)⟩;rw[AR];refine⟨_,rfl,rfl,_,rfl,eF (by simp) ?_⟩;exact⟨E,_,_,_,rfl,aI.trans s2,by rw[aG];exact lI.same s2,by rw[aG];exact mem,by omega⟩
    .refine eF (eM (by rw[az];exact hd)) ?_;exact⟨E,_,_,iR,rfl,aI,by rw[aG];exact lI,by rw[aG];exact mem,by omega⟩
  .rintro σ bJ ⟨E,v1,v2,iR,rfl,aI,lI,mem,le⟩;unfold fx at lI mem;rw[bh,lY]at lI mem;exact⟨_,rfl,q p bJ E aP aI lI mem⟩
end
end fR
namespace cK
open PySem PySem.Spec PyProof.Rows ar
section
variable{X:bB}
theorem apj:iF X (.builtin "sorted") (λxs H Q=>∃(p:Addr)(ns:fh),xs=[.ref p]/\aS X.K H p (ns.map V.int)/\ns.length<64/\∀l,H l=none->Q (.ref l) (upd H l (.lst ((sortI ns).map V.int)))):=by intro pins s σ H xs us Q I r h;obtain⟨p,ns,rfl,bp,x5,q⟩:=h;obtain⟨u,rfl,eA⟩:=vals1 r;cases eA;obtain⟨its,cg,pl,hz⟩:=I.list bp;have hlen:=cg.length;rw[bh]at hlen;refine Æ (κ:=G1) (lt:=ltI ns) pl.isList (by omega) (λaf s1 x kX dk=>PK cg af dk) (λaf s1 x i j C ai aQ dV=>QA cg ai aQ dV) λD h' c hle x aC=>?_;refine⟨.ref D,_,I.laid (a:=D) (o:=.lst ((sortI ns).map V.int)) (t':=s.toks) (λb o q=>x b o q) hle ?_,rfl,q D (I.bo.fresh hle)⟩;rw[<-RD];refine⟨?_,_,c,B0 cg,aC⟩;rw[xQ];exact hz
theorem apa(aC:X.calm=true):iF X (.builtin "sorted") (λxs H Q=>∃(p:Addr)(kvs:List (br×V))(ns:fh),xs=[.ref p]/\H p=some (.cD kvs)/\kvs.map (·.1)=ns.map iX/\ns.length<64/\∀l,H l=none->Q (.ref l) (upd H l (.lst ((sortI ns).map V.int)))):=by
 intro pins s σ H xs us Q I r h;obtain⟨p,kvs,ns,rfl,aP,eS,x5,q⟩:=h;obtain⟨u,rfl,eA⟩:=vals1 r;cases eA;have dy:X.A.handled=none:=I.ok.hd aC;obtain⟨DV,lo,ys,rel,o,es,ep,aR,ao,hd,_,s8,aD⟩:=D2 I.bo aP;have cg:cp (ns.map V.int) (es.toList.map (·.key)):=by
  have gen:∀{kvs:List (br×V)}{ys:List (br×Value)}{gH:List r_}{ns:fh},gv kvs ys->Pairs (hx X.prog X.w) gH ys->kvs.map (·.1)=ns.map iX->cp (ns.map V.int) (gH.map (·.key)):=by
   intro kvs ys gH ns rel pr
   induction pr generalizing kvs ns with
   |nil=>
    intro e;cases rel;cases ns with
    |nil=>exact .nil
    |cons _ _=>cases e
   |cons ag af t bk=>
    intro e;cases rel with
    |cons a b=>
     cases ns with
     |nil=>cases e
     |cons n ns=>
      rw[gk,gk,Ub]at e;refine .cons ?_ (bk b e.2);rw[<-a.1,e.1]at ag;exact aec ag
  exact gen rel s8 eS
 have aq:=cg.length;rw[bh]at aq;have o7:kvs.length=ns.length:=by have:=e9 uf eS;simpa using this
 refine ī (κ:=G1) (lt:=ltI ns) lo dy ⟨o,aR,ao,hd⟩ rfl (by omega) (λaf s1 x kX dk=>PK cg af dk) (λaf s1 x i j C ai aQ dV=>QA cg ai aQ dV) λag D h' t c fX hle x aC=>?_;have aX:Inv X pins σ H {s with heap:=ag,toks:=t}:=I.kept (t':=t) λb o e=>fX b o e;refine⟨.ref D,_,aX.laid (a:=D) (o:=.lst ((sortI ns).map V.int)) (t':=t) (λb o q=>x b o q) hle ?_,rfl,q D (aX.bo.fresh hle)⟩;rw[<-RD];refine⟨?_,_,c,B0 cg,aC⟩;rw[xQ,bh];omega
end
end cK
namespace fR
open PySem ar cK de
theorem aeg{K:aY}{wi:TI}{cs:jj}{b3:TE}{σ rest:ar.St}{H:aa}{Q:bl}{ds:List a'}(hw:∀R:e7->aa->Prop,(∀p H1 ts,H p=none->aT H H1->H1 p=some (.lst (aW ts))->eh H1 ts ds->R (jG K p) H1)->wi σ H R)(gp:gW cs σ=none::none::rest)(aq:ds.length<sizeLine)(f:Nat->ar.V)(two:∀d∈ds,∃u v,d=[u,v])(elt:∀(i:Nat)(u v:ar.V)(aj:aa)(R:bl),ds[i]?=some [u,v]->aT H aj->(∀bY,aT aj bY->R (f i) bY)->b3 (some u::some v::rest) aj R)(fin:∀(D:Addr)(H':aa),H D=none->H' D=some (.lst ((da ds.length).map f))->aT H H'->Q (.ref D) H'):kM wi cs (wA K 2 (rI (g5 0) (rI (g5 1) zR))) px b3 σ H Q:=by
 refine hw _ λp H1 ts np s1 aP cc D ck=>?_;have ln:=cc.len;refine⟨λi m ys a_ H'=>m=ds.length-i/\i<=ds.length/\ys=(da i).map f/\(∃kI vw,a_=kI::vw::rest)/\aT H1 H'/\H' D=some (.lst ys),⟨ds.length,by simp,dM _,rfl,⟨none,none,by rw[gp]⟩,λb o e=>?_,a8⟩,?_⟩
 .rw[aL (dn e ck)];exact e
 .rintro i m ys a_ H' ⟨rfl,ai,rfl,⟨kI,vw,rfl⟩,aI,eG⟩;obtain⟨gO,hV,iu⟩:=oU (aS.of (K:=K) aP) H' aI;refine⟨eG,mx (by rw[bh,j8];omega) aq,?_⟩;rw[fO]at gO hV iu;by_cases bZ:i<ds.length
  .refine .inr ⟨hV i (by omega),λx aj y=>?_⟩;obtain⟨rfl,ex⟩:=iu i x aj (by omega) y;unfold aW at ex;rw[cM]at ex;obtain⟨t,rb,rfl⟩:=ft.mp ex;obtain⟨d,dv,hd⟩:=bX.get cc rb;have hd:=aI _ _ hd;obtain⟨u,v,rfl⟩:=two d (eQ dv);refine⟨t,_,rfl,b2.of hd,rfl,_,_,rfl,_,_,rfl,rfl,?_⟩;show b3 (some u::some v::rest) aj _;refine elt i u v aj _ dv (s1.trans aI) λbY s5=>⟨s5 _ _ eG,ds.length-(i+1),by omega,rfl,bZ,?_,⟨_,_,rfl⟩,λb ob e=>?_,a8⟩
   .rw[z3,fo];rfl
   .rw[aL (dn e ck)];exact s5 _ _ (aI _ _ e)
  .have e:i=ds.length:=by omega
   subst e;rw[ln]at gO;exact .inl ⟨gO,fin D H' (m1 s1 ck) eG (s1.trans aI)⟩
theorem D7{i:Nat}{v:ar.V}{σ:ar.St}{H:aa}{Q:ar.St->aa->Prop}(h:Q (σ.set i (some v)) H):g5 i v σ H Q:=h
theorem hY.upd{H:aa}{a l:Addr}{b:gw×List Nat}{xs ys:a'}(h:hY H a b)(aq:H l=some (.lst xs)):hY (ar.upd H l (.lst ys)) a b:=by obtain⟨c,ag,af⟩:=h;exact⟨c,by rw[aL λz=>by rw[z,aq]at ag;cases ag];exact ag,by rw[aL λz=>by rw[z,aq]at af;cases af];exact af⟩
theorem ab8(ts:b4){m:Int}(h:0<=m):wz (aW ts) none (some m)=aW (ts.take m.toNat):=by
 obtain⟨k,rfl⟩:∃k:Nat,m=(k:Int):=⟨m.toNat,by omega⟩
 unfold wz;have f1:hW.iQ (aW ts).length 0 none=0:=rfl;have f2:hW.iQ (aW ts).length (aW ts).length (some (k:Int))=min k (aW ts).length:=hW.aox (aW ts).length (aW ts).length k;rw[f1,f2,wQ,ud,lX];unfold aW;rw[bh,wM];by_cases z:k<=ts.length
 .rw[US z]
 .rw[Nat.min_eq_right (by omega),Ut (by rw[bh];exact b1 _),Ut (by rw[bh];omega)]
theorem Ì{H:aa}:∀{ts:b4}{ds:List a'}(k:Nat),eh H ts ds->eh H (ts.take k) (ds.take k)
 |_,_,0,_=>by rw[uj,uj];exact .nil
 |_,_,k+1,.nil=>.nil
 |_,_,k+1,.cons a t=>.cons a (Ì k t)
noncomputable def iI(ds:b7)(bO:Nat->Int)(bG:Nat->Nat)(T:Int)(go:bj)(r:Nat):gw×List Nat:=((T,r),z6 (kL ds r) (eI bO bG T go r))
theorem Ta(bO:Nat->Int)(bG:Nat->Nat)(T:Int)(go:bj)(r:Nat):(eI bO bG T go r).map (·.2)=go.filter λn=>decide (bO n<=T)&&decide (bG n=r):=by unfold eI;rw[fS];exact Jv _
theorem af0{bO:Nat->Int}{bG:Nat->Nat}{T:Int}{go:bj}{r:Nat}(aK:go.Nodup):(eI bO bG T go r).Nodup:=by
 have h:((eI bO bG T go r).map (·.2)).Nodup:=by rw[Ta];exact aK.filter _
 exact(oA.mp h).imp λh z=>h (by rw[z])
theorem RH{bO:Nat->Int}{bG:Nat->Nat}{T:Int}{go:bj}{r:Nat}(aK:go.Nodup)(k:Nat):(((ma (eI bO bG T go r)).take k).map (·.2)).Nodup:=by
 have h:((ma (eI bO bG T go r)).map (·.2)).Nodup:=by refine(((Gn _).map _).nodup_iff).mpr ?_;rw[Ta];exact aK.filter _
 rw[wM];exact h.sublist (pR _ _)
theorem Ip(ns:bj):fx ns=(dZ ns).map V.int:=by unfold fx dZ;rw[fS];rfl
inductive agT(K:aY)(C ec bA:Addr)(vs:a')(H:aa)(Q:bl)(bM:cE):Prop where
 |mk (x n g st gl y t bz a7:Addr) (gs:bR) (ls rs:b4) (ak:dh) (hs:bD) (ds:b7) (kvs:dt) (go:bj) (bO:Nat->Int) (bG:Nat->Nat) (T:Int) (b0:vs=[.ref n,.ref x,.ref gl,.ref y,.int T]) (bH:WalkAt C H x n g st gs ls ak) (cu:aS K H gl (fx go)) (cS:kD ec bA H y n t bz a7 (dC hs) (aW rs) kvs) (dw:hy H hs rs ds) (en:Good hs) (ha:go.length<=60) (iT:go.Nodup) (ot:(∀k∈go,I3 hs kvs gs ak bO bG k)) (v3:(∀k∈go,bG k<ds.length)) (DK:∀(l:Addr)(H':aa)(as:b4)(e5:bj),H l=none->aT H H'->H' l=some (.lst (aW as))->bX (hY H') as (e5.map (iI ds bO bG T go))->e5.Pairwise (· < ·)->(∀r,r∈e5↔eI bO bG T go r≠[])->Q (.ref l) H')
noncomputable def EN(K:aY)(C ec bA:Addr):c9:=λvs H Q bM=>agT K C ec bA vs H Q bM
inductive af1(K:aY)(C ec bA:Addr)(vs:a')(H:aa)(Q:bl)(bM:cE):Prop where
 |mk (x n g st gl y t bz a7:Addr) (gs:bR) (ls rs:b4) (ak:dh) (hs:bD) (ds:b7) (kvs:dt) (sS:bj) (hw:Nat->Bool) (go:bj) (bO:Nat->Int) (bG:Nat->Nat) (T:Int) (b0:vs=[.ref n,.ref x,.ref gl,.ref y,.int T]) (bH:go=sS.filter hw) (cu:WalkAt C H x n g st gs ls ak) (cS:aS K H gl (fx sS)) (dw:kD ec bA H y n t bz a7 (dC hs) (aW rs) kvs) (en:hy H hs rs ds) (ha:Good hs) (iT:sS.length<=60) (ot:sS.Nodup) (v3:(∀k∈sS,S_ hw hs kvs gs ak bO bG k)) (DK:(∀k∈go,bG k<ds.length)) (ä:∀(l:Addr)(H':aa)(as:b4)(e5:bj),H l=none->aT H H'->H' l=some (.lst (aW as))->bX (hY H') as (e5.map (iI ds bO bG T go))->e5.Pairwise (· < ·)->(∀r,r∈e5↔eI bO bG T go r≠[])->Q (.ref l) H')
noncomputable def JE(K:aY)(C ec bA:Addr):c9:=λvs H Q bM=>af1 K C ec bA vs H Q bM
theorem af2{K:aY}{C ec bA:Addr}{vs:a'}{H:aa}{Q:bl}{E:cE}(h:EN K C ec bA vs H Q E):JE K C ec bA vs H Q E:=by obtain⟨x,n,g,st,gl,y,t,bz,a7,gs,ls,rs,ak,hs,ds,kvs,go,bO,bG,T,rfl,W,hQ,k6,R,G,c7,GR,ok,PS,q⟩:=h;exact⟨x,n,g,st,gl,y,t,bz,a7,gs,ls,rs,ak,hs,ds,kvs,go,λ_=>true,go,bO,bG,T,rfl,(Ue.mpr λ_ _=>rfl).symm,W,hQ,k6,R,G,c7,GR,λk aE=>.inl ⟨rfl,ok k aE⟩,PS,q⟩
section
variable{P:bP}{w:bt}{K:aY}{ae:cN}{base:Heap}
noncomputable abbrev CZ:Stmt:=top 18
theorem wG:d0 ["net","walk","going","ways","turn","queues","bags","road","room","chosen"] ["net","walk","going","ways","turn"] (dx CZ):=⟨rfl,rfl,rfl,by decide+kernel,rfl,by decide+kernel,by decide+kernel⟩
inductive ah2(n x gl y p bf sl:Addr)(T:Int)(e5:bj)(ds:b7)(bO:Nat->Int)(bG:Nat->Nat)(go:bj)(H1:aa)(j:Nat)(σ:ar.St)(bJ:aa):Prop where
 |mk (as:b4) (v1 v2 iR:l2) (b0:σ=[some (.ref n),some (.ref x),some (.ref gl),some (.ref y),some (.int T),some (.ref p),some (.ref bf),v1,v2,iR]) (bH:aT H1 bJ) (cu:bJ sl=some (.lst (fx e5))) (cS:bJ bf=some (.lst (aW as))) (dw:bX (hY bJ) as ((e5.take j).map (iI ds bO bG T go)))
theorem af3{C ec bA f f1 f2:Addr}{fd eU gI:c1}(F:b6 K "bags_at" "bags_at" CZ f fd)(B:hb ae)(hh:ho K bA)(BW:dS K ae "queues_at" C4 ["walk","going","ways","turn"] f1 eU)(Ĉ:a4 P w K ae base bu 4 f1 eU ["walk","going","ways","turn"] (Kh K C ec bA))(nI:eJ K bA "road" "Net.road" tj ["self","number"] f2 gI)(uV:a4 P w K ae base bu 1 f2 gI ["self","number"] (HA bA)):
  a4 P w K ae base bu 5 f fd ["net","walk","going","ways","turn"] (JE K C ec bA):=by
 refine F.ok wG (λvs H Q E h=>?_) (λbK A outer s H vs Q E ay h=>?_)
 .obtain⟨x,n,g,st,gl,y,t,bz,a7,gs,ls,rs,ak,hs,ds,kvs,sS,hw,go,bO,bG,T,rfl,_⟩:=h;rfl
 .obtain⟨x,n,g,st,gl,y,t,bz,a7,gs,ls,rs,ak,hs,ds,kvs,sS,hw,go,bO,bG,T,rfl,LQ,W,hQ,k6,R,G,ak3,ano,ok,PS,q⟩:=h;have c7:go.length<=60:=by rw[LQ];exact hc (si _ _) ak3
  have GR:go.Nodup:=by rw[LQ];exact ano.filter _
  obtain⟨fH,aD⟩:=k6.jB.ins;refine⟨_,(bQ (dG (i:=5) wG.aK rfl (cY rfl) (f5 Ĉ (ay.mono (by decide)) (by rfl) BW.at_ BW.fn.cT BW.bd .nil dQ (aA (ah 1) (aA (ah 2) (aA (ah 3) (aA (ah 4) a5))))))
   (bQ (dG (i:=6) wG.aK rfl (cY rfl) (l_ a5))
   (bQ (kC jJ rfl (i1 (eo (apa rfl) (by rfl) B.sorted B1 (aA (ah 5) a5))) (d1 (i:=7) wG.aK rfl (cY rfl))
    (bQ (dG (i:=8) wG.aK rfl (cY rfl) (cz d5 (ib (ah 0) hh nI.gM uV (ay.mono (by decide)) nI.bd .nil dQ (aA (ah 7) a5)) bF (λ_ _=>rfl)))
   (bQ (rh (i:=9) wG.aK rfl rfl rfl (N':=["came","number"]) (cs:=[none,none]) rfl (i1 (aaz ac1 (eo aqd (by rfl) B.sorted B1 (aA (te (ju ay) (ah 5) (ah 7) (λ_ _=>rfl)) a5)) acY (CG (ah 8)))) rfl (by decide+kernel) rfl (by decide+kernel) (i2 (λp aP=>bE aP (eZ))) rfl
    (.own (.own .nil))
    (λC s3 bL cw d_=>⟨(x' (K:=K) (n:=2) rfl rfl (hK (d1 (i:=0) (by show(["came","number"]:bR).Nodup;decide+kernel) rfl (.inl rfl)) (hK (d1 (i:=1) (by show(["came","number"]:bR).Nodup;decide+kernel) rfl (.inl rfl)) oS))),mK,(ah 1)⟩))
   (b8 (ia (n4 oF oG oH mJ (ah 6) (aA (jS (aA (ah 4) (aA (ah 7) (aA (nG aps (by rfl) B.tuple G' (aA (eo apj (by rfl) B.sorted B1 (aA (ah 9) a5)) a5)) a5)))) a5)))))))
   (b8 (dE (ah 6)))))),?_⟩
  refine⟨_,rfl,_,rfl,_,rfl,_,rfl,x,n,g,st,gl,y,n,t,bz,a7,gs,ls,ak,hs,_,kvs,sS,hw,bO,bG,T,rfl,W,hQ,k6,G,(by omega),ok,λp H1 E np s1 lI mem=>?_⟩;rw[<-LQ]at lI mem;refine⟨dM _,λbf yi=>?_⟩;have s2:=cV (o:=.lst []) yi;have MK:upd H1 bf (.lst []) bf=some (.lst []):=a8;generalize upd H1 bf (.lst [])=aj at s2 MK⊢;obtain⟨ks,Fc⟩:∃ks,ks=E.map (·.1):=⟨_,rfl⟩
  have Zc:ks.Nodup:=by rw[Fc];exact lI.tl
  have eS:(lj E).map (·.1)=(dZ ks).map iX:=by rw[Fc];unfold lj dZ;rw[fS,fS,fS];rfl
  have arL:ks.length<=go.length:=by
   have af:=oO (sn:=ks) (L:=go.map bG) Zc λr ay=>by rw[Fc]at ay;obtain⟨c,aC⟩:=Es _ ((mem r).mp ay);unfold eI at aC;obtain⟨k,aE,_⟩:=cf.mp aC;obtain⟨aV,bU⟩:=gx.mp aE;simp only[kR,decide_eq_true_eq]at bU;exact cf.mpr ⟨k,aV,bU.2⟩
   rwa [bh]at af
  refine⟨_,rfl,p,lj E,dZ ks,rfl,s2 _ _ lI.tab,eS,(by unfold dZ;rw[bh];omega),λsl GY=>⟨sl,rfl,⟨_,aS.of a8⟩,?_⟩⟩;rw[<-HD,<-Ip];have s3:=cV (o:=.lst (fx (jv ks))) GY;have Nn:upd aj sl (.lst (fx (jv ks))) sl=some (.lst (fx (jv ks))):=a8;have XX:=s3 _ _ MK;have aoz:sl≠bf:=d8 (hO MK GY);generalize upd aj sl (.lst (fx (jv ks)))=bL at s3 Nn XX⊢;obtain⟨e5,uQ⟩:∃e5,e5=jv ks:=⟨_,rfl⟩
  rw[<-uQ]at Nn;have OB:∀r,r∈e5↔eI bO bG T go r≠[]:=λr=>by rw[uQ,(xP ks).mem_iff,Fc];exact mem r
  have o7:e5.length<=100:=by rw[uQ,(xP ks).length_eq];omega
  refine ta (xs:=fx (jv ks)) (ah2 n x gl y p bf sl T e5 ds bO bG go H1)
   ⟨[],none,none,none,rfl,s2.trans s3,Nn,XX,.nil⟩ (λi σ bJ _⟨_,_,_,_,_,_,h,_,_⟩=>by rw[<-uQ];exact aS.of h) ?_ ?_
  .rintro j z σ bJ dO ⟨as,v1,v2,iR,rfl,aI,YA,MM,kc⟩;rw[<-uQ]at dO;unfold fx at dO;rw[cM]at dO;obtain⟨r,d6,rfl⟩:=ft.mp dO;have Yx:=eQ d6;obtain⟨AG,X1⟩:=Es _ ((OB r).mp Yx);have asl:r<ds.length:=by unfold eI at X1;obtain⟨k,aE,_⟩:=cf.mp X1;obtain⟨aV,bU⟩:=gx.mp aE;simp only[kR,decide_eq_true_eq]at bU;rw[<-bU.2];exact PS k aV
   have PX:=s1.trans aI;have aeO:=R.same PX;have asj:=R.len;obtain⟨gq,era⟩:∃gq,rs[r]?=some gq:=⟨_,ct (by omega)⟩
   obtain⟨d,dv,qB,hd⟩:=aeO.get era;have cI:ds.getD r pj=d:=me dv;refine⟨_,rfl,n,fH,_,rfl,PX _ _ aD,rfl,_,rfl,n,bz,a7,_,_,_,_,rfl,k6.jB.same PX,(by omega),(by have:=fO rs;omega),(jo (by unfold aW;rw[cM,era];rfl)),gq,_,_,_,rfl,rfl,b2.of hd,rfl,?_⟩;have em:(d.m:Int)=kL ds r:=by unfold kL;rw[cI]
   have m0:0<=kL ds r:=by rw[<-em];have:=qB.m.1;omega
   obtain⟨cs,AX⟩:∃cs,cs=eI bO bG T go r:=⟨_,rfl⟩
   have ar3:cs.Nodup:=by rw[AX];exact af0 GR
   have lcs:cs.length<=60:=by rw[AX];have:=S' bO bG T go r;omega
   have amz:r∈E.map (·.1):=(mem r).mpr ((OB r).mp Yx);obtain⟨⟨r0,aw⟩,he,ax⟩:=cf.mp amz;have ax:r0=r:=ax;subst ax;obtain⟨_,_,ts,al6,Du⟩:=(lI.same aI).each _ he;have Du:eh bJ ts (cs.map kq):=by rw[AX];exact Du
   have ams:=(lI.same aI).tab;have Br:=h1.k (k:=iX (r0:Int)) ams;rw[Hg lI.tl he]at Br;have ao3:=Du.len;rw[bh]at ao3;obtain⟨k,WG⟩:∃k,k=(kL ds r0).toNat:=⟨_,rfl⟩
   obtain⟨ch,E_⟩:∃ch,ch=((ma cs).take k).map (·.2):=⟨_,rfl⟩
   have ar4:ch.Nodup:=by rw[E_,AX];exact RH GR k
   have ef:((ma cs).take k).length<=60:=by rw[f_];have:=(Gn cs).length_eq;omega
   refine D7 ?_;dsimp only;refine ye ?_;refine aeg (K:=K) (rest:=[]) (ds:=((ma cs).take k).map kq) (λh9 Bu=>?_) rfl (e1 (by rw[bh];omega)) (λi=>V.int ((((ma cs).take k).getD i (0,0)).2:Int)) (λd' mc=>?_) (λi u v bY h9 e' s5 cm=>?_) (λD bY n_ ck s5=>?_)
   .refine⟨_,rfl,_,rfl,p,_,rfl,Br,aw,ts,cs.map vE,true,[true],rfl,aS.of al6,ω Du,(by omega),ach cs,λgh vp=>?_⟩;obtain⟨Qq,xb,ao5⟩:=aaI Du;have s4:=cV (o:=.lst (fj V.bV (iM (cs.map vE)) (ts.map V.ref))) vp;have qo:upd bJ gh (.lst (fj V.bV (iM (cs.map vE)) (ts.map V.ref))) gh=some (.lst (aW Qq)):=by rw[a8];rw[show ts.map V.ref=aW ts from rfl,xb]
    refine⟨_,rfl,_,rfl,gh,_,rfl,aS.of qo,λfy OX=>⟨fy,rfl,⟨_,aS.of a8⟩,?_⟩⟩;rw[em,ab8 Qq m0,<-WG];refine Bu fy _ (Qq.take k) (m1 s4 OX) (s4.trans (cV OX)) a8 ?_;rw[wM];exact(Ì k (ao5.same s4)).same (cV OX)
   .obtain⟨c,_,rfl⟩:=cf.mp mc;exact⟨_,_,rfl⟩
   .rw[cM]at e';obtain⟨c,mL,az⟩:=ft.mp e';have cq:V.int (c.2:Int)=v:=by unfold kq at az;simp only[Ub]at az;exact az.2.1
    refine⟨_,rfl,?_⟩;rw[<-cq];have:=cm bY (aT.refl _);rw[me mL]at this;exact this
   have LM:(da (((ma cs).take k).map kq).length).map (λi=>V.int ((((ma cs).take k).getD i (0,0)).2:Int))=fx ch:=by rw[bh,range_getD (λc:Int×Nat=>V.int (c.2:Int)) (0,0) ((ma cs).take k),E_];unfold fx;rw[fS];rfl
   rw[LM,Ip]at ck;have ML:=s5 _ _ MM;have amV:=h8 kc;rw[bh,f_]at amV;refine⟨_,rfl,.inl ⟨rfl,_,aS.of ML⟩,_,rfl,_,rfl,_,rfl,D,dZ ch,rfl,aS.of ck,(by unfold dZ;rw[bh,E_,bh];omega),λkp Zi=>⟨kp,_,rfl,.inl ⟨aS.of a8,λc GQ=>⟨(by show 3<=sizeLine;decide),λeL vl=>⟨bf,aW as,_,rfl,rfl,cV vl _ _ (cV GQ _ _ (cV Zi _ _ ML)),e1 (by rw[fO];omega),?_⟩⟩⟩⟩⟩;rw[<-HD,<-Ip];have ip:=cV (o:=.lst (fx (jv ch))) Zi;have rk:∀b o,bY b=some o->upd bY kp (.lst (fx (jv ch))) b=some o:=ip;rw[<-HD,<-Ip]at GQ vl;generalize upd bY kp (.lst (fx (jv ch)))=lU at ip GQ vl⊢;have qF:=cV (o:=.tup (fx (jv ch))) GQ;have X3:upd lU c (.tup (fx (jv ch))) c=some (.tup (fx (jv ch))):=a8;generalize upd lU c (.tup (fx (jv ch)))=fB at qF X3 vl⊢;have pn:=cV (o:=.tup [V.int T,V.int (r0:Int),V.ref c]) vl;have X0:upd fB eL (.tup [V.int T,V.int (r0:Int),V.ref c]) eL=some (.tup [V.int T,V.int (r0:Int),V.ref c]):=a8;have X4:=pn _ _ X3;generalize upd fB eL (.tup [V.int T,V.int (r0:Int),V.ref c])=iw at pn X0 X4⊢;have Hr:=ip.trans (qF.trans pn);have XY:=Hr _ _ ML;have nb:hY iw eL (iI ds bO bG T go r0):=by
    refine⟨c,X0,?_⟩;have akJ:(iI ds bO bG T go r0).2=jv ch:=by unfold iI z6;rw[<-AX,<-WG,<-E_]
    rw[akJ];exact X4
   refine⟨as++[eL],_,_,_,rfl,h_ yi (aI.trans (s5.trans Hr)),by rw[aL aoz];exact Hr _ _ (s5 _ _ YA),by rw[a8,u_],?_⟩;rw[show e5.take (j+1)=e5.take j++[r0] by rw[mw,d6];rfl,fo];refine Paired.snoc (nb.upd XY) (bX.iN kc λa b h=>((h.same s5).same Hr).upd XY)
  .rintro σ bJ ⟨as,v1,v2,iR,rfl,aI,YA,MM,kc⟩;rw[<-uQ]at kc;unfold fx at kc;rw[bh,lY]at kc;exact⟨_,rfl,q bf bJ as e5 (m1 s1 yi) (s1.trans aI) MM kc (by rw[uQ];exact Se Zc) OB⟩
theorem agD{C ec bA f:Addr}{fd:c1}{ps:bR}(F:a4 P w K ae base bu 5 f fd ps (JE K C ec bA)):a4 P w K ae base bu 5 f fd ps (EN K C ec bA):=F.imp λ_ _ _ _ h=>af2 h
noncomputable def aor:Step:=⟨0,none,kZ,0⟩
noncomputable def tw(ss:List Step):Step:=ss.getLastD aor
noncomputable def fc(ak:dh)(n:Nat):Step:=tw (ak.getD n [])
noncomputable def gX(ak:dh)(n:Nat):Int:=(fc ak n).bO
noncomputable def g8(gs:bR)(n:Nat):Str:=gs.getD n kZ
noncomputable def e4(kvs:dt)(gs:bR)(ak:dh)(n:Nat):Nat:=(iH kvs (fc ak n).fK (g8 gs n)).getD 0
theorem Α{ss:List Step}(h:ss≠[]):∃i,ss=i++[tw ss]:=by refine⟨ss.dropLast,?_⟩;unfold tw;rw[abH,List.getLast?_eq_getLast h];exact(List.dropLast_concat_getLast h).symm
theorem yh{α:Type}{l:List α}{i:Nat}{d:α}(h:i<l.length):l[i]?=some (l.getD i d):=by rw[dr,ct h];rfl
noncomputable def nP(m:Nat)(bO:Nat->Int)(bG:Nat->Nat)(T:Int)(go:bj):List Nat:=(da m).filter λr=>!(eI bO bG T go r).isEmpty
noncomputable def vW(ds:b7)(bO:Nat->Int)(bG:Nat->Nat)(T:Int)(go:bj):List (gw×List Nat):=(nP ds.length bO bG T go).map (iI ds bO bG T go)
theorem ab9{m:Nat}{bO:Nat->Int}{bG:Nat->Nat}{T:Int}{go:bj}(bZ:∀k∈go,bG k<m){e5:bj}(up:e5.Pairwise (· < ·))(mem:∀r,r∈e5↔eI bO bG T go r≠[]):e5=nP m bO bG T go:=by
 have Θ:(nP m bO bG T go).Pairwise (· < ·):=z2.filter _;have GK:∀r,r∈nP m bO bG T go↔eI bO bG T go r≠[]:=λr=>by
  unfold nP;rw[gx];constructor
  .rintro⟨_,h⟩ e;rw[e]at h;cases h
  .intro h;obtain⟨c,aC⟩:=Es _ h;refine⟨jH.mpr ?_,?_⟩
   .unfold eI at aC;obtain⟨k,aE,_⟩:=cf.mp aC;obtain⟨aV,bU⟩:=gx.mp aE;simp only[kR,decide_eq_true_eq]at bU;rw[<-bU.2];exact bZ k aV
   .cases e:eI bO bG T go r with
    |nil=>exact bE e h
    |cons _ _=>rfl
 refine Tw (R:=(· < ·)) (λa b ag af=>by omega) ((List.perm_ext_iff_of_nodup (up.imp λh=>dP h) (Θ.imp λh=>dP h)).mpr λr=>?_) up Θ;rw[mem r,GK r]
theorem qq{ds:b7}{bO:Nat->Int}{bG:Nat->Nat}{T:Int}{go:bj}{r i:Nat}(h:i∈(iI ds bO bG T go r).2):i∈go/\bO i<=T/\bG i=r:=by unfold iI z6 at h;have ag:=(xP _).mem_iff.mp h;obtain⟨c,aC,rfl⟩:=cf.mp ag;have af:=(Gn _).mem_iff.mp (Ex aC);unfold eI at af;obtain⟨k,aE,rfl⟩:=cf.mp af;obtain⟨aV,bU⟩:=gx.mp aE;simp only[kR,decide_eq_true_eq]at bU;exact⟨aV,bU.1,bU.2⟩
theorem af4{ds:b7}{bO:Nat->Int}{bG:Nat->Nat}{T:Int}{go:bj}(aK:go.Nodup)(r:Nat):(iI ds bO bG T go r).2.Nodup:=((xP _).nodup_iff).mpr (RH aK _)
theorem Uz{ds:b7}{bO:Nat->Int}{bG:Nat->Nat}{T:Int}{go:bj}{r:Nat}(hm:1<=kL ds r)(h:eI bO bG T go r≠[]):(iI ds bO bG T go r).2≠[]:=λe=>by have gh:=e9 uf e;unfold iI z6 at gh;rw[(xP _).length_eq,bh,f_,(Gn _).length_eq]at gh;have fy:=ug.mpr h;simp only[sj]at gh;omega
noncomputable def la(hs:bD)(ds:b7)(bs:kb)(ak:dh):List (List Step):=bs.foldl (λs b=>iG (stepK hs ds b.1) b.2 s) ak
theorem vc(hs:bD)(ds:b7):∀(bs:kb)(ak:dh),(la hs ds bs ak).length=ak.length
 |[],_=>rfl
 |b::bs,ak=>by show(la hs ds bs (iG (stepK hs ds b.1) b.2 ak)).length=_;rw[vc hs ds bs,Cb]
theorem Hh(hs:bD)(ds:b7):∀(bs:kb)(ak:dh)(i:Nat),(la hs ds bs ak)[i]?=(ak[i]?).map λss=>ss++((bs.filter λb=>decide (i∈b.2)).map λb=>stepK hs ds b.1)
 |[],ak,i=>by show ak[i]?=_;cases ak[i]?<;>simp
 |b::bs,ak,i=>by
  show(la hs ds bs (iG (stepK hs ds b.1) b.2 ak))[i]?=_;rw[Hh hs ds bs,va,Option.map_map];congr 1;funext ss;show(if i∈b.2 then ss++[stepK hs ds b.1]else ss)++_=_;rw[wK];by_cases z:i∈b.2
  .rw[aO z,aO (dU z),gk,iV];rfl
  .rw[aJ z,aJ (by rw[eM z];decide)]
theorem Í(hs:bD)(ds:b7)(bs:kb)(b:gw×List Nat)(ak:dh):la hs ds (bs++[b]) ak=iG (stepK hs ds b.1) b.2 (la hs ds bs ak):=by unfold la;rw[List.foldl_append];rfl
theorem Ł{L:bj}(aK:L.Nodup){p:Nat->Bool}{r0:Nat}(h:∀r∈L,p r=true->r=r0)(h0:p r0=true->r0∈L):L.filter p=if p r0=true then[r0]else[]:=by
 by_cases z:p r0=true
 .rw[aO z];have gY:=aK.filter p;have all:∀r∈L.filter p,r=r0:=λr ay=>h r (gx.mp ay).1 (gx.mp ay).2;have m0:r0∈L.filter p:=gx.mpr ⟨h0 z,z⟩
  match e:L.filter p with
  |[]=>rw[e]at m0;exact bE m0 eZ
  |[a]=>rw[e]at all;rw[all a (.head _)]
  |a::b::l=>
   rw[e]at all gY;have:=(jf.mp gY).1;exact bE (by rw[all a (.head _),all b (.tail _ (.head _))];exact .head _) this
 .rw[aJ z];refine List.filter_eq_nil_iff.mpr λr ay aP=>z ?_;rw[<-h r ay aP];exact aP
noncomputable def zc(ds:b7)(bO:Nat->Int)(bG:Nat->Nat)(T:Int)(go:bj)(i:Nat):Bool:=decide (i∈(iI ds bO bG T go (bG i)).2)
theorem RI{ds:b7}{bO:Nat->Int}{bG:Nat->Nat}{T:Int}{go:bj}(bZ:∀k∈go,bG k<ds.length)(i:Nat):(vW ds bO bG T go).filter (λb=>decide (i∈b.2))=if zc ds bO bG T go i=true then[iI ds bO bG T go (bG i)]else[]:=by
 unfold vW;rw[z0];have aK:(nP ds.length bO bG T go).Nodup:=(z2.filter _).imp λh=>dP h;rw[Ł (r0:=bG i) aK (p:=(λb:gw×List Nat=>decide (i∈b.2))∘iI ds bO bG T go) (λr _ aP=>((qq (kJ aP)).2.2).symm) (λaP=>?_)]
 .show Ju _ (if zc ds bO bG T go i=true then[bG i]else[])=_;cases zc ds bO bG T go i<;>rfl
 .have m:=qq (kJ aP);unfold nP;refine gx.mpr ⟨jH.mpr (bZ i m.1),?_⟩;have hm:(bO i,i)∈eI bO bG T go (bG i):=by unfold eI;refine cf.mpr ⟨i,gx.mpr ⟨m.1,?_⟩,rfl⟩;rw[dU m.2.1,dU rfl];rfl
  cases e:eI bO bG T go (bG i)with
  |nil=>rw[e]at hm;exact bE hm eZ
  |cons _ _=>rfl
noncomputable abbrev P4:Stmt:=i8 (top 6) 0
theorem ah3:d0 ["self","reason","seen"] ["self","reason","seen"] (dx P4):=⟨rfl,rfl,rfl,by decide+kernel,rfl,by decide+kernel,by decide+kernel⟩
theorem agG{C R f:Addr}{fd:c1}(F:b6 K "__init__" "NoWay.__init__" P4 f fd)(B:hb ae)(iS:p2 K ae "RoadError" C R)(Gr:ae "RoadError"=some (.ref R))(ag:dg K (.ref C) "reason"=some none)(af:dg K (.ref C) "seen"=some none):a4 P w K ae base bu 1 f fd ["self","reason","seen"] (EU C):=by
 refine F.ok ah3 (λvs H Q E h=>?_) (λbK A outer s H vs Q E ay h=>?_)
 .obtain⟨e,s,v,zs,rfl,_⟩:=h;rfl
 .obtain⟨e,s,v,zs,rfl,he,hs,q⟩:=h;refine⟨_,(bQ (ia (aa5 (by rfl) Gr iS.bG iS.L7 iS.d7 (aA (ah 0) (aA o4 a5))))
   (bQ (Ti (y:="RoadError") (R:=R) (ah 0) (ah 1) rfl)
   (b8 (Ti (y:="RoadError") (R:=R) (ah 0) (nG sG (by rfl) B.list nM (aA (ah 2) a5)) rfl)))),?_⟩
  refine⟨_,rfl,e,C,_,rfl,he,iS,(by show 1<=sizeLine;decide),?_⟩;refine⟨_,rfl,_,rfl,e,C,rfl,iS,ag,.inl ⟨he,λav aK vm=>?_⟩⟩;have amF:s≠e:=λz=>by rw[z,he]at hs;cases hs
  have amE:s≠av:=λz=>by rw[z,aK]at hs;cases hs
  refine⟨_,rfl,s,zs,rfl,.inl (aS.of (by rw[aL amF,aL amE];exact hs)),λl nl=>?_⟩;have ym:l≠e:=λz=>by rw[z,a8]at nl;cases nl
  rw[aL ym]at nl;have GV:l≠av:=λz=>by rw[z,a8]at nl;cases nl
  rw[aL GV]at nl;refine⟨_,rfl,e,C,rfl,iS,af,.inr ⟨av,[("reason",v)],?_,?_,(by show 1<100;decide),?_⟩⟩
  .rw[aL (d8 ym)];exact a8
  .rw[aL (d8 GV),aL vm];exact a8
  refine q av l _ aK nl (d8 GV) (λb o U jw=>?_) ?_ ?_ ?_
  .rw[aL (λz=>by rw[z,aK]at U;cases U),aL (λz=>by rw[z,nl]at U;cases U),aL jw,aL (λz=>by rw[z,aK]at U;cases U)];exact U
  .rw[aL (d8 vm),aL (d8 ym)];exact a8
  .exact a8
  .rw[aL GV];exact a8
noncomputable abbrev C6:Stmt:=i8 (top 34) 4
noncomputable abbrev ang:List Str:=["self","house","goal","taken","seen","number","come_to"]
theorem Aa:d0 ang ["self","house","goal"] (dx C6):=⟨rfl,rfl,rfl,by decide+kernel,rfl,by decide+kernel,by decide+kernel⟩
theorem agH{C bA fq nu hr R f f1 f2 nN:Addr}{fd eU gI WY:c1}(F:b6 K "route" "Ways.route" C6 f fd)(cH:o_ K C)(hh:ho K bA)(p4:eJ K bA "need_house" "Net.need_house" yX ["self","house"] f1 eU)(uC:a4 P w K ae base (gP P w) 1 f1 eU ["self","house"] (Io bA fq))(nI:eJ K bA "road" "Net.road" tj ["self","number"] f2 gI)(uV:a4 P w K ae base (gP P w) 1 f2 gI ["self","number"] (Q' bA nu))(Cx:p2 K ae "RoadError" hr R)(vd:ae "NoWay"=some (.ref hr))(Sm:pX K (.ref hr)=true)(Sn:dg K (.ref hr) "__init__"=some (some (.ref nN)))(So:hu K (.ref nN)=true)(Gs:a4 P w K ae base bu 1 nN WY ["self","reason","seen"] (EU hr))(Sp:Binds K WY ["self","reason","seen"] []):
  a4 P w K ae base (r8 P w) 3 f fd ["self","house","goal"] (Kd C bA fq hr):=by
 refine anW F Aa (λvs H Q E h=>?_) (λbK A outer s H vs Q E ay h=>?_)
 .obtain⟨x,n,t,bz,a7,hs,rs,ds,kvs,h',g',rfl,_⟩:=h;rfl
 .obtain⟨x,n,t,bz,a7,hs,rs,ds,kvs,h',g',rfl,W,G,cF,tab,q,lH⟩:=h;obtain⟨av,ao⟩:=W.ins;obtain⟨fH,aD⟩:=W.jB.ins;refine⟨_,(bQ (ia (ib (hA (ah 0) (by rfl)) hh p4.gM uC (ay.mono (by decide)) p4.bd .nil QJ (aA (ah 1) a5)))
   (bQ (ia (ib (hA (ah 0) (by rfl)) hh p4.gM uC (ay.mono (by decide)) p4.bd .nil QJ (aA (ah 2) a5)))
   (bQ (dG (i:=3) Aa.aK rfl (cY rfl) (l_ a5))
   (bQ (dG (i:=4) Aa.aK rfl (cY rfl) (l_ (aA (ah 1) a5)))
   (bQ (G5 PassesOwn.leaving (fP tq (cz gS (ah 4) (DU Dp bF) (λ_ _=>rfl)) (ah 2) (eD _))
    (bQ (dG (i:=5) Aa.aK rfl (cY rfl) (G9 (ju ay) (hA (ah 0) (by rfl)) (jS (aA (cz gS (ah 4) (DU Dp bF) (λ_ _=>rfl)) (aA (ah 2) a5))) ⟨rfl,rfl,rfl,rfl⟩))
   (bQ (gd (fP Dq (ah 5) l' (eD _)) (b8 (À Cx vd Sm Sn So Gs (ay.mono (by decide)) Sp rfl (aA o4 (aA (ah 4) a5)))) gb)
   (bQ (dG (i:=6) Aa.aK rfl (cY rfl) (cz d5 (ib (hA (ah 0) (by rfl)) hh nI.gM uV (ay.mono (by decide)) nI.bd .nil QJ (aA (ah 5) a5)) bF (λ_ _=>rfl)))
   (bQ (gd (fP Pt (ah 6) (ah 4) (by rfl)) (b8 (À Cx vd Sm Sn So Gs (ay.mono (by decide)) Sp rfl (aA o4 (aA (cZ afb (ah 4) (l_ (aA (ah 6) a5))) a5)))) gb)
   (bQ (ia (n4 oF oG oH mJ (ah 3) (aA (ah 5) a5)))
   (b8 (ia (n4 oF oG oH mJ (ah 4) (aA (ah 6) a5))))))))))
   (b8 (dE (ah 3)))))))),?_⟩
  refine⟨_,rfl,x,C,av,_,_,rfl,ao,cH.cl,cH.nn,rfl,n,fH,_,rfl,aD,rfl,_,rfl,n,bz,a7,hs,_,h',rfl,W.jB,λeO=>?_,λmQ=>lH (.inl mQ)⟩;refine⟨_,rfl,x,C,av,_,_,rfl,ao,cH.cl,cH.nn,rfl,n,fH,_,rfl,aD,rfl,_,rfl,n,bz,a7,hs,_,g',rfl,W.jB,λhD=>?_,λmQ=>lH (.inr mQ)⟩;refine⟨dM _,λil n'=>⟨_,rfl,(by show 1<=sizeLine;decide),λjb Cw=>?_⟩⟩;have q:=q eO hD;have s3:=cV (o:=.lst []) n';have s4:=cV (o:=.lst [V.str h']) Cw;have OH:jb≠il:=λz=>by rw[z,a8]at Cw;cases Cw
  have anb:H jb=none:=by rw[aL OH]at Cw;exact Cw
  refine⟨λm σ bJ=>∃(c:Str)(sn:bR)(aG:bj)(nd v6:l2),σ=[some (.ref x),some (.str h'),some (.str g'),some (.ref il),some (.ref jb),nd,v6]/\aT H bJ/\bJ il=some (.lst (nats aG))/\bJ jb=some (.lst (og sn))/\
   ar.f3 (og sn) (-1)=some (.str c)/\(∀y∈sn,y∈hs.map S)/\sn.Nodup/\J' hr (pa kvs hs ds g' m c sn aG) H Q E/\m+sn.length=14/\aG.length+1=sn.length,⟨13,h',[h'],[],none,none,rfl,s3.trans s4,s4 _ _ a8,a8,rfl,?_,?_,q,rfl,rfl⟩,?_⟩
  .intro y aZ;rw[fD.mp aZ];exact eO
  .exact jf.mpr ⟨eZ,pQ⟩
  rintro m σ bJ ⟨c,sn,aG,nd,v6,rfl,aI,aV,bU,last,sub,aK,q,hm,aq⟩;have YQ:sn.length<=12:=by have:=oO aK sub;rw[bh]at this;exact hc this G.c7
  obtain⟨m,rfl⟩:∃c5,m=c5+1:=⟨m-1,by omega⟩
  have arA:(og sn).length=sn.length:=bh _;refine⟨_,rfl,_,rfl,jb,_,_,_,rfl,rfl,aS.of bU,last,_,rfl,rfl,_,rfl,?_⟩;unfold pa at q;by_cases ql:c=g'
  .rw[aO ql]at q;refine eF (by rw[ql];simp) ⟨_,rfl,q il bJ n' aI aV⟩
  rw[aJ ql]at q;refine fi (by simp[ql]) ⟨_,λa_ H' h=>⟨m,sq _,h⟩,?_⟩;have Ny:=aI _ _ ao;refine⟨_,rfl,x,C,av,_,_,rfl,Ny,cH.cl,cH.el,rfl,t,rfl,.inr ⟨kvs,.inl (aI _ _ W.told)⟩,_,rfl,_,rfl,jb,_,_,_,rfl,rfl,aS.of bU,last,_,rfl,(by show 2<=sizeLine;decide),λr gi=>⟨_,h1.t (k:=d3 c g') ((cV gi) _ _ (aI _ _ W.told)) a8,?_⟩⟩;have mn:=cV (o:=.tup [V.str c,V.str g']) gi;have j3:=aI.trans mn;have oW:=mn _ _ aV;have Bs:=mn _ _ bU;generalize upd bJ r (.tup [V.str c,V.str g'])=H1 at mn j3 oW Bs⊢;rcases tab.get c g' with⟨ax,az⟩|⟨i,ax,az,ai⟩
  .rw[az]at q;rw[ax];exact⟨_,rfl,rfl,_,rfl,fi (by decide) ⟨_,rfl,(by show 2<=sizeLine;decide),λe ne=>VE q j3 Bs ne⟩⟩
  .rw[az]at q;rw[ax];refine⟨_,rfl,rfl,_,rfl,eF (by simp) ?_⟩;obtain⟨cB,d6⟩:∃cB,rs[i]?=some cB:=⟨_,ct (by rw[cF.len];exact ai)⟩
   obtain⟨d,dv,akE,Gg⟩:=cF.get d6;have rb:hR hs ds i=S (hs.getD d.b []):=by unfold hR;rw[rz dv]
   have L0:ar.f3 (aW rs) (i:Int)=some (.ref cB):=jo (by unfold aW;rw[cM,d6];rfl);refine⟨_,rfl,x,C,av,_,_,rfl,j3 _ _ ao,cH.cl,cH.nn,rfl,n,fH,_,rfl,j3 _ _ aD,rfl,_,rfl,n,bz,a7,_,_,(i:Int),rfl,W.jB.same j3,λ_=>⟨_,L0,?_⟩,λmQ=>bE ⟨by omega,by rw[fO,cF.len];omega⟩ mQ⟩;refine⟨cB,_,_,_,rfl,rfl,b2.of (j3 _ _ Gg),rfl,?_⟩;simp only[rb]at q;have GK:S (hs.getD d.b [])∈hs.map S:=cf.mpr ⟨_,getD_mem' akE.b,rfl⟩;generalize S (hs.getD d.b [])=dp at q GK⊢;refine⟨_,rfl,_,rfl,jb,_,rfl,.inl (aS.of Bs),rfl,GO _,_,rfl,?_⟩;by_cases iK:dp∈sn
   .rw[aO iK]at q;refine fi (Hx iK) ⟨_,rfl,_,rfl,(by show 1<=sizeLine;decide),λaof Y'=>⟨jb,aof,_,_,rfl,rfl,(cV Y') _ _ Bs,a8,pT (e1 (by show(og sn).length+1<=1000;omega)),λZM tk=>⟨(by show 2<=sizeLine;decide),λe ne=>VE q (j3.trans ((cV Y').trans (cV tk))) (by rw[a8];unfold og;rw[fo];rfl) ne⟩⟩⟩
   .rw[aJ iK]at q;refine eF (τ iK) ?_;have arB:(nats aG).length=aG.length:=bh _;refine⟨_,rfl,.inl ⟨rfl,_,aS.of oW⟩,_,rfl,il,_,_,rfl,rfl,oW,e1 (by omega),?_⟩;have Xs:upd H1 il (.lst (nats aG++[V.int (i:Int)])) jb=some (.lst (og sn)):=by rw[aL OH];exact Bs
    refine⟨_,rfl,.inl ⟨rfl,_,aS.of Xs⟩,_,rfl,jb,_,_,rfl,rfl,Xs,e1 (by omega),?_⟩;refine⟨dp,sn++[dp],aG++[i],_,_,rfl,h_ anb (h_ n' j3),?_,?_,?_,?_,?_,q,?_,?_⟩
    .rw[aL (d8 OH),a8];unfold nats;rw[fo];rfl
    .rw[a8];unfold og;rw[fo];rfl
    .exact ó sn dp
    .intro y aZ;rcases fY.mp aZ with aZ|aZ
     .exact sub y aZ
     .rw[fD.mp aZ];exact GK
    .exact GB aK iK
    .rw[e8];show m+(sn.length+1)=14;omega
    .rw[e8,e8];show aG.length+1+1=sn.length+1;omega
end
end fR
namespace cK
open PySem PySem.Spec PyProof.Rows ar
noncomputable def agI(K:aY)(c0:E0)(R:Addr)(ts:e0):e0:=λD σ H=>c0 D (λa_ cls cR H'=>∃C av,cls=.ref C/\cR=some av/\rC K C R=true/\∀bw,H' bw=none->ts D a_ (upd H' bw (L3 bw C av))) σ H
theorem aeh{X:bB}{st w4:Stmt}{Di:List Stmt}{x:Str}{np amw pos:Pos}{c0:E0}{ts:e0}{R:Addr}(Gh:X.stack=X.env::X.outer)(alU:X.env.frame=some X.env.locals)(U:U9 X st c0)(bx:kv X x)(hm:X.ae x=some (.ref R))(cF:rC X.K R R=true)(amG:∀bw,hI (Ht X bw) (w4::Di) ts)(kj:(x==("__debug__":Str))=false:=by decide):g0 X (.Try [st] [.ExceptHandler (some (.Name x np)) none (w4::Di) amw] [] [] pos) (agI X.K c0 R ts):=by
 intro pins s σ H D I h;refine wpAny_Try_except (Ú (e6 (U pins s σ H D _ I h) (λf s1 q=>?_) λe s1 q=>?_))
 .cases f with
  |next=>exact DE (DE q)
  |ret v=>exact q
  |brk=>exact q
  |cont=>exact q
 .obtain⟨r2,bJ,sc,bw,cls,a0,H',B,cR,rfl,TH,T,lk,C,av,rfl,rfl,nX,k⟩:=q;obtain⟨o0,amg,alK⟩:=lk av rfl;have BE:X.A.frames=some (X.env::X.outer):=by rw[<-Gh];exact I.ok.frames
  have Xc:=T.fI;rw[Gh]at Xc;refine adw BE alU Xc λbU alQ apd aoA=>adX alQ λdq Ma QK aoB=>?_;have Xd:=Ma;rw[<-Gh]at Xd;have Av:=T.move Xd (apd.trans QK);have je:Inv X pins r2 H' {s1 with heap:=dq}:=TH.LC (s':={s1 with heap:=dq}) (ch:=[]) Av.os Av.un Av.bo Av.bare (λb z=>bE z (by simp));obtain⟨ob,u3,ami⟩:=Ma.there;refine wpAny_handleBy_cons (codeAny_handlers_test (lw (X:=Ht X bw) (cK.Inv.Di je bw) bx hm (ac8 je.fb nX cF u3 ami ?_) kj)) (by intro q;cases q);refine codeAny_handlers_suite (adb Ma λrk Xe ape aoC=>?_);have Xf:=Xe;rw[<-Gh]at Xf;have pZ:=Av.move Xf ape;obtain⟨O6,v6,Yq,X2,Ya,_⟩:=Xe.first;have X6:O6.dict=some av:=(((aoA.trans aoB).trans aoC).dict amg Yq).trans alK;have al5:rk.get? bw=some ⟨.ref C,some av,.fields v6,O6.slots⟩:=by rw[Yq];obtain⟨c,d,lb,sl⟩:=O6;dsimp only at X2 Ya X6;rw[X2,Ya,X6]
  have old:∀b o,sc.heap.get? b=some o->b≠bw:=λb o e=>T.anG e;have hU:=T.new;have t8:Inv X pins r2 (upd H' bw (L3 bw C av)) {s1 with heap:=rk}:=by
   refine TH.LC (s':={s1 with heap:=rk}) (ch:=[]) pZ.os ⟨pZ.un.keep,pZ.un.slot,λb o e lB ao=>by rw[aL (old b o e)];exact pZ.un.free b o e lB ao,pZ.un.there,λb xs e=>?_,λb o u e=>?_,λb ps e=>?_⟩ ?_ pZ.bare (λb z=>bE z (by simp))
   .have:=pZ.un.ir b xs e;rw[aL (dn this hU)];exact this
   .have:=pZ.un.jt b o u e;rw[aL (dn this hU)];exact this
   .obtain⟨m,this⟩:=pZ.un.j5 b ps e;exact⟨m,by rw[aL (dn this hU)];exact this⟩
   .intro b u e;by_cases c2:b=bw
    .subst c2;rw[a8]at e;cases e;exact afx al5
    .rw[aL c2]at e;exact(pZ.bo b u e).oj (λc v _ q=>q) (λc q=>by rw[aL (dn q hU)];exact q) λc xs q=>by rw[aL (dn q hU)];exact q
  refine e6 (amG bw pins _ _ _ _ (cK.Inv.Di t8 bw) (k bw hU)) (λak4 pn Hd=>?_) λ_ _ z=>h7 z;cases ak4 with
  |next=>obtain⟨ou,iw,mv,q⟩:=Hd;exact⟨ou,iw,Inv.HZ I.ok.hd mv,q⟩
  |brk=>obtain⟨ou,iw,mv,q⟩:=Hd;exact⟨ou,iw,Inv.HZ I.ok.hd mv,q⟩
  |cont=>obtain⟨ou,iw,mv,q⟩:=Hd;exact⟨ou,iw,Inv.HZ I.ok.hd mv,q⟩
  |ret u=>obtain⟨lP,ou,iw,mv,PI,q⟩:=Hd;exact⟨lP,ou,iw,Inv.HZ I.ok.hd mv,PI,q⟩
section
variable{X:bB}{e o:Expr}{es:gm}{pos fE p:Pos}{k:Nat}{f C:Addr}{fd:c1}{ps:bR}{sp:c9}{cb:TE}{t:gF}{m x:Str}
theorem aei{pl:Sem Bool}(he:bN X.vr o cb)(c:ho X.K C)(hm:Meth X.K C m f)(F:a4 X.prog X.w X.K X.ae X.base (r8 X.prog X.w) k f fd ps sp)(ay:gf k X.A)(U:Binds X.K fd ps [])(aH:ht X.vr (e::es) t)(mT:eb (e::es) X.env=(false,eval e X.env)::eb es X.env:=by rfl)(fW:(hL pos (eb es X.env)).any (·.1)=false:=by rfl)(cO:eval (.Call (.Attribute o m fE) (e::es) [] pos) X.env=(do
   let eH <-eval o X.env
   tH fE.atName
   let(f,first) <-nV [eH] (xr eH m pl)
   AJ pos f first (hL pos (eb (e::es) X.env)) (sE pos (tg [] X.env))):=by rfl):
  U8 X (.Call (.Attribute o m fE) (e::es) [] pos) (aeZ C m sp cb t):=by intro pins s σ H Q E I h;refine EJ (pl:=pl) (Zk (X:=X) (pins:=pins) (bS (he pins s σ H _ (I.ng _) h) λu s1⟨x,H1,aX,bC,a,av,fs,ex,bw,l,q⟩=>?_)) cO;subst ex;obtain rfl:u=dA a:=bC;have aX:=aX.pC;refine Gy aX bw c hm l ?_;refine EH (first:=[.ref a]) (h₀:=X.base) I.ok.mod.th hm.cT (Zk (X:=X) (pins:=pins) (bS (aH pos pins s1 σ H1 _ (aX.ng _) q) λus s2⟨vs,aj,bT,r,cj⟩=>⟨bT.pC.fb,?_⟩)) mT fW;refine adv (us:=.ref a::us) (vs:=.ref a::vs) F ay U bT.pC (.cons rfl r) ?_;have ZH:sp (V.ref a::(vs++[])) aj Q E:=cj;rw[iW]at ZH;exact ZH
end
end cK
namespace fR
open PySem ar cK de
noncomputable def Ki:Out->Bool
 |.ok _=>true
 |.no _ _=>false
noncomputable def mU(kvs:dt)(hs:bD)(ds:b7)(d:nA):Bool:=Ki (pa kvs hs ds d.2.2 13 d.1 [d.1] [])
inductive agJ(C bA:Addr)(vs:a')(H:aa)(Q:bl)(bM:cE):Prop where
 |mk (lt x n t bz a7:Addr) (hs:bD) (rs:b4) (ds:b7) (kvs:dt) (d:nA) (b0:vs=[.ref lt,.ref x]) (bH:H lt=some (.tup (qu d))) (cu:kD C bA H x n t bz a7 (dC hs) (aW rs) kvs) (cS:Good hs) (dw:hy H hs rs ds) (en:ji kvs ds.length) (ha:d.1∈hs.map S) (iT:d.2.2∈hs.map S) (ot:∀H',aT H H'->Q (.bf (mU kvs hs ds d)) H')
noncomputable def EO(C bA:Addr):c9:=λvs H Q bM=>agJ C bA vs H Q bM
section
variable{P:bP}{w:bt}{K:aY}{ae:cN}{base:Heap}
noncomputable abbrev yM:Stmt:=top 15
theorem ah4:d0 ["letter","ways"] ["letter","ways"] (dx yM):=⟨rfl,rfl,rfl,by decide+kernel,rfl,by decide+kernel,by decide+kernel⟩
theorem agK{C bA fq hr f f1:Addr}{fd eU:c1}(F:b6 K "has_route" "has_route" yM f fd)(kf:ho K C)(XN:rC K hr hr=true)(vd:ae "NoWay"=some (.ref hr))(Gu:eJ K C "route" "Ways.route" C6 ["self","house","goal"] f1 eU)(Om:a4 P w K ae base (r8 P w) 3 f1 eU ["self","house","goal"] (Kd C bA fq hr)):
  a4 P w K ae base bu 4 f fd ["letter","ways"] (EO C bA):=by
 refine F.ok ah4 (λvs H Q E h=>?_) (λbK A outer s H vs Q E ay h=>?_)
 .obtain⟨lt,x,n,t,bz,a7,hs,rs,ds,kvs,d,rfl,_⟩:=h;rfl
 .obtain⟨lt,x,n,t,bz,a7,hs,rs,ds,kvs,d,rfl,bZ,W,G,cF,tab,eO,hD,q⟩:=h;obtain⟨av,ao⟩:=W.ins;refine⟨_,(bQ (aeh rfl rfl (aa8 (aei (ah 1) kf Gu.gM Om (ay.mono (by decide)) Gu.bd (aA (cz d5 (ah 0) bF (λ_ _=>rfl)) (aA (cz d5 (ah 0) bF (λ_ _=>rfl)) a5)))) rfl vd XN (λbw=>(b8 (dE kE))))
   (b8 (dE kE))),?_⟩
  refine⟨_,rfl,x,av,_,rfl,ao,rfl,_,rfl,lt,_,_,_,rfl,rfl,b2.of bZ,rfl,_,rfl,lt,_,_,_,rfl,rfl,b2.of bZ,rfl,x,n,t,bz,a7,hs,rs,ds,kvs,d.1,d.2.2,rfl,W,G,cF,tab,λ_ _=>?_,λmQ=>mQ.elim (λz=>bE eO z) λz=>bE hD z⟩;unfold mU at q;cases Zw:pa kvs hs ds d.2.2 13 d.1 [d.1] []with
  |ok aG=>
   rw[Zw]at q;intro l H' nl sl aq;exact q H' sl
  |no why sn=>
   rw[Zw]at q;intro av l H' aK nl GS aI BB aq;refine⟨hr,av,rfl,rfl,XN,λbw alO=>?_⟩;exact q _ (aI.trans (cV alO))
inductive hZ(kvs:dt)(hs:bD)(ds:b7)(g:Str):Str->List Nat->Prop
 |s7:hZ kvs hs ds g g []
 |on {h:Str} {k:Nat} {aG:bj}:h≠g->iH kvs h g=some k->k<ds.length->hZ kvs hs ds g (hR hs ds k) aG->hZ kvs hs ds g h (k::aG)
end
theorem Β{kvs:dt}{hs:bD}{ds:b7}(R:∀d∈ds,d.Ok hs.length)(T:ji kvs ds.length)(c7:hs.length<=12){g:Str}:∀(n:Nat)(c:Str)(sn:bR)(aG out:bj),n+sn.length=14->sn.Nodup->(∀y∈sn,y∈hs.map S)->
  pa kvs hs ds g n c sn aG=.ok out->∃gD,out=aG++gD/\hZ kvs hs ds g c gD/\gD.length+sn.length<=12
 |0,c,sn,aG,out,aD,aK,sub,e=>by have:=oO aK sub;rw[bh]at this;omega
 |n+1,c,sn,aG,out,aD,aK,sub,e=>by
  have YQ:=oO aK sub;rw[bh]at YQ;unfold pa at e;by_cases z:c=g
  .rw[aO z]at e;cases e;subst z;exact⟨[],by rw[iW],.s7,by show 0+sn.length<=12;omega⟩
  .rw[aJ z]at e;rcases T.get c g with⟨_,w⟩|⟨k,_,w,o7⟩
   .rw[w]at e;cases e
   .rw[w]at e;by_cases m:hR hs ds k∈sn
    .simp only[aO m]at e;cases e
    .simp only[aJ m]at e;have ana:hR hs ds k∈hs.map S:=by unfold hR;exact o5 (R _ (getD_mem' o7)).b
     obtain⟨gD,ag,af,aV⟩:=Β R T c7 n (hR hs ds k) (sn++[hR hs ds k]) (aG++[k]) out (by rw[e8];show n+(sn.length+1)=14;omega) (GB aK m) (λy aZ=>by
      rcases fY.mp aZ with Rk|Rk
      .exact sub y Rk
      .rw[fD.mp Rk];exact ana) e
     rw[e8]at aV;simp only[hH,sj]at aV;exact⟨k::gD,by rw[ag,iV];rfl,.on z w o7 af,by rw[hH];omega⟩
theorem ZJ{kvs:dt}{hs:bD}{ds:b7}(R:∀d∈ds,d.Ok hs.length)(T:ji kvs ds.length)(c7:hs.length<=12){d:nA}(m:d.1∈hs.map S)(h:mU kvs hs ds d=true):∃aG,hZ kvs hs ds d.2.2 d.1 aG/\aG.length<=12:=by
 unfold mU at h;cases e:pa kvs hs ds d.2.2 13 d.1 [d.1] []with
 |ok out=>
  obtain⟨aG,_,af,aV⟩:=Β R T c7 13 d.1 [d.1] [] out rfl (jf.mpr ⟨eZ,pQ⟩) (λy aZ=>by rw[fD.mp aZ];exact m) e;exact⟨aG,af,by omega⟩
 |no why sn=>rw[e]at h;cases h
structure n8(hs:bD)(ds:b7)(kvs:dt)(gs:bR)(ak:dh)(go:bj)(rt:Nat->List Nat):Prop where
 len:ak.length=gs.length
 lt:∀n∈go,n<gs.length
 aK:go.Nodup
 ne:∀ss∈ak,ss≠[]
 c7:∀n,(ak.getD n []).length+(rt n).length<=20
 fK:∀n∈go,(fc ak n).fK∈hs.map S
 goal:∀n∈go,g8 gs n∈hs.map S
 way:∀n∈go,hZ kvs hs ds (g8 gs n) (fc ak n).fK (rt n)
 on:∀n∈go,rt n≠[]
theorem Γ(ss:List Step)(s:Step):tw (ss++[s])=s:=by unfold tw;rw[abH,List.getLast?_append];rfl
theorem hZ.way{kvs:dt}{hs:bD}{ds:b7}{g h:Str}{aG:bj}(r:hZ kvs hs ds g h aG)(ne:aG≠[]):∃k gD,aG=k::gD/\h≠g/\iH kvs h g=some k/\k<ds.length/\hZ kvs hs ds g (hR hs ds k) gD:=by
 cases r with
 |s7=>exact bE rfl ne
 |on a b c d=>exact⟨_,_,rfl,a,b,c,d⟩
theorem n8.rj{hs:bD}{ds:b7}{kvs:dt}{gs:bR}{ak:dh}{go:bj}{rt:Nat->List Nat}(T:ji kvs ds.length)(O:n8 hs ds kvs gs ak go rt):(∀n∈go,I3 hs kvs gs ak (gX ak) (e4 kvs gs ak) n)/\∀n∈go,e4 kvs gs ak n<ds.length:=by
 have key:∀n∈go,∃k,iH kvs (fc ak n).fK (g8 gs n)=some k/\e4 kvs gs ak n=k/\k<ds.length/\(fc ak n).fK≠g8 gs n/\cW kvs (d3 (fc ak n).fK (g8 gs n))=some (.int (k:Int)):=λn aD=>by
  obtain⟨k,gD,_,af,aV,bU,_⟩:=(O.way n aD).way (O.on n aD);refine⟨k,aV,by unfold e4;rw[aV];rfl,bU,af,?_⟩;rcases T.get (fc ak n).fK (g8 gs n)with⟨_,w⟩|⟨i,v,w,_⟩
  .rw[w]at aV;cases aV
  .rw[w]at aV;cases aV;exact v
 refine⟨λn aD=>?_,λn aD=>?_⟩
 .obtain⟨k,ag,af,aV,bU,dq⟩:=key n aD;have ln:=O.lt n aD;have ax:ak[n]?=some (ak.getD n []):=yh (by rw[O.len];exact ln);obtain⟨i,e'⟩:=Α (O.ne _ (eQ ax));refine⟨i,fc ak n,g8 gs n,?_,rfl,yh ln,O.fK n aD,O.goal n aD,bU,by rw[af];exact dq⟩;rw[ax];congr 1
 .obtain⟨k,_,af,aV,_⟩:=key n aD;rw[af];exact aV
section
variable(hs:bD)(ds:b7)(kvs:dt)(gs:bR)
noncomputable def nextT(T:Int)(go:bj)(ak:dh):Int:=max (T+1) (qz (go.map (gX ak)))
noncomputable def mf(T:Int)(go:bj)(ak:dh):List (gw×List Nat):=vW ds (gX ak) (e4 kvs gs ak) T go
noncomputable def fG(T:Int)(go:bj)(ak:dh):List (List Step):=la hs ds (mf ds kvs gs T go ak) ak
noncomputable def jY(T:Int)(go:bj)(ak:dh)(i:Nat):Bool:=zc ds (gX ak) (e4 kvs gs ak) T go i
noncomputable def oV(go:bj)(ak:dh):List Nat:=go.filter λn=>decide ((fc ak n).fK≠g8 gs n)
noncomputable def qL:Nat->Int->List Nat->List (List Step)->List (gw×List Nat)
 |0,_,_,_=>[]
 |m+1,T,go,ak=>if go=[]then[]else mf ds kvs gs (nextT T go ak) go ak++qL m (nextT T go ak) (oV gs go (fG hs ds kvs gs (nextT T go ak) go ak)) (fG hs ds kvs gs (nextT T go ak) go ak)
end
section
variable{hs:bD}{ds:b7}{kvs:dt}{gs:bR}{ak:dh}{go:bj}{rt:Nat->List Nat}{T:Int}
theorem step_get(bZ:∀k∈go,e4 kvs gs ak k<ds.length)(i:Nat):(fG hs ds kvs gs T go ak)[i]?=(ak[i]?).map λss=>ss++(if jY ds kvs gs T go ak i=true then[stepK hs ds (T,e4 kvs gs ak i)]else[]):=by unfold fG;rw[Hh];congr 1;funext ss;congr 1;unfold mf;rw[RI bZ i];show Ju _ (if jY ds kvs gs T go ak i=true then _ else _)=_;cases jY ds kvs gs T go ak i<;>rfl
theorem Î(bZ:∀k∈go,e4 kvs gs ak k<ds.length){i:Nat}(ai:i<ak.length):(fG hs ds kvs gs T go ak).getD i []=ak.getD i []++(if jY ds kvs gs T go ak i=true then[stepK hs ds (T,e4 kvs gs ak i)]else[]):=by rw[dr,step_get bZ,yh (d:=[]) ai];rfl
theorem Rm{i:Nat}(h:jY ds kvs gs T go ak i=true):i∈go/\gX ak i<=T:=by have:=qq (kJ h);exact⟨this.1,this.2.1⟩
theorem PL(bZ:∀k∈go,e4 kvs gs ak k<ds.length){i:Nat}(ai:i<ak.length):fc (fG hs ds kvs gs T go ak) i=if jY ds kvs gs T go ak i=true then stepK hs ds (T,e4 kvs gs ak i)else fc ak i:=by
 unfold fc;rw[Î bZ ai];by_cases z:jY ds kvs gs T go ak i=true
 .rw[aO z,aO z];exact Γ _ _
 .rw[aJ z,aJ z,iW]
theorem Tb{r:Nat}(h:r<ds.length):lE hs ds r=hR hs ds r:=by unfold lE hR;rw[show ds.getD r pj=ds[r] by rw[dr,ct h];rfl,show ds.getD r jP=ds[r] by rw[dr,ct h];rfl]
noncomputable def qE(ds:b7)(kvs:dt)(gs:bR)(T:Int)(go:bj)(ak:dh)(rt:Nat->List Nat)(i:Nat):List Nat:=if jY ds kvs gs T go ak i=true then(rt i).tail else rt i
theorem hZ.nil_eq{kvs:dt}{hs:bD}{ds:b7}{g h:Str}{aG:bj}(r:hZ kvs hs ds g h aG)(e:aG=[]:=by rfl):h=g:=by
 cases r with
 |s7=>rfl
 |on=>cases e
theorem n8.step(R:∀d∈ds,d.Ok hs.length)(d9:ji kvs ds.length)(O:n8 hs ds kvs gs ak go rt):n8 hs ds kvs gs (fG hs ds kvs gs T go ak) (oV gs go (fG hs ds kvs gs T go ak)) (qE ds kvs gs T go ak rt):=by
 have bZ:=(O.rj d9).2;have sub:∀n∈oV gs go (fG hs ds kvs gs T go ak),n∈go:=λn aD=>(gx.mp aD).1;have Ñ:∀n∈go,hZ kvs hs ds (g8 gs n) (fc (fG hs ds kvs gs T go ak) n).fK (qE ds kvs gs T go ak rt n):=λn aD=>by
  have ln:n<ak.length:=by rw[O.len];exact O.lt n aD
  rw[PL bZ ln];unfold qE;by_cases z:jY ds kvs gs T go ak n=true
  .rw[aO z,aO z];obtain⟨k,gD,ax,_,az,cq,et⟩:=(O.way n aD).way (O.on n aD);have d6:e4 kvs gs ak n=k:=by unfold e4;rw[az];rfl
   rw[ax];show hZ kvs hs ds (g8 gs n) (lE hs ds (e4 kvs gs ak n)) gD;rw[d6,Tb cq];exact et
  .rw[aJ z,aJ z];exact O.way n aD
 refine⟨?_,λn aD=>O.lt n (sub n aD),O.aK.filter _,λss u6=>?_,λn=>?_,λn aD=>?_,λn aD=>O.goal n (sub n aD),λn aD=>Ñ n (sub n aD),λn aD e=>?_⟩
 .unfold fG;rw[vc];exact O.len
 .obtain⟨i,ai⟩:=q1 u6;rw[step_get bZ]at ai;obtain⟨Qg,cI,rfl⟩:=ft.mp ai;have:=O.ne Qg (eQ cI);intro e;exact this (List.append_eq_nil_iff.mp e).1
 .have f:=O.c7 n;by_cases ln:n<ak.length
  .rw[Î bZ ln];unfold qE;by_cases z:jY ds kvs gs T go ak n=true
   .rw[aO z,aO z,e8,Um];have:=ug.mpr (O.on n (Rm z).1);simp only[hH,sj];omega
   .rw[aJ z,aJ z,iW];exact f
  .have cI:(fG hs ds kvs gs T go ak).getD n []=[]:=by rw[dr,sg (by unfold fG;rw[vc];omega)];rfl
   have z:¬jY ds kvs gs T go ak n=true:=λz=>ln (by rw[O.len];exact O.lt n (Rm z).1);rw[cI];unfold qE;rw[aJ z];simp only[sj];omega
 .have lu:=sub n aD;have ln:n<ak.length:=by rw[O.len];exact O.lt n lu
  rw[PL bZ ln];by_cases z:jY ds kvs gs T go ak n=true
  .rw[aO z];have aq:=bZ n lu;show lE hs ds (e4 kvs gs ak n)∈_;unfold lE;rw[show ds.getD (e4 kvs gs ak n) pj=ds[e4 kvs gs ak n] by rw[dr,ct aq];rfl];exact o5 (R _ (eY aq)).b
  .rw[aJ z];exact O.fK n lu
 .have nT:=kJ (gx.mp aD).2;have w:=Ñ n (sub n aD);rw[e]at w;exact nT w.nil_eq
noncomputable def hE(rt:Nat->List Nat)(go:bj):Nat:=(go.map λn=>(rt n).length).sum
theorem UZ{f g:Nat->List Nat}:∀{go:bj},(∀n∈go,(f n).length<=(g n).length)->hE f go<=hE g go
 |[],_=>b1 _
 |n::go,h=>by unfold hE;rw[gk,oB,gk,oB];have ag:=h n (.head _);have af:hE f go<=hE g go:=UZ λn aD=>h n (.tail _ aD);unfold hE at af;omega
theorem U0{f g:Nat->List Nat}:∀{go:bj},(∀n∈go,(f n).length<=(g n).length)->(∃n∈go,(f n).length<(g n).length)->hE f go<hE g go
 |[],_,⟨n,aD,_⟩=>nomatch aD
 |n::go,h,⟨m,hm,lt⟩=>by
  have ag:=h n (.head _);have le:hE f go<=hE g go:=UZ λn aD=>h n (.tail _ aD);unfold hE at le⊢;rw[gk,oB,gk,oB];rcases fp.mp hm with rfl|hm
  .omega
  .have af:hE f go<hE g go:=U0 (λn aD=>h n (.tail _ aD)) ⟨m,hm,lt⟩;unfold hE at af;omega
theorem Δ{f:Nat->List Nat}{p:Nat->Bool}:∀go:List Nat,hE f (go.filter p)<=hE f go
 |[]=>b1 _
 |n::go=>by
  have h:=Δ (f:=f) (p:=p) go;rw[wK];unfold hE at h⊢;split
  .rw[gk,oB,gk,oB];omega
  .rw[gk,oB];omega
theorem n8.less(R:∀d∈ds,d.Ok hs.length)(d9:ji kvs ds.length)(O:n8 hs ds kvs gs ak go rt)(h:∃n∈go,gX ak n<=T):hE (qE ds kvs gs T go ak rt) (oV gs go (fG hs ds kvs gs T go ak))<hE rt go:=by
 have bZ:=(O.rj d9).2;refine mx (Δ go) (U0 (λn aD=>?_) ?_)
 .unfold qE;split
  .rw[Um];omega
  .exact b1 _
 .obtain⟨n,aD,hd⟩:=h;have aq:=bZ n aD;have q:eI (gX ak) (e4 kvs gs ak) T go (e4 kvs gs ak n)≠[]:=abR (a:=(gX ak n,n)) (by
   unfold eI;refine cf.mpr ⟨n,gx.mpr ⟨aD,?_⟩,rfl⟩;rw[dU hd,dU rfl];rfl)
  have eO:1<=kL ds (e4 kvs gs ak n):=by unfold kL;rw[show ds.getD (e4 kvs gs ak n) pj=ds[e4 kvs gs ak n] by rw[dr,ct aq];rfl];have:=(R _ (eY aq)).m.1;omega
  obtain⟨i,ai⟩:=Es _ (Uz eO q);have bm:=qq ai;have z:jY ds kvs gs T go ak i=true:=by unfold jY zc;rw[bm.2.2];exact dU ai
  refine⟨i,bm.1,?_⟩;unfold qE;rw[aO z,Um];have:=ug.mpr (O.on i bm.1);omega
theorem Sq(h:go≠[]):∃n∈go,gX ak n<=nextT T go ak:=by have ag:=(UE (ns:=go.map (gX ak)) (by simpa using h)).1;obtain⟨n,aD,e⟩:=cf.mp ag;refine⟨n,aD,?_⟩;unfold nextT;rw[e];exact Int.le_max_right _ _
noncomputable def EP(a b:gw):Prop:=a.1<b.1\/(a.1=b.1/\a.2<b.2)
end
structure HF(hs:bD)(ds:b7)(ak:dh)(b:gw×List Nat):Prop where
 road:b.1.2<ds.length
 room:(b.2.length:Int)<=kL ds b.1.2
 Z6:b.2≠[]
 up:b.2.Pairwise (· < ·)
 lt:∀n∈b.2,n<ak.length
 here:∀n∈b.2,(fc ak n).fK=pD hs ds b.1.2
 bO:∀n∈b.2,(fc ak n).bO<=b.1.1
inductive Fits(hs:bD)(ds:b7):Option gw->List (List Step)->List (gw×List Nat)->Prop
 |nil {k:Option gw} {ak:dh}:Fits hs ds k ak []
 |cons {k:Option gw} {ak:dh} {b:gw×List Nat} {P:kb}:(∀eV,k=some eV->EP eV b.1)->HF hs ds ak b->Fits hs ds (some b.1) (iG (stepK hs ds b.1) b.2 ak) P->Fits hs ds k ak (b::P)
section
variable{hs:bD}{ds:b7}{kvs:dt}{gs:bR}{ak:dh}{go:bj}{rt:Nat->List Nat}{T:Int}
theorem ł{st:Step}{ns:bj}{ak:dh}{n:Nat}(h:n∉ns):fc (iG st ns ak) n=fc ak n:=by
 unfold fc;rw[dr,va,dr];cases ak[n]? with
 |none=>rfl
 |some ss=>simp[h]
noncomputable def Ij(hs:bD)(ds:b7)(kvs:dt):Prop:=∀h g k,iH kvs h g=some k->pD hs ds k=h
theorem aaJ(R:∀d∈ds,d.Ok hs.length)(d9:ji kvs ds.length)(r6:Ij hs ds kvs)(O:n8 hs ds kvs gs ak go rt)(k0:Option gw)(al3:∀eV,k0=some eV->eV.1<T){P:kb}(rest:∀k,(∀eV,k=some eV->eV.1<=T)->Fits hs ds k (fG hs ds kvs gs T go ak) P):
  Fits hs ds k0 ak (mf ds kvs gs T go ak++P):=by
 have bZ:=(O.rj d9).2;have along:∀(e5:bj)(k:Option gw)(cur:dh),e5.Pairwise (· < ·)->(∀r∈e5,r∈nP ds.length (gX ak) (e4 kvs gs ak) T go)->(∀eV,k=some eV->eV.1<T\/(eV.1=T/\∀r∈e5,eV.2<r))->cur.length=ak.length->
   (∀n,(∃r∈e5,n∈(iI ds (gX ak) (e4 kvs gs ak) T go r).2)->fc cur n=fc ak n)->la hs ds (e5.map (iI ds (gX ak) (e4 kvs gs ak) T go)) cur=fG hs ds kvs gs T go ak->Fits hs ds k cur (e5.map (iI ds (gX ak) (e4 kvs gs ak) T go)++P):=by
  intro e5
  induction e5 with
  |nil=>
   intro k cur _ _ aE _ _ es;have es:cur=fG hs ds kvs gs T go ak:=es;rw[es];exact rest k λeV e=>by
    rcases aE eV e with z|z
    .omega
    .omega
  |cons r e5 bk=>
   intro k cur up sub aE ln same es;rw[JA]at up;have ay:=sub r (.head _);have lx:r<ds.length/\eI (gX ak) (e4 kvs gs ak) T go r≠[]:=by unfold nP at ay;obtain⟨ag,af⟩:=gx.mp ay;refine⟨jH.mp ag,λz=>?_⟩;rw[z]at af;cases af
   have qB:ds.getD r pj=ds[r]:=by rw[dr,ct lx.1];rfl
   have eO:1<=kL ds r:=by unfold kL;rw[qB];exact(R _ (eY lx.1)).m.1
   have nl:∀n∈(iI ds (gX ak) (e4 kvs gs ak) T go r).2,fc cur n=fc ak n:=λn aD=>same n ⟨r,.head _,aD⟩;refine .cons (λeV e=>?_) ⟨lx.1,?_,Uz eO lx.2,Se (RH O.aK _),λn aD=>?_,λn aD=>?_,λn aD=>?_⟩ (bk (some (T,r)) _ up.2 (λcB i7=>sub cB (.tail _ i7)) (λeV e=>?_) ?_ (λn aD=>?_) es)
   .rcases aE eV e with z|z
    .exact .inl z
    .exact .inr ⟨z.1,z.2 r (.head _)⟩
   .show(((iI ds (gX ak) (e4 kvs gs ak) T go r).2.length:Nat):Int)<=kL ds r;unfold iI z6;rw[(xP _).length_eq,bh,f_];omega
   .rw[ln,O.len];exact O.lt n (qq aD).1
   .rw[nl n aD];have bm:=qq aD;obtain⟨k1,gD,_,_,az,_,_⟩:=(O.way n bm.1).way (O.on n bm.1);have d6:e4 kvs gs ak n=k1:=by unfold e4;rw[az];rfl
    show _=pD hs ds r;rw[<-bm.2.2,d6];exact(r6 _ _ _ az).symm
   .rw[nl n aD];exact(qq aD).2.1
   .cases e;exact .inr ⟨rfl,λcB i7=>up.1 cB i7⟩
   .rw[Cb];exact ln
   .obtain⟨cB,i7,lu⟩:=aD;rw[ł (λz=>?_)]
    .exact same n ⟨cB,.tail _ i7,lu⟩
    .have ax:=(qq z).2.2;have az:=(qq lu).2.2;have:=up.1 cB i7;omega
 unfold mf vW;exact along _ k0 ak (z2.filter _) (λr ay=>ay) (λeV e=>.inl (al3 eV e)) rfl (λn _=>rfl) rfl
theorem Sr(R:∀d∈ds,d.Ok hs.length)(d9:ji kvs ds.length)(r6:Ij hs ds kvs):∀(m:Nat)(T:Int)(go:bj)(ak:dh)(rt:Nat->List Nat)(k:Option gw),n8 hs ds kvs gs ak go rt->(∀eV,k=some eV->eV.1<=T)->Fits hs ds k ak (qL hs ds kvs gs m T go ak)
 |0,T,go,ak,rt,k,_,_=>.nil
 |m+1,T,go,ak,rt,k,O,aE=>by
  unfold qL;by_cases bx:go=[]
  .rw[aO bx];exact .nil
  .rw[aJ bx];have el:T<nextT T go ak:=by unfold nextT;omega
   exact aaJ R d9 r6 O k (λeV e=>by have:=aE eV e;omega) λk2 Gd=>Sr R d9 r6 m _ _ _ _ k2 (O.step R d9) Gd
theorem hZ.uniq{g h:Str}:∀{a b:bj},hZ kvs hs ds g h a->hZ kvs hs ds g h b->a=b
 |[],_,gq,lK=>by
  cases gq;cases lK with
  |s7=>rfl
  |on ne _ _ _=>exact bE rfl ne
 |k::a,b,gq,lK=>by
  obtain⟨k1,t1,ax,gB,gO,_,b'⟩:=gq.way (by simp);cases ax;cases lK with
  |s7=>exact bE rfl gB
  |on _ hV _ df=>
   rw[gO]at hV;cases hV;rw[b'.uniq df]
noncomputable def tf(ss:List Step):List Nat:=(ss.drop 1).map λs=>(s.Lx.getD 0).toNat
noncomputable def gone(P:kb)(n:Nat):List Nat:=(P.filter λb=>decide (n∈b.2)).map λb=>b.1.2
theorem aaK(bZ:∀k∈go,e4 kvs gs ak k<ds.length)(n:Nat):gone (mf ds kvs gs T go ak) n=if jY ds kvs gs T go ak n=true then[e4 kvs gs ak n]else[]:=by unfold gone mf;rw[RI bZ n];show Ju _ (if jY ds kvs gs T go ak n=true then _ else _)=_;cases jY ds kvs gs T go ak n<;>rfl
theorem Ss(P U7:kb)(n:Nat):gone (P++U7) n=gone P n++gone U7 n:=by unfold gone;rw[pO,fo]
theorem Sw(R:∀d∈ds,d.Ok hs.length)(d9:ji kvs ds.length):∀(m:Nat)(T:Int)(go:bj)(ak:dh)(rt:Nat->List Nat),n8 hs ds kvs gs ak go rt->hE rt go<=m->∀n,gone (qL hs ds kvs gs m T go ak) n=if n∈go then rt n else[]
 |0,T,go,ak,rt,O,cO,n=>by
  have bx:go=[]:=by
   cases go with
   |nil=>rfl
   |cons k go=>
    have:=ug.mpr (O.on k (.head _));unfold hE at cO;rw[gk,oB]at cO;omega
  rw[bx,aJ eZ];rfl
 |m+1,T,go,ak,rt,O,cO,n=>by
  unfold qL;by_cases bx:go=[]
  .rw[aO bx,bx,aJ eZ];rfl
  .rw[aJ bx,Ss];have bZ:=(O.rj d9).2;obtain⟨ed,xa⟩:∃ed,ed=nextT T go ak:=⟨_,rfl⟩
   have less:=O.less (T:=ed) R d9 (by rw[xa];exact Sq bx);rw[<-xa,aaK bZ n,Sw R d9 m ed _ _ _ (O.step R d9) (by omega) n];by_cases aD:n∈go
   .rw[aO aD];have ln:n<ak.length:=by rw[O.len];exact O.lt n aD
    obtain⟨k,gD,ax,ne,az,cq,et⟩:=(O.way n aD).way (O.on n aD);have d6:e4 kvs gs ak n=k:=by unfold e4;rw[az];rfl
    have ru:n∈oV gs go (fG hs ds kvs gs ed go ak)↔(fc (fG hs ds kvs gs ed go ak) n).fK≠g8 gs n:=by unfold oV;rw[gx,nJ];exact⟨λz=>z.2,λz=>⟨aD,z⟩⟩
    rw[PL bZ ln]at ru;by_cases z:jY ds kvs gs ed go ak n=true
    .rw[aO z];rw[aO z]at ru;have ru:n∈oV gs go (fG hs ds kvs gs ed go ak)↔lE hs ds (e4 kvs gs ak n)≠g8 gs n:=ru;rw[d6,Tb cq]at ru;rw[d6,ax];show[k]++_=[k]++gD;congr 1;by_cases y:hR hs ds k=g8 gs n
     .rw[aJ λw=>(ru.mp w) y];rw[y]at et;exact(et.uniq .s7).symm
     .rw[aO (ru.mpr y)];unfold qE;rw[aO z,ax];rfl
    .rw[aJ z];rw[aJ z]at ru;rw[aO (ru.mpr ne),Jz];unfold qE;rw[aJ z]
   .rw[aJ aD,aJ (show¬n∈oV gs go (fG hs ds kvs gs ed go ak) fromλw=>aD (gx.mp w).1),aJ λz=>aD (Rm z).1];rfl
end
end fR
namespace cK
open PySem PySem.Spec PyProof.Rows ar
noncomputable abbrev rM(xs:c'):Prop:=xs.toList.Pairwise (· < ·)
theorem rM.lt{xs:c'}(h:rM xs){i j:Nat}(amS:i<j)(aQ:j<xs.size):xs[i]'(by omega)<xs[j]:=by have:=sm.mp h i j (by simp;omega) (by simpa using aQ) amS;simpa using this
theorem QB{xs:c'}(h:rM xs)(j:Nat):∀(fuel lo ai:Nat),ai-lo<=fuel->lo<=ai->ai<=xs.size->
  (∀i(jy:i<xs.size),i<lo->xs[i]<j)->(∀i(jy:i<xs.size),ai<=i->j<=xs[i])->
  EX xs j fuel lo ai<=xs.size/\(∀i(jy:i<xs.size),i<EX xs j fuel lo ai->xs[i]<j)/\(∀i(jy:i<xs.size),EX xs j fuel lo ai<=i->j<=xs[i])
 |0,lo,ai,hf,aq,hs,a,b=>by
  unfold EX;obtain rfl:lo=ai:=by omega
  exact⟨hs,a,b⟩
 |fuel+1,lo,ai,hf,aq,hs,a,b=>by
  unfold EX;by_cases bZ:lo<ai
  .rw[aO bZ];have hm:(lo+ai)/2<xs.size:=by omega
   have e:xs.getD ((lo+ai)/2) j=xs[(lo+ai)/2]:=by simp[lR,hm]
   dsimp only;rw[e];by_cases aC:xs[(lo+ai)/2]<j
   .rw[aO aC];refine QB h j fuel _ _ (by omega) (by omega) hs (λi jy q=>?_) b;rcases JJ (show i<=(lo+ai)/2 by omega)with q|q
    .exact UR (h.lt q hm) aC
    .subst q;exact aC
   .rw[aJ aC];refine QB h j fuel _ _ (by omega) (by omega) (by omega) a (λi jy q=>?_);rcases JJ q with q|q
    .exact hc (by omega) (pT (h.lt q jy))
    .subst q;omega
  .rw[aJ bZ];obtain rfl:lo=ai:=by omega
   exact⟨hs,a,b⟩
theorem below_at{xs:c'}(h:rM xs)(j:Nat):mC xs j<=xs.size/\(∀i(jy:i<xs.size),i<mC xs j->xs[i]<j)/\(∀i(jy:i<xs.size),mC xs j<=i->j<=xs[i]):=by unfold mC;exact QB h j xs.size 0 xs.size (by omega) (by omega) (b1 _) (λi _ q=>by omega) (λi q r=>by omega)
theorem QC{xs:c'}(h:rM xs){j n:Nat}(aD:n<=xs.size)(a:∀i(jy:i<xs.size),i<n->xs[i]<j)(b:∀i(jy:i<xs.size),n<=i->j<=xs[i]):mC xs j=n:=by
 obtain⟨eC,dT,jm⟩:=below_at h j;rcases Nat.lt_trichotomy (mC xs j) n with q|q|q
 .have ag:=jm _ (by omega) (b1 _);have af:=a _ (by omega) q;omega
 .exact q
 .have ag:=b _ (by omega) (b1 _);have af:=dT _ (by omega) q;omega
theorem aaL{t:j'}(h:rM t.place){j:Nat}(e:t.slot j=.empty):j∉t.place.toList:=λhm=>by
 obtain⟨i,ai,e'⟩:=hq hm;have jy:i<t.place.size:=by simpa using ai
 have e':t.place[i]=j:=by simpa using e'
 have dN:mC t.place j=i:=QC h (pT jy) (λk aE q=>by rw[<-e'];exact h.lt q jy) (λk aE q=>by
  rcases JJ q with q|q
  .rw[<-e'];exact pT (h.lt q aE)
  .subst q;omega)
 unfold SetTable.slot at e;dsimp only at e;rw[dN,aO (by simp[jy,e'])]at e;cases e
theorem aaM{t:j'}(h:rM t.place){j:Nat}(aQ:j∉t.place.toList):rM (t.put j).1.place:=by
 obtain⟨eC,dT,jm⟩:=below_at h j;show T_ _ (SetTable.insertAt t.place (mC t.place j) j).toList;rw[SetTable.toList_insertAt];generalize mC t.place j=n at eC dT jm;rw[kz];refine⟨h.sublist (pR _ _),JA.mpr ⟨λy aZ=>?_,h.sublist (wJ _ _)⟩,λx ao y aZ=>?_⟩
 .obtain⟨i,ai,e⟩:=hq aZ;rw[ue]at e;rw[pP,kQ]at ai;have ag:=jm (n+i) (by omega) (by omega);have af:t.place[n+i]'(by omega)=y:=by simpa using e
  rw[af]at ag;refine Nat.lt_of_le_of_ne ag λz=>aQ ?_;rw[z,<-af];simp
 .obtain⟨i,ai,e⟩:=hq ao;rw[q2]at e;rw[f_,kQ]at ai;have ag:=dT i (by omega) (by omega);have af:t.place[i]'(by omega)=x:=by simpa using e
  rw[af]at ag;rcases fp.mp aZ with rfl|aZ
  .exact ag
  .obtain⟨k,aE,e⟩:=hq aZ;rw[ue]at e;rw[pP,kQ]at aE;have aV:=jm (n+k) (by omega) (by omega);have bU:t.place[n+k]'(by omega)=y:=by simpa using e
   omega
structure eK(t:j'):Prop where
 led:t.led=true
 LL:t.dummies=#[]
 up:rM t.place
theorem has_none(j:Nat):VN #[] j=false:=by simp[VN]
theorem Ε{t:j'}(g:eK t){f:Nat->Int}{h:Int}:∀(fuel:Nat)(p:SetTable.Probe)(j:Nat)(d:Option Nat),p.dummy=none->VO t f h fuel p=some (.empty j d)->d=none/\t.slot j=.empty
 |0,p,j,d,aP,e=>by unfold VO at e;cases e
 |fuel+1,p,j,d,aP,e=>by
  have aiO:(t.advance p).dummy=none:=by unfold SetTable.advance;split<;>exact aP
  unfold VO at e;cases hs:t.slot p.j with
  |empty=>
   rw[hs]at e;cases e;exact⟨aP,hs⟩
  |dummy=>
   unfold SetTable.slot at hs;dsimp only at hs;rw[g.LL,has_none]at hs;split at hs<;>cases hs
  |live i=>
   rw[hs]at e;dsimp only at e;split at e
   .cases e
   .exact Ε g fuel _ j d aiO e
theorem adY{t:j'}(g:eK t){h:Int}{sl:Nat}{b:Bool}(e:t.freeSlot h=some (sl,b)):t.slot sl=.empty:=by
 unfold SetTable.freeSlot at e;split at e
 .rename_i j d ep;unfold SetTable.probe at ep;obtain⟨rfl,hs⟩:=Ε g _ _ _ _ rfl ep;cases e;exact hs
 .cases e
theorem Hi{t:j'}(g:eK t)(n:Nat):eK (t.standIn n):=⟨g.led,rfl,by
 show T_ _ (Array.range n).toList;rw[Array.toList_range];exact z2⟩
theorem Sx{t:j'}(g:eK t){h:Int}{sl:Nat}{b:Bool}(e:t.freeSlot h=some (sl,b)):eK (t.put sl).1:=⟨g.led,by
 show(if VN t.dummies sl then _ else t.dummies)=#[];rw[g.LL,has_none];rfl,aaM g.up (aaL g.up (adY g e))⟩
theorem acC{t:j'}(g:eK t)(es:Array (Int×Value))(h:Int)(x:Value):eK (layNew t es h x).2.1:=by
 unfold layNew;split
 .rename_i sl b e;show eK (ae6 (t.put sl).1 _);unfold ae6;split
  .exact Sx g e
  .exact Hi (Sx g e) _
 .exact Hi g _
theorem Ń{t:j'}(g:eK t)(es:Array (Int×Value))(n:Nat):eK (yE t es n).2.1:=by
 unfold yE;split
 .rename_i t' cR e;dsimp only;split
  .unfold SetTable.relaid SetTable.laid at e;cases aR:SetTable.layClean (SetTable.sizeAbove n-1) (es.map (·.1))with
   |none=>rw[aR]at e;cases e
   |some owner=>
    rw[aR]at e;cases e;refine⟨g.led,rfl,?_⟩;show T_ (· < ·) _;have gen:∀l:List Nat,l.Pairwise (· < ·)->((l.filterMap λj=>(owner.getD j none).map (Prod.mk j)).map (·.1)).Pairwise (· < ·):=by
     intro l aq;refine aq.sublist ?_;clear aq
     induction l with
     |nil=>exact .slnil
     |cons a l bk=>
      rw[Eu];cases aH:(owner.getD a none).map (Prod.mk a)with
      |none=>exact bk.cons _
      |some q=>
       obtain⟨k,_,rfl⟩:=ft.mp aH;exact bk.cons₂ _
    exact gen _ z2
  .exact Hi g _
 .exact Hi g _
noncomputable def i0(w:bt):Bool:=w.params.followText "set-order"
noncomputable def ent(p:Int×Tok):Int×Value:=(xy p.1,.int p.1 p.2)
noncomputable def iL(w:bt)(h:Heap)(a:Addr)(l:List (Int×Tok)):Prop:=
 ∃o es ep t,h.get? a=some o/\o.ExactSet/\o.data=.set es ep t/\es.toList.Perm (l.map ent)/\l.length<scanBound/\t.fits es.size=true/\(i0 w=true\/eK t)
theorem iL.at'{w:bt}{h h':Heap}{a:Addr}{l:List (Int×Tok)}(x:iL w h a l)(k:∀o,h.get? a=some o->h'.get? a=some o):iL w h' a l:=let⟨o,es,ep,t,aR,r⟩:=x;⟨o,es,ep,t,k o aR,r⟩
theorem U1{prog:bP}{w:bt}(p:Int×Tok):(rv prog w).is p.1 (ent p).2=true:=YJ _ _ _ _
theorem ń{prog:bP}{w:bt}{es:List (Int×Value)}{l:List (Int×Tok)}(p:es.Perm (l.map ent)):ElemsOf (rv prog w) es:=λe he=>by obtain⟨q,_,rfl⟩:=cf.mp (p.mem_iff.mp he);exact⟨⟨q.1,U1 q,rfl⟩,rfl⟩
section
variable{prog:bP}{w:bt}{A:cU}{E:cx}{s:aF}{a:Addr}{l:List (Int×Tok)}
theorem Sy{h:Heap}{o:Obj}{es js:Array (Int×Value)}{ep:Nat}{t t':j'}(aR:h.get? a=some o)(ao:o.ExactSet)(hd:o.data=.set es ep t)(aP:js.toList.Perm (l.map ent))(aq:l.length<scanBound)(hf:t'.fits js.size=true)(bx:i0 w=true\/eK t'):
  ∃cQ,(h.update a (JM js t')).get? a=some cQ/\cQ.ExactSet/\cQ.data=.set js (ep+1) t'/\iL w (h.update a (JM js t')) a l:=by have g1:=mu (JM js t') aR (by rw[putSet_of js t' hd];rfl);rw[putSet_of js t' hd]at g1;exact⟨_,g1,ao,rfl,_,js,ep+1,t',g1,ao,rfl,aP,aq,hf,bx⟩
theorem aaN{t:j'}(g:i0 w=true\/eK t):i0 w=true\/eK {t with plain:=false}:=g.imp id λg=>⟨g.led,g.LL,g.up⟩
theorem Ce{es:Array (Int×Value)}(p:es.toList.Perm (l.map ent)):es.size=l.length:=by rw[<-kQ,p.length_eq,bh]
theorem add_int{k:Int}{tok:Tok}{Q:Bool->aF->Prop}(cP:iL w s.heap a l)(aE:k∉l.map (·.1))(ay:l.length+1<scanBound)(h:∀h',kx a s.heap h'->iL w h' a ((k,tok)::l)->Q true {s with heap:=h'}):
  aM (ba prog w) A (setAddHashed a (.int k tok) (xy k)) Q E s:=by
 obtain⟨o,es,ep,t,aR,ao,hd,aP,aq,hf,bx⟩:=cP;have BD:=ń (prog:=prog) (w:=w) aP;have hsz:=Ce aP;have M6:(rv prog w).is k (.int k tok)=true:=YJ _ _ _ _;unfold setAddHashed setAddHashedIn;refine iv (au (apM aR hd hf ?_));dsimp only;rw[byScan_of (knd:=rv prog w) rfl (by omega) BD,aO rfl];unfold setAddByScan;refine au (au (DI (au (wpAny_setScan_of (knd:=rv prog w) M6 aR hd hf BD ?_))));have none_:List.findIdx? (λe=>(rv prog w).is k e.2) es.toList=none:=List.findIdx?_eq_none_iff.mpr λe he=>by
  obtain⟨q,bp,rfl⟩:=cf.mp (aP.mem_iff.mp he);cases aC:(rv prog w).is k (ent q).2 with
  |false=>rfl
  |true=>exact bE (cf.mpr ⟨q,bp,((rv prog w).inj _ _ _ aC (U1 q)).symm⟩) aE
 rw[none_];dsimp only;have Xq:∀(b:Bool){s1:aF}{kX:Unit->aF->Prop},kX () s1->aM (ba prog w) A (match b with|true=>rule "set.scan.the-table-gave-way"|false=>pure ()) kX E s1:=
  λb s1 kX q=>by cases b;exact a9 q;exact DI q
 have pm:=layNew_perm t es (xy k) (.int k tok);have gA:=layNew_fits t es (xy k) (.int k tok);have hP:i0 w=true\/eK (layNew t es (xy k) (.int k tok)).2.1:=bx.imp id λg=>acC g _ _ _;generalize layNew t es (xy k) (.int k tok)=L at pm gA hP⊢;obtain⟨ie,t1,apx,Mk⟩:=L;dsimp only at pm gA hP⊢;have dW:ie.toList.Perm (((k,tok)::l).map ent):=by rw[za]at pm;refine pm.trans (Ur.trans ?_);exact aP.cons _
 have gh:((k,tok)::l).length<scanBound:=ay;have b0:=Ce dW;have fin:∀fQ:j',fQ.fits ie.size=true->(i0 w=true\/eK fQ)->aM (ba prog w) A (do
    storeSet a ie fQ
    if(!apx&&fQ.tooFull)=true then do
      (match(yE fQ ie (w0 ie.size)).2.2 with|true=>rule "set.scan.the-table-gave-way"|false=>pure ())
      storeSet a (yE fQ ie (w0 ie.size)).1 (yE fQ ie (w0 ie.size)).2.1
      pure (some true)
     else pure (some true)) (λr s'=>r=some true/\Q true s') E s:=λfQ f2 g2=>by
  refine au (apO aR hd ?_ (L' (by omega)));obtain⟨cQ,ax,az,cq,aeQ⟩:=Sy (w:=w) aR ao hd dW gh f2 g2;have b5:=ow s.heap a (JM ie fQ);split
  .have pr:=relayAll_perm fQ ie (w0 ie.size);have fr:=relayAll_fits fQ ie (w0 ie.size);have Mj:i0 w=true\/eK (yE fQ ie (w0 ie.size)).2.1:=g2.imp id λg=>Ń g _ _;generalize yE fQ ie (w0 ie.size)=aeP at pr fr Mj⊢;obtain⟨sM,t3,g3⟩:=aeP;dsimp only at pr fr Mj⊢;have ey:=pr.trans dW;have bH:=Ce ey;refine au (Xq _ (au (apO ax cq ?_ (L' (by omega)))));obtain⟨_,_,_,_,aeR⟩:=Sy (w:=w) ax az cq ey gh fr Mj;exact a9 ⟨rfl,h _ (b5.trans (ow _ a _)) aeR⟩
  .exact a9 ⟨rfl,h _ b5 aeQ⟩
 refine au (Xq _ ?_);split
 .rw[hashByValue_scannable 8 rfl];refine au (a9 (e6 (fin _ (by split;exact gA;exact SetTable.fits_plain_off gA) (by split;exact hP;exact aaN hP)) (λr s' q=>?_) λ_ _ q=>q));obtain⟨rfl,q⟩:=q;exact a9 q
 .refine au (a9 ?_);rw[aO rfl];refine e6 (fin _ gA hP) (λr s' q=>?_) λ_ _ q=>q;obtain⟨rfl,q⟩:=q;exact a9 q
end
noncomputable def qM(p:Int×Tok):Value:=.int p.1 p.2
theorem Č:isSubtype (.type "tuple") (.type "set")=pure false:=by rw[Gl];kernel_rfl
theorem ap4:isSubtype (.type "tuple") (.type "frozenset")=pure false:=by rw[Gl];kernel_rfl
noncomputable def rN(w:bt):Obj:={cls:=.type "set",dict:=none,data:=.set #[] 0 (.fresh 0 0 (!i0 w))}
theorem iL.fresh{w:bt}{h:Heap}{a:Addr}(e:h.get? a=some (rN w)):iL w h a []:=
 ⟨_,#[],0,.fresh 0 0 (!i0 w),e,⟨rfl,rfl,rfl⟩,rfl,zW _,by decide,rfl,by
  cases U:i0 w with
  |true=>exact .inl rfl
  |false=>exact .inr ⟨rfl,rfl,Jq⟩⟩
section
variable{prog:bP}{w:bt}{A:cU}{E:cx}{s:aF}
theorem adZ(a:Value){Q:cx}(h:Q (.ref s.heap.objs.size) {s with heap:=s.heap.push (rN w)}):
  k9 (ba prog w) A (.call (.builtin "set.__new__") ⟨[.type "set",a],[]⟩) (wants Q E) s:=by
 refine LH ?_;show aM _ A.in1 (do checkBuiltinCall "set.__new__" ⟨[.type "set",a],[]⟩;again (.builtin "set.__new__" ⟨[.type "set",a],[]⟩)) _ _ s;refine au (y2 (PySem.F.newCall_set_1 a) (a9 ⟨rJ adF _,oM PySem.F.entry_set_new ?_⟩));rw[qX adF _];unfold Builtin.«set.__new__» aqv;have b5:=sub_set_self;obtain⟨aP,g,d,aG,os⟩:=s;dsimp only
 wp_walk
 refine Ø (a9 ?_);dsimp only;simp only[newObj];exact au (wpAny_alloc (a9 (a9 h)))
end
theorem Ņ{prog:bP}{w:bt}{A:cU}{R:q7->aF->Prop}{I:Addr}{cw wr:b4}{items:iA}{As:Nat->Heap->Prop}(W:Walks prog w A.in1 I cw wr items.size (λi v=>items[i]?=some v) As)(S:Addr)(qk:S∉cw)(l:List (Int×Tok))(aq:items.toList=l.map qM)(aK:(l.map (·.1)).Nodup)(U:l.length+1<scanBound):∀(k i:Nat)(s:aF),items.size-i=k->i<=items.size->As i s.heap->iL w s.heap S (l.take i).reverse->
   (∀h' aG,(∀b o,b≠S->b∉wr->s.heap.get? b=some o->h'.get? b=some o)->iL w h' S l.reverse->R (.ok (.ret .none)) {s with heap:=h',toks:=aG})->
   k9 (ba prog w) A (.builtin "set.update.loop" ⟨[.ref S,.ref I],[]⟩) R s:=by
 have Bw:S∉wr:=λz=>qk (W.sub _ z);have hsz:items.size=l.length:=by rw[<-kQ,aq,bh]
 intro k
 induction k with
 |zero=>
  intro i s aE ai st cP cF;obtain rfl:i=items.size:=by omega
  refine oM JT ?_;rw[qX Ai _];show aM _ A.in1 (iP (.ref I) >>=_) _ _ s;refine au (W.done s _ _ st λh' aG cm=>?_);show aM _ A.in1 (ret dY) _ _ _;rw[hsz,lY]at cP;exact a9 (cF h' aG (λb o _ U e=>cm b o U e) (cP.at' λo e=>cm S o Bw e))
 |succ k bk=>
  intro i s aE ai st cP cF;have bZ:i<items.size:=by omega
  have Yg:i<l.length:=by omega
  refine oM JT ?_;rw[qX Ai _];show aM _ A.in1 (iP (.ref I) >>=_) _ _ s;refine au (W.item i s _ _ bZ st λv ag aG f' Qh cm=>?_);obtain rfl:v=qM l[i]:=by
   have e:items.toList[i]?=some v:=by rw[qZ];exact f'
   rw[aq,cM,ct Yg]at e;exact(gZ e).symm
  have qj:=cP.at' (h':=ag) λo e=>cm S o Bw e;show aM _ A.in1 (nV [qM l[i]] (setAdd S (.int l[i].1 l[i].2)) >>=_) _ _ _;refine au (iv ?_);unfold setAdd;refine iv (au ((rv prog w).pyHash (k:=l[i].1) (YJ _ _ _ _) ?_));refine add_int qj (λz=>?_) (by rw[List.length_reverse,f_];omega) λaf b5 sT=>?_
  .rw[abO,List.mem_reverse,wM]at z;obtain⟨j,aQ,ei⟩:=hq z;rw[q2,sh]at ei;rw[f_,bh]at aQ;have cq:(l.map (·.1))[j]'(by rw[bh];omega)=(l.map (·.1))[i]'(by rw[bh];omega):=by rw[sh,sh];exact ei
   have:=(wL aK).mp cq;omega
  .have az:(l[i].1,l[i].2)::(l.take i).reverse=(l.take (i+1)).reverse:=by rw[mw,ct Yg,Option.toList_some,JB];rfl
   rw[az]at sT;refine a9 ⟨rJ Ai _,bk (i+1) _ (by omega) bZ (W.frame _ _ _ Qh λb c2 o e=>(b5.2 b λz=>qk (z▸c2)).trans e) sT λaV Qo Od xx=>?_⟩;exact cF aV Qo (λb o hC gK e=>Od b o hC gK ((b5.2 b hC).trans (cm b o gK e))) xx
set_option maxHeartbeats 8000000 in
theorem č{prog:bP}{w:bt}{A:cU}{E:cx}{s:aF}{t:Addr}{items:iA}{l:List (Int×Tok)}{Q:cx}(dy:A.handled=none)(cO:s.heap.IsTuple t items)(aq:items.toList=l.map qM)(aK:(l.map (·.1)).Nodup)(U:l.length+1<scanBound)(h:∀(h':Heap)(aG:Nat),iL w h' s.heap.objs.size l.reverse->(∀b o,s.heap.get? b=some o->h'.get? b=some o)->Q (.ref s.heap.objs.size) {s with heap:=h',toks:=aG}):
  aM (ba prog w) A (call (.type "set") [.ref t]) Q E s:=by
 obtain⟨c,c3,amc⟩:=uv.mro;have eO:=uv.made;have hD:=uv.sub;have vk:=uv.notType;have Ck:=uv.canCreate;have Cm:=PySem.F.typeCall_set_1 (.ref t);refine rV (LH ?_);show aM _ _ (callAny (.type "set") _) _ _ _;refine a9 ⟨IF _ (by decide+kernel),oM PySem.F.entry_type_call ?_⟩;rw[ü (apy "set" [.ref t] []) rfl]
 repeat (any_goals (first|assumption|wp_step))
 generalize oY:s.heap.objs.size=S at *;refine qa (adZ (.ref t) (E:=E) (Q:=λob s1=>ob=.ref S/\s1={s with heap:=s.heap.push (rN w)}) ⟨by rw[oY],rfl⟩) λr s1 ay=>?_;cases r with
 |error e=>exact ay
 |ok fI=>
  cases fI with
  |ret ob=>
   obtain⟨rfl,rfl⟩:=ay;have qm:(s.heap.push (rN w)).get? S=some (rN w):=by rw[<-oY];exact ff _ rfl
   have i6:J6 {s with heap:=s.heap.push (rN w)} (.ref S) "set":=⟨_,qm,rfl⟩
   have gB:=uv.init.lookup;have ew:=uv.init.bind (.ref S)
   repeat (any_goals (first|assumption|wp_step))
   refine qa (E7 (R:=wants (λr s2=>r=.none/\∃h' aG,s2={s with heap:=h',toks:=aG}/\iL w h' S l.reverse/\(∀b o,s.heap.get? b=some o->h'.get? b=some o)) E)
    uv.init.plain PySem.F.entry_set_init (ajM i6 ?_)) λdf s2 lx=>?_
   .obtain⟨⟨lF,cR,anV,oc⟩,rr,sX,nl,rm⟩:=id cO;simp only at sX rm;subst sX rm;have aml:=c6 (h:=s.heap) (rN w) rr;have dW:=Č;have ey:=ap4;have il:(mF "tuple"==mF "dict")=false:=by decide
    have qo:=cO.push (o:=rN w);unfold Builtin.«set.__init__» noKeywords đ;generalize Mu:vF=my
    wp_walk
    subst Mu;refine apK qo (au (Þ ?_));have BL:t<S:=by rw[<-oY];exact dm rr
    have hsz:(s.heap.push (rN w)).objs.size=S+1:=by rw[t6,oY]
    refine Ņ (Walks.tuple (A:=A.in1.in1.in1) (by simp[dy]) _ t (by rw[hsz];exact dP (uo BL)) items) S ?_ l aq aK U (items.size-0) 0 _ (by omega) (dM _) ⟨⟨_,ff _ rfl,rfl,rfl⟩,qo.push _⟩ ?_ ?_
    .rw[hsz];simp only[fp,eZ,or_false,not_or];exact⟨dP (sq _),uq BL⟩
    .exact iL.fresh (c6 _ qm)
    .intro h' aG cm rl;show aM _ _ _ _ _ _;refine a9 ?_;show aM _ _ (ret dY) _ _ _;refine a9 ⟨rfl,h',aG,rfl,rl,λb o e=>?_⟩;have sV:b<S:=by rw[<-oY];exact dm e
     exact cm b o (dP sV) (λz=>dP (uo sV) (by rw[hsz]at z;simpa using z)) (c6 _ (c6 _ e))
   .cases df with
    |error e=>exact lx
    |ok L_=>
     cases L_ with
     |ret r=>
      obtain⟨rfl,h',aG,rfl,rl,cm⟩:=lx
      repeat (any_goals (first|assumption|wp_step))
      exact h _ _ rl cm
     |_=>exact lx.elim
  |_=>exact ay.elim
theorem Pd{α:Type}:∀{l:List α}{i:Nat}(ai:i<l.length),(l[i]::l.eraseIdx i).Perm l
 |[],i,h=>bE h (z_ _)
 |x::l,0,_=>zW _
 |x::l,i+1,h=>(List.Perm.swap _ _ _).trans ((Pd (l:=l) (i:=i) (by simpa using h)).cons x)
theorem Tc{α:Type}(f:Nat->Nat):∀(n k:Nat)(l:List α)(out:Array α),l.length<=n->(pickOrder.go f n k l out).toList.Perm (out.toList++l)
 |0,k,l,out,h=>by obtain rfl:l=[]:=Jt.mp (by omega);unfold pickOrder.go;rw[iW]
 |n+1,k,l,out,h=>by
  unfold pickOrder.go;cases e:l[f k%l.length]? with
  |none=>
   have h0:l.length=0:=by
    rcases Nat.eq_zero_or_pos l.length with z|z
    .exact z
    .have:=acy (f k) z;rw[ct this]at e;cases e
   obtain rfl:l=[]:=Jt.mp h0;dsimp only;rw[iW]
  |some x=>
   dsimp only;obtain⟨ai,ex⟩:=gj.mp e;refine(Tc f n (k+1) _ _ (by rw[abI ai];omega)).trans ?_;rw[za,iV];refine En _ ?_;have:=Pd ai;rw[ex]at this;exact this
theorem aaO{α:Type}(f:Nat->Nat)(xs:Array α):(CQ f xs).toList.Perm xs.toList:=by unfold CQ;have:=Tc f xs.size 0 xs.toList #[] (by simp);simpa using this
section
variable{prog:bP}{w:bt}{A:cU}{E:cx}{s:aF}{a:Addr}
theorem ņ{src:Source}{n:Nat}{Q:Nat->aF->Prop}(aD:n≠0)(h:∀i d',i<n->Q i {s with drawn:=d'}):aM (ba prog w) A (choose src n) Q E s:=λtT p YH=>by unfold choose;rw[Sem.wp_choose];exact⟨aD,h _ _ (acy _ (Nat.pos_of_ne_zero aD))⟩
theorem Ï{α:Type}:∀(n:Nat)(xs:List α)(s:aF){Q:List α->aF->Prop},xs.length=n->(∀ys d',ys.Perm xs->Q ys {s with drawn:=d'})->aM (ba prog w) A (Wr n xs) Q E s
 |0,xs,s,Q,aD,h=>by obtain rfl:xs=[]:=Jt.mp aD;unfold Wr;exact a9 (h [] s.drawn (zW _))
 |n+1,[],s,Q,aD,h=>by cases aD
 |n+1,x::xs,s,Q,aD,h=>by unfold Wr;refine au (ņ (by simp) λi d' ai=>?_);rw[ct ai];dsimp only;refine au (Ï n _ _ (by rw[abI ai,aD];rfl) λys w9 aP=>a9 ?_);exact h _ w9 ((aP.cons _).trans (Pd ai))
theorem uK:Slot "set_iterator" "__next__" "set_iterator.__next__":=
 .of (owner:="set_iterator") (n:="__next__") (by rw[ao9,ajG];kernel_rfl) (by decide+kernel) (by decide+kernel) (by decide+kernel) (by first|exact .inl (by decide+kernel)|exact .inr (by decide+kernel)) (by rw[Gl];kernel_rfl)
theorem Zt:entryFor table "set_iterator.__next__"=some Builtin.«set_iterator.__next__»:=entryFor_of_tree (by kernel_rfl)
theorem ap5:entryFor table "set.__iter__"=some Builtin.«frozenset.__iter__»:=akV (id':="frozenset.__iter__") (by kernel_rfl) rfl (by decide+kernel) (by kernel_rfl)
theorem U2:Manifest.owners.lookup (String.ofList ['r','o','t','a','r','e','t','i','_','t','e','s'].reverse)=some Manifest.sig_set_iterator:=by kernel_rfl
end
theorem Td(a:Value):Az "set_iterator.__next__" ⟨[a],[]⟩:=by unfold Az;rw[signature?_of (id:="set_iterator.__next__") (n:=['_','_','t','x','e','n','_','_']) (o:=['r','o','t','a','r','e','t','i','_','t','e','s']) (by kernel_rfl) U2];kernel_rfl
theorem ZK:Slot "set_iterator" "__iter__" "set_iterator.__iter__":=
 .of (owner:="set_iterator") (n:="__iter__") (by rw[ao9,ajG];kernel_rfl) (by decide+kernel) (by decide+kernel) (by decide+kernel) (by first|exact .inl (by decide+kernel)|exact .inr (by decide+kernel)) (by rw[Gl];kernel_rfl)
theorem apk:entryFor table "set_iterator.__iter__"=some Builtin.«dict_keyiterator.__iter__»:=akV (id':="dict_keyiterator.__iter__") (by kernel_rfl) rfl (by decide+kernel) (by kernel_rfl)
theorem ap6(a:Value):Az "set_iterator.__iter__" ⟨[a],[]⟩:=by unfold Az;rw[signature?_of (id:="set_iterator.__iter__") (n:=['_','_','r','e','t','i','_','_']) (o:=['r','o','t','a','r','e','t','i','_','t','e','s']) (by kernel_rfl) U2];kernel_rfl
noncomputable def j9(h:Heap)(it a:Addr)(f:Value)(i n ep:Nat):Prop:=∃o,h.get? it=some o/\o.cls=.type "set_iterator"/\o.data=.fields #[f,.int i 0,.ref a,.int n 0,.int ep 0]
theorem j9.typeIs{s:aF}{it a:Addr}{f:Value}{i n ep:Nat}(h:j9 s.heap it a f i n ep):s.TypeIs (.ref it) "set_iterator":=let⟨o,aR,aC,_⟩:=h;⟨o,aR,aC⟩
noncomputable def nx(h:Heap)(a:Addr)(es:Array (Int×Value))(ep:Nat)(t:j'):Prop:=∃o,h.get? a=some o/\o.data=.set es ep t
section
variable{prog:bP}{w:bt}{A:cU}{E:cx}{s:aF}{a it:Addr}{es:Array (Int×Value)}{ep:Nat}{t:j'}
theorem zf{Q:(Array (Int×Value)×Nat×j')->aF->Prop}(cP:nx s.heap a es ep t)(hf:t.fits es.size=true)(h:Q (es,ep,t) s):aM (ba prog w) A (setState a) Q E s:=
 let⟨o,aR,hd⟩:=cP;apM aR hd hf h
theorem Ik{Q:Bool->aF->Prop}(h:Q (i0 w) s):aM (ba prog w) A setsByText Q E s:=by unfold setsByText;exact au (Ø (a9 h))
theorem acD{Q:Bool->aF->Prop}(cP:nx s.heap a es ep t)(hf:t.fits es.size=true)(h:Q (!i0 w&&(!t.plain&&decide (es.size>1))) s):aM (ba prog w) A (setDrawn a) Q E s:=by unfold setDrawn;refine au (zf cP hf ?_);dsimp only;exact au (Ik (a9 h))
theorem Ð{Q:Option (Value×Nat)->aF->Prop}{sl i:Nat}(cP:nx s.heap a es ep t)(hf:t.fits es.size=true)(U:i0 w=true)(h:Q (((CQ (w.params.setOrder a ep) es)[i]?).map λe=>(e.2,sl)) s):aM (ba prog w) A (P' a sl i ep) Q E s:=by unfold P';refine au (zf cP hf ?_);dsimp only;refine au (Ik ?_);rw[U,aO rfl,aJ (by simp)];refine au ?_;unfold setWalk;refine au (zf cP hf ?_);dsimp only;refine au (Ik ?_);rw[U,aO rfl];exact au (Ø (a9 (a9 h)))
theorem Ζ{Q:Option (Value×Nat)->aF->Prop}{sl i:Nat}(cP:nx s.heap a es ep t)(hf:t.fits es.size=true)(U:i0 w=false)(aP:(!t.plain&&decide (es.size>1))=false)(g:eK t)(h:Q (match es[mC t.place sl]?,t.place[mC t.place sl]? with|some e,some j=>some (e.2,j+1)|_,_=>none) s):aM (ba prog w) A (P' a sl i ep) Q E s:=by
 unfold P';refine au (zf cP hf ?_);dsimp only;refine au (Ik ?_);rw[U,aJ (by decide)];refine DF (λz=>?_) (λ_=>?_)
 .have dz:(!t.plain&&decide (es.size>1))=true:=z;rw[aP]at dz;cases dz
 refine au ?_
 wp_delta
 refine DF (λz=>?_) (λ_=>?_)
 .rw[g.led]at z;cases z
 refine a9 (a9 ?_);generalize es[mC t.place sl]?=x at h⊢;generalize t.place[mC t.place sl]?=y at h⊢;cases x<;>cases y<;>exact h
theorem Ň{Q:cx}{j:Nat}{e:Int×Value}(cP:nx s.heap a es ep t)(hf:t.fits es.size=true)(he:es[j]?=some e)(h:Q e.2 s):aM (ba prog w) A (setNextDrawn a j ep) Q E s:=by unfold setNextDrawn;refine au (zf cP hf ?_);dsimp only;rw[aJ (by simp),he];exact a9 h
inductive Mode(w:bt)(h:Heap)(a:Addr)(es:Array (Int×Value))(ep:Nat)(t:j')(ord:List (Int×Value))(i:Nat)(f:Value):Prop where
 |text (b:i0 w=true) (e:f=.int 0 0) (o:ord=(CQ (w.params.setOrder a ep) es).toList)
 |place (b:i0 w=false) (p:(!t.plain&&decide (es.size>1))=false) (g:eK t) (o:ord=es.toList) (sl:Nat) (e:f=.int sl 0) (bf:mC t.place sl=i)
 |drawn (b:i0 w=false) (cc:Addr) (cR:bj) (e:f=.ref cc) (pA:h.IsTuple cc (cR.map λk:Nat=>mE k 0).toArray) (o:ord.length=cR.length) (at_:∀k j:Nat,cR[k]?=some j->∃e,es[j]?=some e/\ord[k]?=some e)
theorem j9.next{h:Heap}{f:Value}{i n:Nat}(hit:j9 h it a f i n ep)(eT:Value):j9 ((h.update it (q6 (·.setIfInBounds 0 eT))).update it (q6 (·.setIfInBounds 1 (h3 ((i:Int)+1))))) it a eT (i+1) n ep:=by obtain⟨o,aR,aC,hd⟩:=hit;have ax:=mu (q6 (·.setIfInBounds 0 eT)) aR (Af (oE hd _));have jQ:=oE hd (·.setIfInBounds 0 eT);have az:=mu (q6 (·.setIfInBounds 1 (h3 ((i:Int)+1)))) ax (Af (oE jQ _));exact⟨_,az,((JL ..).trans (JL ..)).trans aC,by rw[oE jQ];simp[h3]⟩
theorem j9.anp{h:Heap}{f:Value}{i n:Nat}(hit:j9 h it a f i n ep):j9 (h.update it (q6 (·.setIfInBounds 1 (h3 ((i:Int)+1))))) it a f (i+1) n ep:=by obtain⟨o,aR,aC,hd⟩:=hit;have az:=mu (q6 (·.setIfInBounds 1 (h3 ((i:Int)+1)))) aR (Af (oE hd _));exact⟨_,az,(JL ..).trans aC,by rw[oE hd];simp[h3]⟩
theorem put2{i n:Nat}{f eT x:Value}{R:JU->aF->Prop}{SP:cx}{ø:cU}(hit:j9 s.heap it a f i n ep)(h:∀h',j9 h' it a eT (i+1) n ep->kx it s.heap h'->R (.done (.ret x)) {s with heap:=h'}):
  aM (ba prog w) ø (do tG (.ref it) 0 eT;tG (.ref it) 1 (h3 ((i:Int)+1));ret x) R SP s:=by obtain⟨o,aR,aC,hd⟩:=id hit;have ax:=mu (q6 (·.setIfInBounds 0 eT)) aR (Af (oE hd _));have jQ:=oE hd (·.setIfInBounds 0 eT);refine au (rX aR hd (by simp) (au (rX ax jQ (by simp) (a9 ?_))));exact h _ (hit.next eT) ((ow ..).trans (ow ..))
theorem af5{Q:Option Value->aF->Prop}{f:Value}{i:Nat}{ord:List (Int×Value)}(hit:j9 s.heap it a f i es.size ep)(cP:nx s.heap a es ep t)(hf:t.fits es.size=true)(m:Mode w s.heap a es ep t ord i f)(aq:ord.length=es.size)(ai:i<es.size)(dk:∀(e:Int×Value)(h':Heap)(eT:Value),ord[i]?=some e->j9 h' it a eT (i+1) es.size ep->(Mode w s.heap a es ep t ord (i+1) eT)->(∀cc,eT=.ref cc->f=.ref cc)->kx it s.heap h'->Q (some e.2) {s with heap:=h'}):aM (ba prog w) A (iP (.ref it)) Q E s:=by
 obtain⟨yr,kl,u0,jx⟩:=id hit;have T0:=hit.typeIs;unfold iP;refine au (yZ (y0 (name:=j_ "__next__") T0 uK (kO uK T0 Zt ?_ (Td _))));unfold Builtin.«set_iterator.__next__»;refine au (a9 ?_);dsimp only;refine au (rW kl jx ?_);change aM _ _ (setEntries a >>=_) _ _ s;obtain⟨vC,xH,By⟩:=id cP;refine au (ß xH By hf ?_);rw[aJ (by simp)];simp only[lX];have lt:i<ord.length:=by rw[aq];exact ai
 have e':=ct lt;cases m with
 |text b e o=>
  subst e;dsimp only;refine au (Ð (i:=i) (sl:=0) cP hf b ?_);have ax:(CQ (w.params.setOrder a ep) es)[i]?=some ord[i]:=by rw[<-qZ,<-o];exact e'
  rw[ax];exact put2 hit λh' st b5=>⟨_,rfl,a9 (dk _ h' _ e' st (.text b rfl o) (λ_ z=>nomatch z) b5)⟩
 |place b p g o sl e bf=>
  subst e;dsimp only;have aP:i<t.place.size:=by simp only[SetTable.fits,kR,oK]at hf;omega
  have AY:es[i]?=some ord[i]:=by rw[<-qZ,<-o];exact e'
  refine au (Ζ (sl:=sl) cP hf b p g ?_);rw[bf,AY,qY aP];refine put2 hit λh' st b5=>⟨_,rfl,a9 (dk _ h' _ e' st (.place b p g o (t.place[i]+1) rfl ?_) (λ_ z=>nomatch z) b5)⟩
  exact QC g.up aP (λk aE q=>by
   rcases JJ (show k<=i by omega)with q|q
   .exact uo (g.up.lt q aP)
   .subst q;exact sq _) (λk aE q=>g.up.lt (by omega) aE)
 |drawn b cc cR e pA o at_=>
  subst e;dsimp only;have lo:i<cR.length:=by omega
  obtain⟨e,ax,az⟩:=at_ i cR[i] (ct lo);obtain⟨CF,Nc,alJ,el,MX⟩:=id pA;refine au (H6 Nc MX ?_);dsimp only;have cq:(cR.map λk:Nat=>mE k 0).toArray[i]?=some (.int cR[i] 0):=by rw[abG,cM,ct lo];rfl
  rw[cq];dsimp only;rw[lX];refine au (Ň cP hf ax (au (rX kl jx (by simp) (a9 ?_))));exact⟨_,rfl,a9 (dk e _ _ az hit.anp (.drawn b cc cR rfl pA o at_) (λ_ z=>z) (ow ..))⟩
theorem Ro{R:JU->aF->Prop}{Q:Option Value->aF->Prop}{h0:Heap}(dy:A.handled=none)(k:Ee it h0 s.heap)(dk:∀h',Ee it h0 h'->Q none {s with heap:=h'}):
  aM (ba prog w) A.in1 (do let x <-Cz (.type "StopIteration") [];PN x) R (λe s'=>aM (ba prog w) A (do if(<-Gk e (.type "StopIteration"))=true then pure none else throw e) Q E s') s:=by refine au ?_;simp only[Cz,newTuple];refine au (nh ?_ (by size_fits));refine au (m:=Bo _ _) (y2 (a:=dY) (by first|rfl|(simp only[Bo];rfl)) (nh ?_ (by size_fits)));have iK:A.in1.handled=none:=dy;simp only[PN];refine au (Û ?_);rw[iK];refine au (a9 (à ?_));refine au (H4 (b:=true) (T:="StopIteration") ⟨_,ff _ rfl,rfl⟩ YM ?_);exact a9 (dk _ (zM (zM k _) _))
theorem ad0{Q:Option Value->aF->Prop}{f:Value}{ord:List (Int×Value)}(dy:A.handled=none)(hit:j9 s.heap it a f es.size es.size ep)(cP:nx s.heap a es ep t)(hf:t.fits es.size=true)(m:Mode w s.heap a es ep t ord es.size f)(aq:ord.length=es.size)(dk:∀h',Ee it s.heap h'->Q none {s with heap:=h'}):aM (ba prog w) A (iP (.ref it)) Q E s:=by
 obtain⟨yr,kl,u0,jx⟩:=id hit;have T0:=hit.typeIs;unfold iP;refine au (yZ (y0 (name:=j_ "__next__") T0 uK (kO uK T0 Zt ?_ (Td _))));unfold Builtin.«set_iterator.__next__»;refine au (a9 ?_);dsimp only;refine au (rW kl jx ?_);change aM _ _ (setEntries a >>=_) _ _ s;obtain⟨vC,xH,By⟩:=id cP;refine au (ß xH By hf ?_);rw[aJ (by simp)];simp only[lX];cases m with
 |text b e o=>
  subst e;dsimp only;refine au (Ð (i:=es.size) (sl:=0) cP hf b ?_);have ax:(CQ (w.params.setOrder a ep) es)[es.size]?=none:=by rw[<-qZ,<-o];exact sg (by omega)
  rw[ax];exact au (rX kl jx (by simp) (Ro dy (Ef (ow ..)) dk))
 |place b p g o sl e bf=>
  subst e;dsimp only;refine au (Ζ (sl:=sl) cP hf b p g ?_);rw[bf,tU (b1 _)];exact au (rX kl jx (by simp) (Ro dy (Ef (ow ..)) dk))
 |drawn b cc cR e pA o at_=>
  subst e;dsimp only;obtain⟨CF,Nc,alJ,el,MX⟩:=id pA;refine au (H6 Nc MX ?_);dsimp only;rw[tU (by rw[ek,bh];omega)];have bq:=mu (q6 (·.setIfInBounds 0 (h3 0))) kl (Af (oE jx _));have jQ:=oE jx (·.setIfInBounds 0 (h3 0));refine au (rX kl jx (by simp) (au (rX bq jQ (by simp) ?_)));exact Ro dy (Ef ((ow ..).trans (ow ..))) dk
end
section
variable{prog:bP}{w:bt}{A:cU}{E:cx}{s:aF}{a it:Addr}{es:Array (Int×Value)}{ep:Nat}{t:j'}{l:List (Int×Tok)}
structure Vs(w:bt)(h h':Heap)(a it:Addr)(l:List (Int×Tok))(es:Array (Int×Value))(ep:Nat)(t:j')(ord:List (Int×Value))(f:Value):Prop where
 set:nx h' a es ep t
 fits:t.fits es.size=true
 pm:es.toList.Perm (l.map ent)
 po:ord.Perm es.toList
 aoG:j9 h' it a f 0 es.size ep
 mg:Mode w h' a es ep t ord 0 f
 new:h.objs.size<=it
 ext:∀b o,h.get? b=some o->h'.get? b=some o
 gA:∀cc,f=.ref cc->cc≠it/\h.objs.size<=cc
theorem af6{Q:cx}(cP:iL w s.heap a l)(dk:∀h' d' it es ep t ord f,Vs w s.heap h' a it l es ep t ord f->Q (.ref it) {s with heap:=h',drawn:=d'}):aM (ba prog w) A (vF (.ref a)) Q E s:=by
 obtain⟨o,es,ep,t,aR,ao,hd,aP,aq,hf,bx⟩:=cP;have qi:nx s.heap a es ep t:=⟨o,aR,hd⟩
 have T0:s.TypeIs (.ref a) "set":=⟨o,aR,ao.1⟩
 refine H5 T0 adH (kO adH T0 ap5 ?_ (PySem.F.args_set_iter_1 _));unfold Builtin.«frozenset.__iter__» aqx;refine au (au (a9 ?_));dsimp only[aqu];refine a9 ?_;unfold aqw;refine au (au (ß aR hd hf (a9 ?_)));refine au (acD qi hf ?_);have b0:=Ce aP;refine DF (λaC=>?_) (λaC=>?_)
 .have U:i0 w=false:=by
   cases U:i0 w with
   |false=>rfl
   |true=>rw[U]at aC;cases aC
  refine au (Ï es.size (da es.size) s j8 λcR d' pm=>?_);have lo:cR.length=es.size:=by rw[pm.length_eq,j8]
  refine au (Q0 ?_ (by rw[bh,lo];exact L' (by omega)));have s6:=c6 (h:=s.heap) {cls:=.type "tuple",data:=.seq (cR.map λi:Nat=>h3 (i:Int)).toArray} aR;have pA:(s.heap.push {cls:=.type "tuple",data:=.seq (cR.map λi:Nat=>h3 (i:Int)).toArray}).IsTuple s.heap.objs.size (cR.map λk:Nat=>mE k 0).toArray:=⟨_,ff _ rfl,rfl,_,rfl⟩
  refine au (apL (s:={s with heap:=s.heap.push {cls:=.type "tuple",data:=.seq (cR.map λi:Nat=>h3 (i:Int)).toArray},drawn:=d'}) s6 hd hf ?_);refine au (nh ?_);refine a9 ⟨_,rfl,"set_iterator",_,⟨_,ff _ rfl,rfl⟩,uK.lookup,dk _ d' _ es ep t (cR.map λj=>es.getD j (0,.none)) _ ⟨⟨o,c6 _ s6,hd⟩,hf,aP,?_,⟨_,ff _ rfl,rfl,by simp[h3]⟩,.drawn U s.heap.objs.size cR rfl (pA.push _) ?_ ?_,?_,λb o e=>c6 _ (c6 _ e),?_⟩⟩
  .refine(pm.map _).trans ?_;have:(da es.size).map (λj=>es.getD j (0,.none))=es.toList:=by
    apply Et;intro k;rw[cM,show es.toList[k]?=es[k]? from qZ];by_cases aE:k<es.size
    .rw[Ew aE,qY aE];simp[lR,aE]
    .rw[sg (by rw[j8];omega),tU (by omega)];rfl
   rw[this]
  .rw[bh]
  .intro k j e;have aQ:j<es.size:=by have:=pm.mem_iff.mp (eQ e);simpa using this
   refine⟨es[j],qY aQ,?_⟩;rw[cM,e];simp[lR,aQ]
  .show s.heap.objs.size<=(s.heap.push _).objs.size;rw[t6];omega
  .intro cc z;cases z;refine⟨?_,b1 _⟩;show s.heap.objs.size≠(s.heap.push _).objs.size;rw[t6];omega
 .refine au (a9 (au (apL aR hd hf ?_)));refine au (nh ?_);have mg:∃ord,ord.Perm es.toList/\∀h',Mode w h' a es ep t ord 0 (.int 0 0):=by
   cases U:i0 w with
   |true=>exact⟨_,aaO _ _,λ_=>.text U rfl rfl⟩
   |false=>
    have g:eK t:=bx.resolve_left (by rw[U];decide);refine⟨_,zW _,λ_=>.place U ?_ g rfl 0 rfl ?_⟩
    .rw[U]at aC;simpa using aC
    .exact QC g.up (dM _) (λi _ q=>bE q (z_ _)) (λi _ _=>dM _)
  obtain⟨ord,po,mg⟩:=mg;refine a9 ⟨_,rfl,"set_iterator",_,⟨_,ff _ rfl,rfl⟩,uK.lookup,dk _ s.drawn _ es ep t ord (.int 0 0) ⟨⟨o,c6 _ aR,hd⟩,hf,aP,po,⟨_,ff _ rfl,rfl,by simp[h3]⟩,mg _,b1 _,λb o e=>c6 _ e,λcc z=>nomatch z⟩⟩
noncomputable def Kj(f:Value)(it:Addr):Addr:=match f with|.ref cc=>cc|_=>it
theorem aaP{h0 h:Heap}{ord:List (Int×Value)}{f:Value}(dy:A.handled=none)(B:Vs w h0 h a it l es ep t ord f)(aH:a<h0.objs.size):
  Walks prog w A it [it,a,Kj f it] [it] es.size (λi v=>∃e,ord[i]?=some e/\v=e.2) (λi h'=>∃eT,j9 h' it a eT i es.size ep/\nx h' a es ep t/\Mode w h' a es ep t ord i eT/\(∀cc,eT=.ref cc->f=.ref cc))where
 sub:=λb U=>by simp at U;simp[U]
 frame:=λi ag af⟨eT,⟨yr,ax,az⟩,⟨vC,cq,et⟩,mg,q_⟩k=>by
  refine⟨eT,⟨yr,k it (by simp) _ ax,az⟩,⟨vC,k a (by simp) _ cq,et⟩,?_,q_⟩;cases mg with
  |text b e o=>exact .text b e o
  |place b p g o sl e bf=>exact .place b p g o sl e bf
  |drawn b cc cR e pA o at_=>
   have:=q_ cc e;subst this;obtain⟨CF,bq,cj⟩:=pA;exact .drawn b cc cR e ⟨CF,k cc (by simp[Kj]) _ bq,cj⟩ o at_
 item:=λi s Q E ai⟨eT,st,aU,mg,q_⟩dk=>by
  have ne:a≠it:=dP (iz aH B.new);refine af5 st aU B.fits mg (by rw[B.po.length_eq,kQ]) ai λe h' ak2 e' aN am8 WE b5=>dk e.2 h' s.toks ⟨e,e',rfl⟩ ⟨ak2,aN,?_,?_,?_⟩ λb o U e=>(b5.2 b (λz=>U (by simp[z]))).trans e
  .obtain⟨vC,bq,cj⟩:=aU;exact⟨vC,(b5.2 a ne).trans bq,cj⟩
  .cases am8 with
   |text b e o=>exact .text b e o
   |place b p g o sl e bf=>exact .place b p g o sl e bf
   |drawn b cc cR e pA o at_=>
    obtain⟨CF,bq,cj⟩:=pA;exact .drawn b cc cR e ⟨CF,(b5.2 cc (B.gA cc (q_ cc (WE cc e))).1).trans bq,cj⟩ o at_
  .exactλcc z=>q_ cc (WE cc z)
 done:=λs Q E⟨eT,st,aU,mg,q_⟩dk=>ad0 dy st aU B.fits mg (by rw[B.po.length_eq,kQ]) λh' dN=>dk h' s.toks λb o U e=>dN b o (λz=>U (by simp[z])) e
 self:=λi s Q E⟨eT,st,aU,mg,q_⟩dk=>by refine H5 st.typeIs ZK (kO ZK st.typeIs apk ?_ (ap6 _));show aM _ _ (ret (.ref it)) _ _ s;exact a9 ⟨_,rfl,"set_iterator",_,st.typeIs,uK.lookup,dk⟩
end
open PySem.W
section
variable{prog:bP}{w:bt}{A:cU}{E:cx}{s:aF}{a:Addr}{l:List (Int×Tok)}
theorem acE{Q:Bool->aF->Prop}(i6:s.TypeIs (.ref a) "set")(h:Q false s):aM (ba prog w) A (Ē (.ref a)) Q E s:=by
 unfold Ē;refine au (apN i6 PySem.F.slot_set_len.lookup ?_);generalize Ye:("set.__len__":String)=amR
 wp_delta
 rw[show splitId amR=some ("set","__len__")from by subst Ye;decide+kernel];subst Ye;refine au (H4 (T:="set") (b:=true) i6 (by rw[Gl];kernel_rfl) ?_);refine DF (λz=>bE z (by decide)) (λ_=>DF (λ_=>?_) (λz=>bE (by decide+kernel) z));exact au (wpAny_typeOf i6 (a9 h))
theorem acF{ord es:List (Int×Value)}{acc:iA}(po:ord.Perm es)(an4:es.Perm (l.map ent))(h:ItemsOf (λi v=>∃e,ord[i]?=some e/\v=e.2) acc es.length):acc.toList.Perm (l.map qM):=by
 have e:acc.toList=ord.map (·.2):=by
  apply Et;intro j;rw[cM];by_cases aQ:j<es.length
  .have BK:j<acc.size:=by rw[h.1];exact aQ
   obtain⟨e,ax,az⟩:=h.2 j acc[j] (by simp[BK]);rw[ax,qZ,qY BK];exact e9 some az
  .rw[sg (by rw[kQ,h.1];omega),sg (by rw[po.length_eq];omega)];rfl
 rw[e];have:=(po.trans an4).map (·.2);rw[fS]at this;exact this
theorem iL.typeIs(cP:iL w s.heap a l):s.TypeIs (.ref a) "set":=let⟨o,_,_,_,aR,ao,_⟩:=cP;⟨o,aR,ao.1⟩
theorem ň{R:q7->aF->Prop}(dy:A.handled=none)(cP:iL w s.heap a l)(S:Addr)(XQ:S≠a)(res:Value)(AG:Nat)(gJ:s.heap.get? S=some {cls:=.type "list",data:=.seq #[] AG})(cF:∀h' d' aG acc c,(∀b o,b≠S->s.heap.get? b=some o->h'.get? b=some o)->h'.get? S=some {cls:=.type "list",dict:=none,data:=.seq acc c,slots:=#[]}->acc.toList.Perm (l.map qM)->R (.ok (.ret res)) {s with heap:=h',drawn:=d',toks:=aG}):
  aM (ba prog w) A.in1 (Sz (.ref S) (.ref a) res)
   (λfin s'=>match fin with|.done f=>R (.ok f) s'|.again gz=>gz.quiet=true/\k9 (ba prog w) A gz R s') (λe s'=>R (.error e) s') s:=by
 have i6:=cP.typeIs;have aH:a<s.heap.objs.size:=let⟨_,_,_,_,aR,_⟩:=cP;dm aR
 have My:S<s.heap.objs.size:=dm gJ;have ln:l.length<scanBound:=let⟨_,_,_,_,_,_,_,_,h,_⟩:=cP;h
 unfold Sz;refine au (wpAny_typeOf (T:="set") i6 ?_);have ag:ē (.ref S) (.ref a)=false:=by simp[ē,XQ]
 have af:(mF "set"==mF "list")=false:=by decide
 have aV:(mF "set"==mF "tuple")=false:=by decide
 simp only[ag,af,aV,Ċ,tW,if_false];refine au (af6 cP λh' d' it es ep t ord f B=>?_);have z:=Ce B.pm;have W:=aaP (prog:=prog) (A:=A.in1) dy B aH;have Z9:∃eT,j9 h' it a eT 0 es.size ep/\nx h' a es ep t/\Mode w h' a es ep t ord 0 eT/\(∀cc,eT=.ref cc->f=.ref cc):=⟨f,B.aoG,B.set,B.mg,λ_ z=>z⟩
 have qk:S∉[it,a,Kj f it]:=λhm=>by
  have gB:=B.new;rcases fp.mp hm with e|hm
  .exact bE e (dP (iz My gB))
  rcases fp.mp hm with e|hm
  .exact XQ e
  have e:=fD.mp hm;cases f with
  |ref cc=>exact bE e (dP (iz My (B.gA cc rfl).2))
  |_=>exact bE e (dP (iz My gB))
 have Mt:=B.ext _ _ gJ;have key:∀(af:Heap)(eE aG:Nat),(∃eT,j9 af it a eT 0 es.size ep/\nx af a es ep t/\Mode w af a es ep t ord 0 eT/\(∀cc,eT=.ref cc->f=.ref cc))->(∀b o,b≠S->s.heap.get? b=some o->af.get? b=some o)->
   af.get? S=some {cls:=.type "list",data:=.seq #[] eE}->k9 (ba prog w) A (.builtin "list.extend.loop" ⟨[.ref S,.ref it,res],[]⟩) R {s with heap:=af,drawn:=d',toks:=aG}:=by
  intro af eE aG st aE FW;refine codeAny_extend_loopS W.toS (L' (by omega)) S qk res es.size 0 _ #[] eE rfl (dM _) st FW (ItemsOf.nil _) λs' acc gz hm uY oZ=>?_;rw[Moved.eq_with hm];refine cF s'.heap d' s'.toks acc gz (λb o U e=>hm.heap b o (λrp=>?_) (aE b o U e)) uY (acF B.po B.pm (by rw[kQ];exact oZ));rcases fp.mp rp with b9|rp
  .exact U b9
  .have:=dm e;have gB:=B.new;rw[fD.mp rp]at this;exact bE this (Nat.not_lt.mpr gB)
 have qj:iL w h' a l:=cP.at' λo e=>B.ext _ _ e;refine au (iv (acE (iL.typeIs (s:={s with heap:=h',drawn:=d'}) qj) ?_));refine DF (λ_=>?_) (λ_=>a9 ⟨rJ adD _,key _ AG _ Z9 (λb o _ e=>B.ext _ _ e) Mt⟩);refine au (DI ?_);refine au ?_;show aM _ _ (QL S (·.push .none) >>=λ_=>QL S (·.pop)) _ _ _;refine au (H9 Mt rfl ?_);have FW:=mu (jI (·.push dY)) Mt rfl;refine H9 (hz:=by seq_fits) FW rfl ?_;have alv:=mu (jI (·.pop)) FW rfl;have Zv:∀b o,b≠S->h'.get? b=some o->((h'.update S (jI (·.push dY))).update S (jI (·.pop))).get? b=some o:=λb o U e=>(ox _ _ (d8 U)).trans ((ox _ _ (d8 U)).trans e);exact a9 ⟨rJ adD _,key _ _ _ (W.frame 0 _ _ Z9 λb U o e=>Zv b o (λz=>qk (z▸U)) e) (λb o U e=>Zv b o U (B.ext _ _ e)) alv⟩
theorem Ė{R:List Value->aF->Prop}(dy:A.handled=none)(cP:iL w s.heap a l)(h:∀(h':Heap)d'(aG:Nat)(vs:b_),(∀b o,s.heap.get? b=some o->h'.get? b=some o)->vs.Perm (l.map qM)->R vs {s with heap:=h',drawn:=d',toks:=aG}):
  aM (ba prog w) A (collect (.ref a)) R E s:=by
 have aH:a<s.heap.objs.size:=let⟨_,_,_,_,aR,_⟩:=cP;dm aR
 unfold collect;refine au (Þ (oM entry_proto_collect' ?_));rw[qX PySem.F.plain_proto_collect _];show aM _ A.in1 (newList [] >>=λl=>again (.builtin "list.__iadd__" ⟨[l,.ref a],[]⟩)) _ _ s;refine au (nh ?_);refine a9 ⟨rJ adE _,oM entry_list_iadd' ?_⟩;rw[qX adE _];have gJ:(s.heap.push {cls:=.type "list",data:=.seq ([]:b_).toArray}).get? s.heap.objs.size=some {cls:=.type "list",data:=.seq #[]}:=ff _ rfl;show aM _ A.in1 (Sz (.ref s.heap.objs.size) (.ref a) (.ref s.heap.objs.size)) _ _ _;have key:=ň (A:=A) (s:={s with heap:=s.heap.push {cls:=.type "list",data:=.seq ([]:b_).toArray}})
  (R:=λ(q:q7)(s':aF)=>∃(h':Heap)(d':Drawn)(aG:Nat)(acc:iA)(c:Nat),q=.ok (.ret (.ref s.heap.objs.size))/\s'={s with heap:=h',drawn:=d',toks:=aG}/\
   (∀b o,s.heap.get? b=some o->h'.get? b=some o)/\h'.get? s.heap.objs.size=some {cls:=.type "list",dict:=none,data:=.seq acc c,slots:=#[]}/\acc.toList.Perm (l.map qM))
  (prog:=prog) dy (cP.at' λo e=>c6 _ e) s.heap.objs.size (uq aH) (.ref s.heap.objs.size) 0 gJ
  (λh' d' aG acc c aE uY oZ=>⟨h',d',aG,acc,c,rfl,rfl,λb o e=>aE b o (dP (dm e)) (c6 _ e),uY,oZ⟩)
 refine e6 key (λfin s' x=>?_) λe s' x=>?_
 .cases fin with
  |done f=>
   obtain⟨h',d',aG,acc,c,e,rfl,aE,uY,oZ⟩:=x;cases e;show aM _ A (load s.heap.objs.size >>=_) _ _ _;refine au (Ý uY ?_);exact a9 (h h' d' aG acc.toList aE oZ)
  |again eE=>
   refine⟨x.1,qa x.2 λq s2 y=>?_⟩;obtain⟨h',d',aG,acc,c,rfl,rfl,aE,uY,oZ⟩:=y;show aM _ A (load s.heap.objs.size >>=_) _ _ _;refine au (Ý uY ?_);exact a9 (h h' d' aG acc.toList aE oZ)
 .obtain⟨_,_,_,_,_,b9,_⟩:=x;cases b9
end
noncomputable def tx(w:bt)(a:Addr)(ns:fh):d4:=.ext λh=>∃l:List (Int×Tok),(l.map (·.1)).Perm ns/\iL w h a l
noncomputable def intOf:Value->Int|.int n _=>n|_=>0
theorem U4:∀{ns:fh}{its:b_},cp (ns.map V.int) its->∃l:List (Int×Tok),its=l.map qM/\l.map (·.1)=ns
 |[],[],_=>⟨[],rfl,rfl⟩
 |n::ns,_::its,.cons h r=>by obtain⟨l,rfl,rfl⟩:=U4 r;obtain⟨t,rfl⟩:=h;exact⟨(n,t)::l,rfl,rfl⟩
theorem SD{l:List (Int×Tok)}:∀{vs:b_},(∀v∈vs,∃p:Int×Tok,v=qM p)->cp ((vs.map intOf).map V.int) vs
 |[],_=>.nil
 |v::vs,h=>.cons (by obtain⟨p,rfl⟩:=h v (by simp);exact⟨p.2,rfl⟩) (SD (l:=l) λv bI=>h v (by simp[bI]))
theorem ad1{xs ys:fh}(p:xs.Perm ys)(ao:xs.Pairwise (· < ·))(aZ:ys.Pairwise (· < ·)):xs=ys:=
 p.eq_of_pairwise (λa b _ _ ag af=>bE (aae ag af) (Int.lt_irrefl _)) ao aZ
section
variable{X:bB}
theorem Inv.drew{pins:cG}{σ:List (Option V)}{H:aa}{s:aF}(I:Inv X pins σ H s)(d':Drawn):Inv X pins σ H {s with drawn:=d'}:=⟨I.ok,I.os,I.bare,I.base,I.loc,I.cell,I.free,I.l9,I.pin,I.bo,I.len⟩
inductive ahv(w:bt)(K:aY)(xs:a')(H:aa)(Q:bl):Prop where
 |mk (p:Addr) (ns:fh) (b0:xs=[.ref p]) (bH:b2 K H p (ns.map V.int)) (cu:ns.Nodup) (cS:ns.length<1000) (dw:∀q,H q=none->Q (.ref q) (upd H q (tx w q ns)))
theorem Ŋ(aC:X.calm=true):iF X (.type "set") (ahv X.w X.K):=by intro pins s σ H xs us Q I r h;obtain⟨p,ns,rfl,bp,aK,aq,q⟩:=h;obtain⟨u,rfl,eA⟩:=vals1 r;cases eA;obtain⟨its,cg,pt,hz⟩:=I.tuple bp;obtain⟨l,rfl,rfl⟩:=U4 cg;rw[bh]at aq;refine č (l:=l) (I.ok.hd aC) pt rfl aK (by unfold scanBound;omega) λh' aG cP cm=>?_;refine⟨.ref s.heap.objs.size,_,I.laid cm (b1 _) ?_,rfl,q _ (I.bo.fresh (b1 _))⟩;obtain⟨o,es,ep,t,aR,cB⟩:=id cP;refine⟨⟨l.reverse,?_,cP⟩,⟨o,aR⟩,λag af⟨ij,pl,s1⟩eV=>⟨ij,pl,s1.at' eV⟩⟩;rw[abO];exact List.reverse_perm _
inductive ahw(w:bt)(xs:a')(H:aa)(Q:bl):Prop where
 |mk (p:Addr) (ns:fh) (b0:xs=[.ref p]) (bH:H p=some (tx w p ns)) (cu:ns.Pairwise (· < ·)) (cS:ns.length<64) (dw:∀q,H q=none->Q (.ref q) (upd H q (.lst (ns.map V.int))))
theorem apl(aC:X.calm=true):iF X (.builtin "sorted") (ahw X.w):=by
 intro pins s σ H xs us Q I r h;obtain⟨p,ns,rfl,bp,up,x5,q⟩:=h;obtain⟨u,rfl,eA⟩:=vals1 r;cases eA;obtain⟨⟨l,pl,cP⟩,_,_⟩:=(show er X.prog X.w H s.heap p (tx X.w p ns)from I.bo p _ bp)
 have dy:X.A.handled=none:=I.ok.hd aC;refine D1 Oc Pm LY (Lo (.ref p)) ?_;unfold Builtin.«sorted»;refine au (m:=LG "sorted" 1 1 _) (a9 ?_);refine au (Ė (A:=X.A.in1) dy cP λag d' aG vs fX ah=>?_);have kN:vs.length=ns.length:=by rw[ah.length_eq,bh,<-pl.length_eq,bh]
 have cg:cp ((vs.map intOf).map V.int) vs:=SD (l:=l) λv bI=>by obtain⟨y,_,rfl⟩:=cf.mp (ah.mem_iff.mp bI);exact⟨y,rfl⟩
 have d_:(vs.map intOf).Perm ns:=by refine(ah.map intOf).trans ?_;rw[fS];exact pl
 have es:sortI (vs.map intOf)=ns:=ad1 ((sortI_perm _).trans d_) (Sd (d_.nodup_iff.mpr (up.imp λh=>aag h))) up;have big:vs.length<=sizeLine:=by rw[pv];omega
 have aX:Inv X pins σ H {s with heap:=ag,drawn:=d',toks:=aG}:=Inv.drew (I.kept (t':=aG) λb o e=>fX b o e) d';refine au (DH ?_ big);have ck:(ag.push (fe "list" vs.toArray 0)).get? ag.objs.size=some (fe "list" vs.toArray 0):=ff _ rfl;refine au (iv (kO Qd ⟨_,ck,rfl⟩ LX ?_ (Ln _)));refine Rw (s:={s with heap:=ag.push (fe "list" vs.toArray 0),drawn:=d',toks:=aG}) (κ:=G1) (lt:=ltI (vs.map intOf)) ck (by omega) (λaf s1 x kX dk=>PK cg af dk) (λaf s1 x i j C ai aQ dV=>QA cg ai aQ dV) λh' c x aC=>?_;refine⟨_,rfl,a9 ⟨_,rfl,?_⟩⟩;refine⟨.ref ag.objs.size,_,aX.laid (a:=ag.objs.size) (o:=.lst (ns.map V.int)) (t':=aG) (λb o q=>x b o (dP (dm q)) (c6 _ q)) (b1 _) ?_,rfl,q _ (aX.bo.fresh (b1 _))⟩;rw[<-es,<-RD];refine⟨?_,_,c,B0 cg,aC⟩;rw[xQ,bh,bh];exact big
end
section
variable{prog:bP}{w:bt}{A:cU}{E:cx}{s:aF}
theorem ad2{a b:Addr}{md nY gL gg:Int}{t1 fQ Qt Qu:Tok}{Q:cx}(ao:ub s.heap a #[.int md t1,.int nY fQ])(aZ:ub s.heap b #[.int gL Qt,.int gg Qu])(cJ:A.units<cLine)(h:Q (.bool (if md=gL then decide (gg<=nY)else decide (gL<=md))) s):aM (ba prog w) A (hN .GtE (.ref a) (.ref b)) Q E s:=by
 obtain⟨vC,xH,alI,na,By⟩:=ao;obtain⟨ob,u3,F3,nb,kj⟩:=aZ;have p1:s.TypeIs (.ref a) "tuple":=⟨vC,xH,alI⟩
 have d9:s.TypeIs (.ref b) "tuple":=⟨ob,u3,F3⟩
 show aM _ _ (richCompare .GtE (.ref a) (.ref b)) _ _ _;refine wpAny_richCompare_same_room (op:=.GtE) p1 d9 F.slot_tuple_ge (kO F.slot_tuple_ge p1 F.entry_tuple_ge ?_ (F.args_tuple_ge_2 _ _)) cJ;show aM _ _ (Gk (.ref b) (.type "tuple") >>=_) _ _ s;refine au (H4 d9 isSubtype_tuple_tuple ?_);simp only[Sv,tW,if_false];refine au (apP xH By ?_);refine au (apP u3 kj ?_);refine au ?_;simp only[List.zip_cons_cons,List.zip_nil_left,List.forIn_cons,List.forIn_nil];refine au (au (Ù ?_));by_cases ax:md=gL
 .rw[aO ax]at h;have eC:(md==gL)=true:=by simp[ax]
  rw[eC];simp only[Sv,tW,if_false];refine a9 (au (au (Ù ?_)));by_cases az:nY=gg
  .have dT:(nY==gg)=true:=by simp[az]
   rw[dT];simp only[Sv,tW,if_false];refine a9 (a9 ?_);refine a9 ⟨_,rfl,(λz=>nomatch z),?_⟩;rw[dU (by omega)]at h;exact h
  .have dT:(nY==gg)=false:=by simp[az]
   rw[dT];simp only[ĉ,if_true];refine au (DI (au ?_));show aM _ _ (hN .GtE (mE nY fQ) (mE gg Qu)) _ _ _;exact ge_int (au (a9 (a9 (a9 (a9 ⟨_,rfl,(λz=>nomatch z),h⟩)))))
 .rw[aJ ax]at h;have eC:(md==gL)=false:=by simp[ax]
  rw[eC];simp only[ĉ,if_true];refine au (DI (au ?_));show aM _ _ (hN .GtE (mE md t1) (mE gL Qt)) _ _ _;exact ge_int (au (a9 (a9 (a9 (a9 ⟨_,rfl,(λz=>nomatch z),h⟩)))))
end
section
variable{X:bB}
theorem af7(cJ:X.A.units<cLine):fZ X (hN .GtE) (λx y H Q=>∃a b md nY gL gg,x=.ref a/\y=.ref b/\b2 X.K H a [.int md,.int nY]/\b2 X.K H b [.int gL,.int gg]/\Q (.bf (if md=gL then decide (gg<=nY)else decide (gL<=md))) H):=by
 intro pins s σ H x y v u Q I bC bW h;obtain⟨a,b,md,nY,gL,gg,rfl,rfl,aH,U,q⟩:=h;cases bC;cases bW;obtain⟨xs,b',t1,_⟩:=I.tuple aH;obtain⟨ys,df,fQ,_⟩:=I.tuple U;cases b' with
 |cons dW b'=>
  cases b' with
  |cons ey b'=>
   cases b';cases df with
   |cons bq df=>
    cases df with
    |cons cj df=>
     cases df;obtain⟨_,rfl⟩:=dW;obtain⟨_,rfl⟩:=ey;obtain⟨_,rfl⟩:=bq;obtain⟨_,rfl⟩:=cj;exact ad2 t1 fQ cJ (fT I q rfl)
end
end cK
namespace ar
open PySem
section
variable{CX:lT}{P:bP}{w:bt}{K:aY}{ae:cN}{base:Heap}{N:bR}{cn:Str}{scope:Scope}{f:Addr}{cd:Value}{A:cU}{outer:List Env}{s:aF}{H:aa}{E:cE}
theorem ah5:(j0 CX P w K ae base N cn scope f cd A outer s H E).K=K:=rfl
theorem ahx:(j0 CX P w K ae base N cn scope f cd A outer s H E).vr.K=K:=rfl
end
theorem cut{a b:e0}{D:Ends}{σ:St}{H:aa}(h:∀R:e0,R=b->qP a R D σ H):qP a b D σ H:=h b rfl
end ar
namespace fR
open PySem ar cK de
section
variable{P:bP}{w:bt}{K:aY}{ae:cN}{base:Heap}
noncomputable def vj(H:aa)(ea:Addr)(ak:dh):Prop:=∃yR:List Addr,H ea=some (.lst (aW yR))/\bX (λa ss=>H a=some (.tup [.str (tw ss).fK,.int (tw ss).bO])) yR ak
noncomputable def vx(H:aa)(eN:b4)(ak:dh):Prop:=bX (λa ss=>H a=some (.lst (nats (tf ss)))) eN ak
noncomputable abbrev G6:List Str:=["_law_lines","_law_letters","_law_stood","_law_gone","_law_bag"]
noncomputable abbrev anf:List Str:=["_law_lines","_law_letters","_law_stood","_law_gone","_law_bag","_law_turn","_law_road_here","_law_numbers","_law_n"]
noncomputable abbrev C0:Stmt:=top 44
inductive ahy(vs:a')(H:aa)(Q:bl)(bM:cE):Prop where
 |mk (b ef ea go gc:Addr) (hs:bD) (rs fL eN:b4) (ds:b7) (lv:a') (ak:dh) (bb:gw×List Nat) (b0:vs=[.ref b,.ref ef,.ref ea,.ref go,.ref gc]) (bH:H b=some (.lst (aW rs))) (cu:H ef=some (.lst lv)) (cS:hy H hs rs ds) (dw:vj H ea ak) (en:H go=some (.lst (aW eN))) (ha:vx H eN ak) (iT:hY H gc bb) (ot:HF hs ds ak bb) (v3:lv.length=ak.length) (DK:ak.length<=60) (ä:eN.Nodup) (aqh:b≠ea/\ef≠ea/\go≠ea) (ass:b∉eN/\ef∉eN/\go∉eN/\ea∉eN) (asu:∀ss∈ak,ss≠[]/\ss.length<=900)
   (aqg:∀H',(∀b v,b≠ea->b∉eN->H b=some v->H' b=some v)->vj H' ea (iG (stepK hs ds bb.1) bb.2 ak)->vx H' eN (iG (stepK hs ds bb.1) bb.2 ak)->Q (.bf true) H')
noncomputable def Kk:c9:=λvs H Q bM=>ahy vs H Q bM
theorem Ac:d0 anf G6 (dx C0):=⟨rfl,rfl,rfl,by decide+kernel,rfl,by decide+kernel,by decide+kernel⟩
theorem SE{α β:Type}{F:α->β->Prop}{a:α}{b:β}(q:F a b):∀{xs:List α}{ys:List β}(n:Nat),bX F xs ys->bX F (xs.set n a) (ys.set n b)
 |_,_,_,.nil=>.nil
 |_,_,0,.cons _ r=>.cons q r
 |_,_,n+1,.cons h r=>.cons h (SE q n r)
theorem Sf{α β:Type}{F G:α->β->Prop}:∀{xs:List α}{ys:List β},bX F xs ys->(∀x y,x∈xs->F x y->G x y)->bX G xs ys
 |_,_,.nil,_=>.nil
 |_,_,.cons h r,k=>.cons (k _ _ (by simp) h) (Sf r λx y ao=>k x y (by simp[ao]))
theorem Te{α β:Type}{F I5:α->β->Prop}{a:α}{b:β}(new:I5 a b):∀{xs:List α}{ys:List β}{n:Nat},(∀x y,x∈xs->x≠a->F x y->I5 x y)->bX F xs ys->xs.Nodup->xs[n]?=some a->bX I5 xs (ys.set n b)
 |_,_,_,_,.nil,_,e=>by cases e
 |x::xs,y::ys,0,old,.cons _ r,aK,e=>by cases e;exact .cons new (Sf r λx y ao h=>old x y (by simp[ao]) (λz=>(jf.mp aK).1 (by rw[<-z];exact ao)) h)
 |x::xs,y::ys,n+1,old,.cons h r,aK,e=>.cons (old _ _ (by simp) (λz=>(jf.mp aK).1 (by rw[z];exact eQ e)) h) (Te new (λx y ao=>old x y (by simp[ao])) r (jf.mp aK).2 e)
theorem ŋ{ss:List Step}(h:ss≠[])(st:Step):tf (ss++[st])=tf ss++[(st.Lx.getD 0).toNat]:=by
 cases ss with
 |nil=>exact bE rfl h
 |cons s r=>unfold tf;simp
theorem ahz{n i:Nat}(h:i<n):mW n (i:Int)=some i:=by unfold mW;simp;omega
theorem afM{wi:TI}{cs:jj}{b3:TE}{σ rest:ar.St}{H:aa}{Q:bl}{xs:a'}(hw:∀R:e7->aa->Prop,(∀p H1,aT H H1->H1 p=some (.tup xs)->R (se K p) H1)->wi σ H R)(gp:gW cs σ=none::rest)(aq:xs.length<sizeLine)(f:Nat->ar.V)(elt:∀(i:Nat)(x:ar.V)(aj:aa)(R:bl),xs[i]?=some x->aT H aj->(∀bY,aT aj bY->R (f i) bY)->b3 (some x::rest) aj R)(fin:∀(D:Addr)(H':aa),H D=none->H' D=some (.lst ((da xs.length).map f))->aT H H'->Q (.ref D) H'):kM wi cs (g5 0) px b3 σ H Q:=
 hw _ λp H1 s1 aP=>afF (wi:=λ_ _ R=>R (se K p) H1) (H:=H1) (λR h=>h) gp (afE (b2.of aP) λH' aI=>b2.of (aI _ _ aP)) aq (λ_=>true) f (λi x aj R ex aI k=>k aj (aT.refl _)) (λi x aj R ex _ aI k=>elt i x aj R ex (s1.trans aI) k) λD H' n af s=>by
  have e:(da xs.length).filter (λ_=>true)=da xs.length:=Ue.mpr λ_ _=>rfl;rw[e]at af;refine fin D H' ?_ af (s1.trans s);cases ck:H D with
  |none=>rfl
  |some v=>rw[s1 _ _ ck]at n;cases n
theorem ahA{H:aa}{c:Addr}{ns:bj}(h:H c=some (.tup (ns.map λn:Nat=>V.int n))):kT K H (.ref c) (.tuple ((dZ ns).map mz)):=.tup (b2.of h) (by
 have e:ns.map (λn:Nat=>V.int n)=(dZ ns).map V.int:=by unfold dZ;rw[fS];rfl
 rw[e];exact QI _)
theorem aaQ(ns:fh):mB (.tuple (ns.map mz))=true:=by refine q' (n:=1) (yz ns) ?_ (by decide);exact G_ ns
theorem Rp{hs:bD}{ds:b7}{ak:dh}{bb:gw×List Nat}(gA:HF hs ds ak bb)(Gv:ak.length<=60):bb.2.length<=60:=by have aK:bb.2.Nodup:=gA.up.imp λh=>dP h;have:=oO (L:=da ak.length) aK λn aD=>jH.mpr (gA.lt n aD);rw[j8]at this;omega
seal ht bN g0 hI
theorem ahB{f:Addr}{fd:c1}(F:b6 K "_law_bag_fits" "_law_bag_fits" C0 f fd)(B:hb ae):a4 P w K ae base bu 1 f fd G6 Kk:=by
 refine F.ok Ac (λvs H Q E h=>?_) (λbK A outer s H vs Q E ay h=>?_)
 .obtain⟨b,ef,ea,go,gc,hs,rs,fL,eN,ds,lv,ak,bb,rfl,_⟩:=h;rfl
 .obtain⟨b,ef,ea,go,gc,hs,rs,fL,eN,ds,lv,ak,bb,rfl,U,ig,cF,xJ,hQ,F8,xA,gA,x6,Gv,alh,⟨nb,yn,vn⟩,⟨jU,alg,alf,Xp⟩,full,q⟩:=h;refine⟨_,(bQ (gd (jh.pt (mX (jR (ki (eo oP (by rfl) B.isinstance nD (aA (ah 4) (aA (n2 (by rfl) B.tuple G') a5))))) (mX (fP tq (eo ke (by rfl) B.len jq (aA (ah 4) a5)) bF (eD _)) (mX (jR (ki (eo oP (by rfl) B.isinstance nD (aA (cz d5 (ah 4) bF (λ_ _=>rfl)) (aA (n2 (by rfl) B.tuple G') a5))))) (rD (fP (Iy ay.units) (cz d5 (ah 4) bF (λ_ _=>rfl)) (jS a5) (eD _))))))) (b8 (dE kE)) gb)
   (bQ (gd (jR (ki (eo (G7 rfl) (by rfl) B.E3 Ii (aA (pb (N':=["_law_n"]) (cs:=[none]) rfl (IG (cZ acZ (jS (aA (cz d5 (ah 4) bF (λ_ _=>rfl)) (aA (cz d5 (ah 4) bF (λ_ _=>rfl)) a5))) (cz d5 (ah 4) bF (λ_ _=>rfl)))) rfl (by decide+kernel) rfl (by decide+kernel) (i2 (λp aP=>bE aP (eZ))) rfl
    (.own .nil)
    (λC s3 bL cw d_=>⟨(d1 (i:=0) (by show(["_law_n"]:bR).Nodup;decide+kernel) rfl (.inl rfl)),mK,(lq (eo (Ó (K:=K) rfl) (by rfl) B.isinstance nD (aA (ah 0) (aA (n2 (by rfl) B.int IK) a5))) (nZ (TU (eo (Ó (K:=K) rfl) (by rfl) B.isinstance nD (aA (ah 0) (aA (n2 (by rfl) B.bool SS) a5))))))⟩)) a5)))) (b8 (dE kE)) gb)
   (bQ (TV (ah 4) (yx rfl (hK (d1 (i:=5) Ac.aK rfl (cY rfl)) (hK (d1 (i:=6) Ac.aK rfl (cY rfl)) (hK (d1 (i:=7) Ac.aK rfl (cY rfl)) oS)))))
   (bQ (gd (jh.pt (mX (jR (Cn rH yV bF (ah 6) (eo ke (by rfl) B.len jq (aA (ah 0) a5)))) (mX (fP vP (eo ke (by rfl) B.len jq (aA (ah 7) a5)) (cz d5 (cz gS (ah 0) (ah 6) (λ_ _=>rfl)) bF (λ_ _=>rfl)) (eD _)) (rD (fP (Dr ay.units) (nG sG (by rfl) B.list nM (aA (ah 7) a5)) (eo (apl rfl) (by rfl) B.sorted B1 (aA (nG (Ŋ rfl) (by rfl) B.Z2 T3 (aA (ah 7) a5)) a5)) (eD _)))))) (b8 (dE kE)) gb)
   (bQ (kC jJ rfl (IG (ah 7)) (d1 (i:=8) Ac.aK rfl (cY rfl))
    (bQ (gd (jh.pt (mX (jR (Cn rH yV bF (ah 8) (eo ke (by rfl) B.len jq (aA (ah 1) a5)))) (mX (fP tq (cz d5 (cz gS (ah 2) (ah 8) (λ_ _=>rfl)) bF (λ_ _=>rfl)) (cz d5 (cz gS (ah 0) (ah 6) (λ_ _=>rfl)) bF (λ_ _=>rfl)) (eD _)) (rD (fP vP (cz d5 (cz gS (ah 2) (ah 8) (λ_ _=>rfl)) bF (λ_ _=>rfl)) (ah 5) (eD _)))))) (b8 (dE kE)) gb)
   (bQ (TV (jS (aA (cz d5 (cz gS (ah 0) (ah 6) (λ_ _=>rfl)) bF (λ_ _=>rfl)) (aA (cZ iB (ah 5) (cz d5 (cz gS (ah 0) (ah 6) (λ_ _=>rfl)) bF (λ_ _=>rfl))) a5))) (aeN (ah 2) (ah 8) set_list))
   (b8 (ia (n4 oF oG oH mJ (cz gS (ah 3) (ah 8) (λ_ _=>rfl)) (aA (ah 6) a5)))))))
   (b8 (dE kE))))))),?_⟩
  dsimp only[ah5,ahx];obtain⟨c,hC,gK⟩:=xA;obtain⟨yR,qp,km⟩:=xJ;have bf:(bb.2.map λn:Nat=>V.int n).length=bb.2.length:=bh _;have az:bb.2.map (λn:Nat=>V.int n)=(dZ bb.2).map V.int:=by unfold dZ;rw[fS];rfl
  refine cut λAq AV=>?_;refine⟨_,rfl,_,_,_,_,_,rfl,⟨rfl,.tup hC,rfl⟩,_,rfl,?_⟩;refine eF rfl ⟨_,rfl,gc,_,rfl,.inr (b2.of hC),rfl,_,rfl,?_⟩;refine eF rfl ⟨_,rfl,gc,_,_,_,rfl,rfl,b2.of hC,rfl,_,_,_,_,_,rfl,⟨rfl,.tup gK,rfl⟩,_,rfl,?_⟩;refine eF rfl ⟨_,rfl,gc,_,_,_,rfl,rfl,b2.of hC,rfl,dM _,λcI Zd=>?_⟩;refine⟨_,.tuple [],ahA (by rw[aL (dn gK Zd)];exact gK),.tup (b2.of a8) .nil,aaQ _,by decide,_,rfl,?_⟩;have CE:g4 (.tuple ((dZ bb.2).map mz)) (.tuple [])=false:=by
   have:=gA.Z6;unfold dZ;cases MI:bb.2 with
   |nil=>exact bE MI this
   |cons x r=>rfl
  refine eF CE ?_;change Aq _ _ _;subst AV;refine cut λAq AV=>?_;have s0:=cV (o:=.tup []) Zd;have F1:=s0 _ _ hC;have XT:=s0 _ _ gK;generalize upd H cI (.tup [])=mr at s0 F1 XT⊢;dsimp only[DT,qP,J4,V2,Qm,tJ,vQ,EC];refine afM (K:=K) (xs:=[V.int bb.1.1,V.int (bb.1.2:Int)]++bb.2.map λn:Nat=>V.int n) (rest:=[]) (λR Bu=>?_) rfl (e1 (by rw[e8,bf];show 2+bb.2.length<=1000;have:=Rp gA Gv;omega)) (λ_=>.bf true) (λi x aj R ex s2 cm=>?_) (λD aj n_ ck s2=>?_)
  .refine⟨_,rfl,gc,_,_,_,rfl,rfl,b2.of F1,rfl,_,rfl,gc,_,_,_,rfl,rfl,b2.of F1,rfl,(by show 2<=sizeLine;decide),λdW vt=>?_⟩;have s1:=cV (o:=.tup [V.int bb.1.1,V.int (bb.1.2:Int)]) vt;refine⟨_,rfl,gc,_,_,_,rfl,rfl,b2.of (s1 _ _ F1),rfl,dW,c,_,_,rfl,rfl,b2.of a8,b2.of (s1 _ _ XT),(by simp),(by rw[bf];exact pT (e1 (by show 2+bb.2.length<=1000;have:=Rp gA Gv;omega))),(λz=>bE z (by simp[gA.Z6])),λ_ ey yp=>?_⟩;exact⟨ey,rfl,⟨_,b2.of a8⟩,Bu ey _ (s1.trans (cV yp)) a8⟩
  .have ao:∃z,x=.int z:=by have:=eQ ex;simp only[fY,fp,eZ,or_false,cf]at this;rcases this with(rfl|rfl)|⟨n,_,rfl⟩<;>exact⟨_,rfl⟩
   obtain⟨z,rfl⟩:=ao;exact⟨_,rfl,_,_,_,_,_,rfl,⟨rfl,.int _,rfl⟩,_,rfl,fi rfl ⟨_,rfl,_,_,_,_,_,rfl,⟨rfl,.int _,rfl⟩,_,rfl,cm _ (aT.refl _)⟩⟩
  rw[show(da ([V.int bb.1.1,V.int (bb.1.2:Int)]++bb.2.map λn:Nat=>V.int n).length).map (λ_=>V.bf true)=(wN ([V.int bb.1.1,V.int (bb.1.2:Int)]++bb.2.map λn:Nat=>V.int n).length true).map V.bf from by rw[abL,j8,List.map_replicate]]at ck;refine⟨D,_,rfl,aS.of ck,_,rfl,?_⟩;refine eF (by simp) ?_;change Aq _ _ _;subst AV;have yI:=s0.trans s2;have alB:=yI _ _ hC;have MF:=yI _ _ gK;refine⟨_,rfl,gc,_,rfl,b2.of alB,rfl,_,_,rfl,_,_,rfl,_,_,rfl,rfl,?_⟩;dsimp only;refine cut λAq AV=>?_;have e5:rs.length=ds.length:=cF.len;have amx:(0:Int)<=(bb.1.2:Int):=aaf _;have amy:(bb.1.2:Int)<((aW rs).length:Int):=by rw[fO,e5];exact TJ.mpr gA.road
  refine⟨_,rfl,_,_,rfl,rfl,_,rfl,fi (dU amx) ?_⟩;refine⟨_,rfl,b,_,rfl,.inl (aS.of (yI _ _ U)),_,_,rfl,rfl,_,rfl,?_⟩;refine eF (by simp only[dU amy];rfl) ?_;obtain⟨gq,era⟩:∃gq,rs[bb.1.2]?=some gq:=⟨_,ct (by rw[e5];exact gA.road)⟩
  obtain⟨d,dv,qB,hd⟩:=cF.get era;have w2:ar.f3 (aW rs) (bb.1.2:Int)=some (.ref gq):=jo (by unfold aW;rw[cM,era];rfl);have akI:ds.getD bb.1.2 pj=d:=me dv;have LP:m7 hs d=[.str (pD hs ds bb.1.2),.str (lE hs ds bb.1.2),.int (rO ds bb.1.2),.int (kL ds bb.1.2)]:=by unfold m7 pD lE rO kL;rw[akI]
  rw[LP]at hd;have hd2:=yI _ _ hd;have alD:=yI _ _ U;refine⟨_,rfl,c,_,rfl,.inr (b2.of MF),_,rfl,_,rfl,b,_,_,_,rfl,rfl,aS.of alD,w2,gq,_,_,_,rfl,rfl,b2.of hd2,rfl,_,_,rfl,rfl,_,rfl,?_⟩;refine eF (eM (by rw[bf];have:=gA.room;omega)) ?_;have up:(dZ bb.2).Pairwise (· < ·):=by unfold dZ;rw[oA];exact gA.up.imp λh=>TJ.mpr h
  have c7:=Rp gA Gv;have ar8:(dZ bb.2).length=bb.2.length:=bh _;refine⟨_,rfl,c,_,rfl,.inr (b2.of MF),λl nl=>?_⟩;have s3:=cV (o:=.lst (bb.2.map λn:Nat=>V.int n)) nl;have Yl:upd aj l (.lst (bb.2.map λn:Nat=>V.int n)) l=some (.lst ((dZ bb.2).map V.int)):=by rw[a8,az]
  have XU:upd aj l (.lst (bb.2.map λn:Nat=>V.int n)) c=some (.tup ((dZ bb.2).map V.int)):=by rw[<-az];exact s3 _ _ MF
  have CU:=yI.trans s3;generalize upd aj l (.lst (bb.2.map λn:Nat=>V.int n))=bL at s3 Yl XU CU⊢;refine⟨_,rfl,c,dZ bb.2,rfl,b2.of XU,up.imp (λh=>aag h),(by omega),λbq anN=>?_⟩;have s4:=cV (o:=tx w bq (dZ bb.2)) anN;refine⟨bq,dZ bb.2,rfl,a8,up,(by omega),λcj anO=>?_⟩;have s5:=cV (o:=.lst ((dZ bb.2).map V.int)) anO;have PZ:=s4.trans s5;have Ym:=PZ _ _ Yl;have Yv:upd (upd bL bq (tx w bq (dZ bb.2))) cj (.lst ((dZ bb.2).map V.int)) cj=some (.lst ((dZ bb.2).map V.int)):=a8;have tF:=CU.trans PZ;clear s4 s5;have ku:mB (u9 (dZ bb.2))=true:=q' (n:=1) (yz _) (G_ _) (by decide);refine⟨_,_,CL (aS.of (show _=_ from Ym)),CL (aS.of (show _=_ from Yv)),ku,ku,_,rfl,?_⟩;refine eF (by simp[Cp _ (yz (dZ bb.2))]) ?_;change Aq _ _ (upd (upd bL bq (tx w bq (dZ bb.2))) cj (.lst ((dZ bb.2).map V.int)));have tF:aT H (upd (upd bL bq (tx w bq (dZ bb.2))) cj (.lst ((dZ bb.2).map V.int))):=tF;clear Ym Yv PZ;generalize upd (upd bL bq (tx w bq (dZ bb.2))) cj (.lst ((dZ bb.2).map V.int))=bY at tF⊢;have j2:∀{x:Addr}{y:a'},H x=some (.tup y)->x≠ea/\x∉eN:=λ{x y}e=>by
   refine⟨λz=>?_,λz=>?_⟩
   .rw[z,qp]at e;cases e
   .obtain⟨k,aE,rfl⟩:=hq z;obtain⟨ss,_,h⟩:=bX.get F8 (ct aE);rw[h]at e;cases e
  subst AV;refine⟨_,rfl,c,rfl,⟨_,b2.of (tF _ _ gK)⟩,?_⟩;refine SY (K:=K) (a:=c) (xs:=bb.2.map λn:Nat=>V.int n) (λj σ gu=>∃lP,σ=[some (.ref b),some (.ref ef),some (.ref ea),some (.ref go),some (.ref gc),some (.int bb.1.1),some (.int (bb.1.2:Int)),some (.ref c),lP]/\(∀x v,x≠ea->x∉eN->H x=some v->gu x=some v)/\vj gu ea (iG (stepK hs ds bb.1) (bb.2.take j) ak)/\vx gu eN (iG (stepK hs ds bb.1) (bb.2.take j) ak))
   ⟨none,rfl,λx v _ _ e=>tF _ _ e,?_,?_⟩ (λj σ gu _⟨_,_,aE,_,_⟩=>b2.of (aE c _ (j2 gK).1 (j2 gK).2 gK)) ?_ ?_
  .rw[uj,PE];exact⟨yR,tF _ _ qp,bX.iN km λ_ _ e=>tF _ _ e⟩
  .rw[uj,PE];exact bX.iN F8 λ_ _ e=>tF _ _ e
  .rintro j z σ gu dO ⟨lP,rfl,aE,⟨Dh,BR,Nk⟩,hi⟩;rw[cM]at dO;obtain⟨i,e',rfl⟩:=ft.mp dO;have BI:=eQ e';have ai:=gA.lt i BI;obtain⟨ss,es⟩:∃ss,ak[i]?=some ss:=⟨_,ct ai⟩
   have Cy:bb.2.Nodup:=gA.up.imp λh=>dP h;have yk:i∉bb.2.take j:=λz=>by
    have aQ:=(gj.mp e').1;have az:=so j bb.2;rw[zY aQ]at az;rw[<-az,ui]at Cy;have cq:bb.2[j]=i:=by rw[ct aQ]at e';exact gZ e'
    exact Cy.2.2 i z i (by rw[cq];exact .head _) rfl
   have ga:(iG (stepK hs ds bb.1) (bb.2.take j) ak)[i]?=some ss:=by rw[va,es];simp[yk]
   have ln:=h8 Nk;have ln2:=h8 hi;rw[Cb]at ln ln2;obtain⟨aU,WO⟩:∃aU,Dh[i]?=some aU:=⟨_,ct (by omega)⟩
   obtain⟨aoL,sM,Yz⟩:=bX.get Nk WO;rw[ga]at sM;cases sM;obtain⟨ij,gH⟩:∃ij,eN[i]?=some ij:=⟨_,ct (by omega)⟩
   obtain⟨aso,WN,u2⟩:=bX.get hi gH;rw[ga]at WN;cases WN;have aw:fc ak i=tw ss:=by unfold fc;rw[me es]
   have here:=gA.here i BI;have bO:=gA.bO i BI;rw[aw]at here bO;have xD:=aE gq _ (j2 hd).1 (j2 hd).2 hd;have MJ:=aE b _ nb jU U;have ama:=aE ef _ yn alg ig;have alX:=aE go _ vn alf hQ;have as:ar.f3 (aW Dh) (i:Int)=some (.ref aU):=jo (by unfold aW;rw[cM,WO];rfl);have La:ar.f3 (aW eN) (i:Int)=some (.ref ij):=jo (by unfold aW;rw[cM,gH];rfl);have al0:(i:Int)<(lv.length:Int):=by rw[x6];exact TJ.mpr ai
   refine⟨_,rfl,_,_,rfl,rfl,_,rfl,fi (dU (aaf _)) ⟨_,rfl,ef,_,rfl,.inl (aS.of ama),_,_,rfl,rfl,_,rfl,?_⟩⟩;refine eF (by simp only[dU al0];rfl) ?_;refine⟨_,rfl,_,rfl,ea,_,_,_,rfl,rfl,aS.of BR,as,aU,_,_,_,rfl,rfl,b2.of Yz,rfl,_,rfl,_,rfl,b,_,_,_,rfl,rfl,aS.of MJ,w2,gq,_,_,_,rfl,rfl,b2.of xD,rfl,rfl,_,rfl,?_⟩;refine eF (by rw[here];simp) ?_;refine⟨_,rfl,_,rfl,ea,_,_,_,rfl,rfl,aS.of BR,as,aU,_,_,_,rfl,rfl,b2.of Yz,rfl,_,rfl,_,_,rfl,rfl,_,rfl,?_⟩;refine eF (eM (by omega)) ?_;refine⟨_,rfl,_,rfl,b,_,_,_,rfl,rfl,aS.of MJ,w2,gq,_,_,_,rfl,rfl,b2.of xD,rfl,_,rfl,_,rfl,_,rfl,b,_,_,_,rfl,rfl,aS.of MJ,w2,gq,_,_,_,rfl,rfl,b2.of xD,rfl,_,_,rfl,rfl,(by show 2<=sizeLine;decide),λp np=>?_⟩;have sp:=cV (o:=.tup [V.str (lE hs ds bb.1.2),V.int (bb.1.1+rO ds bb.1.2)]) np;have lm:ij∈eN:=eQ gH;have Zj:ea≠ij:=λz=>Xp (z▸lm);have anL:ea≠p:=dn BR np;have qx:ij≠p:=dn u2 np;refine⟨_,rfl,_,rfl,ea,_,_,i,rfl,rfl,sp _ _ BR,ahz (by rw[fO];omega),?_⟩;have g2:upd (upd gu p (.tup [V.str (lE hs ds bb.1.2),V.int (bb.1.1+rO ds bb.1.2)])) ea (.lst ((aW Dh).set i (.ref p))) go=some (.lst (aW eN)):=by rw[aL vn];exact sp _ _ alX
   have fy:upd (upd gu p (.tup [V.str (lE hs ds bb.1.2),V.int (bb.1.1+rO ds bb.1.2)])) ea (.lst ((aW Dh).set i (.ref p))) ij=some (.lst (nats (tf ss))):=by rw[aL (d8 Zj)];exact sp _ _ u2
   refine⟨_,rfl,_,rfl,go,_,_,_,rfl,rfl,aS.of g2,La,.inl ⟨rfl,_,aS.of fy⟩,_,rfl,ij,_,_,rfl,rfl,fy,?_,?_⟩
   .refine e1 ?_;have:=(full ss (eQ es)).2;unfold nats tf;rw[bh,bh,pP];omega
   have aG:bb.2.take (j+1)=bb.2.take j++[i]:=by rw[mw,e'];rfl
   refine⟨_,rfl,λx v fX dJ e=>?_,?_,?_⟩
   .rw[aL (λz=>dJ (by rw[z];exact lm)),aL fX];exact sp _ _ (aE x v fX dJ e)
   .rw[aG,O_ _ yk es];refine⟨Dh.set i p,?_,?_⟩
    .rw[aL Zj,a8];unfold aW;rw[List.map_set]
    .refine SE ?_ i (bX.iN Nk λx y e=>?_)
     .rw[aL (d8 qx),aL (d8 anL),a8,Γ];rfl
     .rw[aL (λz=>by rw[z,u2]at e;cases e),aL (λz=>by rw[z,BR]at e;cases e)];exact sp _ _ e
   .rw[aG,O_ _ yk es];refine Te ?_ (λx y hm ao e=>?_) hi alh gH
    .rw[a8,ŋ (full ss (eQ es)).1];simp[nats,stepK]
    .rw[aL ao,aL (λz=>Xp (by rw[<-z];exact hm))];exact sp _ _ e
  .rintro σ gu ⟨lP,rfl,aE,st,hi⟩;rw[bf,lY]at st hi;exact q gu aE st hi
unseal ht bN g0 hI
theorem B6{α β:Type}{F:α->β->Prop}:∀{xs:List α}{ys:List β},xs.length=ys.length->(∀(i:Nat)(x:α)(y:β),xs[i]?=some x->ys[i]?=some y->F x y)->bX F xs ys
 |[],[],_,_=>.nil
 |x::xs,y::ys,e,h=>.cons (h 0 x y rfl rfl) (B6 (Nat.succ.inj e) λi a b bw dN=>h (i+1) a b bw dN)
 |[],_::_,e,_=>by cases e
 |_::_,[],e,_=>by cases e
theorem ad3{wi:TI}{cs:jj}{σ rest:ar.St}{H H1:aa}{Q:bl}{J:e7}{xs:a'}(hw:∀R:e7->aa->Prop,R J H1->wi σ H R)(gp:gW cs σ=none::rest)(jF:l3 J H1 xs)(aq:xs.length<sizeLine)(fin:∀(D:Addr)(H':aa)(m':b4),H1 D=none->H' D=some (.lst (aW m'))->m'.length=xs.length->m'.Nodup->(∀l∈m',H1 l=none/\l≠D/\H' l=some (.lst []))->aT H1 H'->Q (.ref D) H'):kM wi cs (g5 0) px (V6 EC) σ H Q:=by
 refine hw _ λD ck=>?_;refine⟨λi m ys a_ H'=>m=xs.length-i/\i<=xs.length/\(∃m',ys=aW m'/\m'.length=i/\m'.Nodup/\∀l∈m',H1 l=none/\l≠D/\H' l=some (.lst []))/\(∃o,a_=o::rest)/\aT H1 H'/\H' D=some (.lst ys),⟨xs.length,by simp,dM _,⟨[],rfl,rfl,pQ,λl aq=>nomatch aq⟩,⟨none,gp⟩,cV ck,a8⟩,?_⟩;rintro i m ys a_ H' ⟨rfl,ai,⟨m',rfl,ln,aK,each⟩,⟨o,rfl⟩,aI,eG⟩;obtain⟨gO,hV,iu⟩:=jF H' aI;refine⟨eG,mx (by rw[fO];omega) aq,?_⟩;by_cases bZ:i<xs.length
 .refine .inr ⟨hV i bZ,λx aj y=>?_⟩;obtain⟨rfl,ex⟩:=iu i x aj bZ y;refine⟨dM _,λp np=>?_⟩;have s5:=cV (o:=.lst []) np;have dq:=s5 _ _ eG;have Zy:p≠D:=λz=>by rw[z,eG]at np;cases np
  refine⟨dq,xs.length-(i+1),by omega,rfl,bZ,⟨m'++[p],u_ m' p,by rw[e8,ln];rfl,?_,λl hm=>?_⟩,⟨_,rfl⟩,h_ ck (aI.trans s5),a8⟩
  .refine ui.mpr ⟨aK,by simp,λa aH b U z=>?_⟩;rw[fD]at U;rw[z,U]at aH;rw[(each p aH).2.2]at np;cases np
  .rcases fY.mp hm with h|h
   .obtain⟨bq,cj,fk⟩:=each l h;exact⟨bq,cj,by rw[aL cj];exact s5 _ _ fk⟩
   .rw[fD.mp h];refine⟨?_,Zy,by rw[aL Zy,a8]⟩;cases e:H1 p with
    |none=>rfl
    |some o=>rw[aI _ _ e]at np;cases np
 .have e:i=xs.length:=by omega
  subst e;exact .inl ⟨gO,fin D H' m' ck eG ln aK each aI⟩
theorem Tf{H:aa}{g:Nat->List ar.V}:∀(vs:a')(k:Nat),(∀i v,vs[i]?=some v->∃r,v=.ref r/\H r=some (.tup (g (k+i))))->∃rs,vs=aW rs/\eh H rs ((da vs.length).map λi=>g (k+i))
 |[],_,_=>⟨[],rfl,.nil⟩
 |v::vs,k,h=>by
  obtain⟨r,rfl,ay⟩:=h 0 v rfl;obtain⟨rs,e,t⟩:=Tf (H:=H) (g:=g) vs (k+1) λi u rd=>by obtain⟨r,ax,az⟩:=h (i+1) u rd;exact⟨r,ax,by rw[az];congr 3;omega⟩
  refine⟨r::rs,by rw[e];rfl,?_⟩;rw[hH,abX,gk,fS];refine .cons ay ?_;have:(da vs.length).map ((λi=>g (k+i))∘Nat.succ)=(da vs.length).map λi=>g (k+1+i):=q3 λi _=>by show g (k+(i+1))=_;congr 1;omega
  rw[this];exact t
noncomputable def gV:Str×Int×Str:=(kZ,0,kZ)
noncomputable def lA(hs:bD)(ds:b7)(kvs:dt)(lds:l1):List Nat:=(da lds.length).filter λi=>mU kvs hs ds (lds.getD i gV)
noncomputable def r1(hs:bD)(ds:b7)(kvs:dt)(lds:l1):List (gw×List Nat):=qL hs ds kvs (lds.map λd=>d.2.2) 1300 (-1) (lA hs ds kvs lds) (lds.map iC)
end
theorem I4{K:aY}{wi:TI}{a:Addr}{xs:a'}{cs:jj}{σ rest:ar.St}{tt:TT}{b3:TE}{Q:bl}{H H1:aa}(hw:∀R:e7->aa->Prop,R (q0 K a) H1->wi σ H R)(gp:gW cs σ=none::none::rest)(aH:aS K H1 a xs)(aq:xs.length<sizeLine)(p:Nat->Bool)(f:Nat->ar.V)(test:∀(i:Nat)(x:ar.V)(aj:aa)(R:Bool->aa->Prop),xs[i]?=some x->aT H1 aj->(∀bY,aT aj bY->R (p i) bY)->tt (some (.int i)::some x::rest) aj R)(elt:∀(i:Nat)(x:ar.V)(aj:aa)(R:bl),xs[i]?=some x->p i=true->aT H1 aj->(∀bY,aT aj bY->R (f i) bY)->b3 (some (.int i)::some x::rest) aj R)(fin:∀(D:Addr)(H':aa),H1 D=none->H' D=some (.lst (((da xs.length).filter p).map f))->aT H1 H'->Q (.ref D) H'):
  kM wi cs (wA K 2 (rI (g5 0) (rI (g5 1) zR))) tt b3 σ H Q:=hw _ (SQ gp aH aq (λi _=>p i) (λi _=>f i) test elt λD H' n_ ck aI=>fin D H' n_ (by
   have e:((xs.zipIdx.filter λz=>p z.2).map λz=>f z.2)=((da xs.length).filter p).map f:=by rw[abW,<-abZ,z0,fS];rfl
   rw[<-e];exact ck) aI)
theorem vy{H:aa}{ls:b4}{ak:dh}(h:bX (gT H) ls ak):∀l∈ls,∃ts,H l=some (.lst (aW ts)):=λl aq=>by obtain⟨i,ai⟩:=q1 aq;obtain⟨ss,_,ts,ag,_⟩:=bX.get h ai;exact⟨ts,ag⟩
theorem afN{C:Addr}{H:aa}{x n g st:Addr}{gs:bR}{ls:b4}{ak:dh}(W:n5 C H x n g st gs ls)(e:bX (gT H) ls ak)(fr:∀l∈ls,l≠st/\l≠g):n5 C (mask H ls) x n g st gs ls:=by obtain⟨av,ao⟩:=W.ins;refine⟨⟨av,ry ao λz=>?_⟩,ry W.goals λz=>(fr g z).2 rfl,ry W.steps λz=>(fr st z).1 rfl⟩;obtain⟨ts,h⟩:=vy e x z;rw[ao]at h;cases h
theorem Hj{H:aa}{ls:b4}{ak:dh}{a:Addr}{b:gw×List Nat}(h:hY H a b)(e:bX (gT H) ls ak):hY (mask H ls) a b:=by
 obtain⟨c,ag,af⟩:=h;refine⟨c,ry ag λz=>?_,ry af λz=>?_⟩
 .obtain⟨ts,h⟩:=vy e a z;rw[ag]at h;cases h
 .obtain⟨ts,h⟩:=vy e c z;rw[af]at h;cases h
theorem aaR{H H':aa}{ls:b4}(aI:aT H H')(fr:∀l∈ls,H l=none):aT H (mask H' ls):=λb o e=>ry (aI _ _ e) λz=>by rw[fr b z]at e;cases e
theorem acG{H:aa}{ls:b4}{ak:dh}{p:Addr}{xs ys:a'}(h:bX (gT H) ls ak)(aP:H p=some (.lst xs))(np:p∉ls):bX (gT (upd H p (.lst ys))) ls ak:=by
 have all:∀{ls:b4}{ak:dh},bX (gT H) ls ak->p∉ls->bX (gT (upd H p (.lst ys))) ls ak:=λ{ls ak}q=>by
  induction q with
  |nil=>exactλ_=>.nil
  |cons r t bk=>
   intro nn;obtain⟨ts,ag,af⟩:=r;exact .cons ⟨ts,by rw[aL λz=>nn (by rw[z];exact .head _)];exact ag,af.upd aP (by intro d z;cases z)⟩ (bk λz=>nn (.tail _ z))
 exact all h np
theorem n5.upd{C:Addr}{H:aa}{x n g st:Addr}{gs:bR}{ls:b4}{p:Addr}{xs ys:a'}(W:n5 C H x n g st gs ls)(aP:H p=some (.lst xs))(ag:p≠g)(af:p≠st):n5 C (ar.upd H p (.lst ys)) x n g st gs ls:=by obtain⟨av,ao⟩:=W.ins;exact⟨⟨av,by rw[aL λz=>by rw[z,aP]at ao;cases ao];exact ao⟩,by rw[aL (d8 ag)];exact W.goals,by rw[aL (d8 af)];exact W.steps⟩
structure vT(C:Addr)(H bJ:aa)(x n g st gl pl:Addr)(gs:bR)(ls as:b4)(ak:dh)(go:bj)(bs:kb):Prop where
 aI:aT H bJ
 tP:n5 C bJ x n g st gs ls
 each:bX (gT bJ) ls ak
 sR:bJ gl=some (.lst (fx go))
 j2:gl∉ls
 OT:gl≠pl
 yu:bJ pl=some (.lst (aW as))
 AB:bX (hY bJ) as bs
theorem vT.same{C:Addr}{H bJ eX:aa}{x n g st gl pl:Addr}{gs:bR}{ls as:b4}{ak:dh}{go:bj}{bs:kb}(h:vT C H bJ x n g st gl pl gs ls as ak go bs)(s:aT bJ eX):vT C H eX x n g st gl pl gs ls as ak go bs:=
 ⟨h.aI.trans s,h.tP.same s,Ç h.each s,s _ _ h.sR,h.j2,h.OT,s _ _ h.yu,bX.iN h.AB λ_ _ b=>b.same s⟩
theorem Cg{α β:Type}{f:α->β}{l:List α}{i:Nat}{d:α}{e:β}(h:i<l.length):(l.map f).getD i e=f (l.getD i d):=by rw[dr,cM,yh (d:=d) h];rfl
theorem U5{rt:Nat->List Nat}:∀go:List Nat,(∀n∈go,(rt n).length<=12)->hE rt go<=12*go.length
 |[],_=>b1 _
 |n::go,h=>by have ag:=U5 (rt:=rt) go λn aD=>h n (.tail _ aD);have af:=h n (.head _);unfold hE at ag⊢;rw[gk,oB,hH];omega
theorem Υ{hs:bD}{ds:b7}{kvs:dt}(R:∀d∈ds,d.Ok hs.length)(d9:ji kvs ds.length)(c7:hs.length<=12){lds:l1}(YP:lds.length<=100)(kk:∀d∈lds,d.1∈hs.map S/\d.2.2∈hs.map S/\d.1≠d.2.2):
  ∃rt,n8 hs ds kvs (lds.map λd=>d.2.2) (lds.map iC) (lA hs ds kvs lds) rt/\hE rt (lA hs ds kvs lds)<=1300:=by
 have mem:∀n∈lA hs ds kvs lds,n<lds.length/\mU kvs hs ds (lds.getD n gV)=true:=λn aD=>by obtain⟨ag,af⟩:=gx.mp aD;exact⟨jH.mp ag,af⟩
 have all:∀n,∃aG:List Nat,aG.length<=12/\(n∈lA hs ds kvs lds->hZ kvs hs ds (lds.getD n gV).2.2 (lds.getD n gV).1 aG):=λn=>by
  by_cases z:n∈lA hs ds kvs lds
  .obtain⟨ag,af⟩:=mem n z;obtain⟨aG,aV,bU⟩:=ZJ R d9 c7 (kk _ (getD_mem' ag)).1 af;exact⟨aG,bU,λ_=>aV⟩
  .exact⟨[],dM _,λy=>bE y z⟩
 obtain⟨rt,s9⟩:∃rt:Nat->List Nat,∀n,(rt n).length<=12/\(n∈lA hs ds kvs lds->hZ kvs hs ds (lds.getD n gV).2.2 (lds.getD n gV).1 (rt n)):=⟨λn=>ğ (all n),λn=>IE (all n)⟩
 have aw:∀n,n<lds.length->fc (lds.map iC) n=⟨(lds.getD n gV).2.1,none,(lds.getD n gV).1,(lds.getD n gV).2.1⟩:=λn aD=>by unfold fc;rw[Cg (d:=gV) aD];rfl
 have ga:∀n,n<lds.length->g8 (lds.map λd=>d.2.2) n=(lds.getD n gV).2.2:=λn aD=>by unfold g8;rw[Cg (d:=gV) aD]
 refine⟨rt,⟨by rw[bh,bh],λn aD=>by rw[bh];exact(mem n aD).1,(Up).filter _,λss u6=>?_,λn=>?_,λn aD=>?_,λn aD=>?_,λn aD=>?_,λn aD e=>?_⟩,?_⟩
 .obtain⟨d,_,rfl⟩:=cf.mp u6;unfold iC;simp
 .have h:=(s9 n).1;have:((lds.map iC).getD n []).length<=1:=by
   by_cases z:n<lds.length
   .rw[Cg (d:=gV) z];exact b1 _
   .rw[dr,sg (by rw[bh];omega)];exact dM _
  omega
 .rw[aw n (mem n aD).1];exact(kk _ (getD_mem' (mem n aD).1)).1
 .rw[ga n (mem n aD).1];exact(kk _ (getD_mem' (mem n aD).1)).2.1
 .rw[aw n (mem n aD).1,ga n (mem n aD).1];exact(s9 n).2 aD
 .have r:=(s9 n).2 aD;exact(kk _ (getD_mem' (mem n aD).1)).2.2 (r.nil_eq e)
 .have ag:=U5 (rt:=rt) (lA hs ds kvs lds) λn _=>(s9 n).1;have af:(lA hs ds kvs lds).length<=lds.length:=by unfold lA;exact hc (si _ _) (by rw[j8];exact b1 _)
  omega
inductive afO(C ec bA:Addr)(vs:a')(H:aa)(Q:bl)(bM:cE):Prop where
 |mk (n ef y t bz a7:Addr) (hs:bD) (rs fL:b4) (ds:b7) (kvs:dt) (lds:l1) (b0:vs=[.ref n,.ref ef,.ref y]) (bH:H ef=some (.lst (aW fL))) (cu:eh H fL (lds.map qu)) (cS:fL.length<=60) (dw:kD ec bA H y n t bz a7 (dC hs) (aW rs) kvs) (en:Good hs) (ha:hy H hs rs ds) (iT:ji kvs ds.length) (ot:(∀d∈lds,d.1∈hs.map S/\d.2.2∈hs.map S/\d.1≠d.2.2)) (v3:∀(l:Addr)(H':aa)(as:b4),H l=none->aT H H'->H' l=some (.lst (aW as))->bX (hY H') as (r1 hs ds kvs lds)->Q (.ref l) H')
noncomputable def JK(C ec bA:Addr):c9:=λvs H Q bM=>afO C ec bA vs H Q bM
section
variable{P:bP}{w:bt}{K:aY}{ae:cN}{base:Heap}
noncomputable abbrev Ad:Stmt:=top 19
noncomputable abbrev ah6:List Str:=["net","letters","ways","walk","going","plan","turn","bag"]
theorem tA:d0 ah6 ["net","letters","ways"] (dx Ad):=⟨rfl,rfl,rfl,by decide+kernel,rfl,by decide+kernel,by decide+kernel⟩
theorem afP{C ec bA f uR f1 f2 dB f4 e_:Addr}{fd Bm eU gI oR sO Bj:c1}(F:b6 K "run" "run" Ad f fd)(B:hb ae)(cH:qC K C)(Rq:ae "Walk"=some (.ref C))(HP:pS K C uR)(OJ:t9 K C "Walk.__init__" zV ["self","net","letters"] uR Bm)(Ć:a4 P w K ae base bu 2 uR Bm ["self","net","letters"] (Jm C))(p':dS K ae "has_route" yM ["letter","ways"] f1 eU)(OK:a4 P w K ae base bu 4 f1 eU ["letter","ways"] (EO ec bA))(nE:eJ K C "last_turn" "Walk.last_turn" vB ["self","number"] f2 gI)(AP:a4 P w K ae base bu 1 f2 gI ["self","number"] (CO C))(Cj:dS K ae "bags_at" CZ ["net","walk","going","ways","turn"] dB oR)(aaS:a4 P w K ae base bu 5 dB oR ["net","walk","going","ways","turn"] (EN K C ec bA))(Gq:eJ K C "send" "Walk.send" y7 ["self","bag"] f4 sO)(ć:a4 P w K ae base bu 2 f4 sO ["self","bag"] (IH C bA))(Fg:eJ K C "home_turn" "Walk.home_turn" DA ["self","number"] e_ Bj)(aoh:a4 P w K ae base bu 2 e_ Bj ["self","number"] (Ra C)):
  a4 P w K ae base bu 6 f fd ["net","letters","ways"] (JK C ec bA):=by
 have l7:=cH.cl;refine F.ok tA (λvs H Q E h=>?_) (λbK A outer s H vs Q E ay h=>?_)
 .obtain⟨n,ef,y,t,bz,a7,hs,rs,fL,ds,kvs,lds,rfl,_⟩:=h;rfl
 .obtain⟨n,ef,y,t,bz,a7,hs,rs,fL,ds,kvs,lds,rfl,ig,nc,c7,k6,G,R,d9,kk,q⟩:=h;refine⟨_,(bQ (dG (i:=3) tA.aK rfl (nv rfl) (HM HP Ć (ay.mono (by decide)) (by rfl) Rq OJ.bd .nil dQ (aA (ah 0) (aA (ah 1) a5))))
   (bQ (rh (i:=4) tA.aK rfl rfl rfl (N':=["number","letter","ways"]) (cs:=[none,none,some 2]) rfl (vf rfl B.enumerate (aA (ah 1) a5)) rfl (by decide+kernel) rfl (by decide+kernel) (i2 (kV.mpr ⟨rfl,(λp aP=>bE aP (eZ))⟩)) rfl
    (.own (.own (.jO rfl (.inl rfl) (.inl rfl) rfl .nil)))
    (λC s3 bL cw d_=>⟨(x' (K:=K) (n:=2) rfl rfl (hK (d1 (i:=0) (by show(["number","letter","ways"]:bR).Nodup;decide+kernel) rfl (.inl rfl)) (hK (d1 (i:=1) (by show(["number","letter","ways"]:bR).Nodup;decide+kernel) rfl (.inl rfl)) oS))),(ve (ki (f5 OK (ay.mono (by decide)) (by rfl) p'.at_ p'.fn.cT p'.bd .nil dQ (aA (ah 1) (aA (ah 2) a5))))),(ah 0)⟩))
   (bQ (dG (i:=5) tA.aK rfl (cY rfl) (l_ a5))
   (bQ (dG (i:=6) tA.aK rfl (cY rfl) (DU Dp bF))
   (bQ (G5 jJ (aav (ah 4) (λ_=>rfl))
    (bQ (dG (i:=6) tA.aK rfl (cY rfl) (eo (ů rfl) (by rfl) B.max ag1 (aA (cZ iB (ah 6) bF) (aA (eo (É rfl) (by rfl) B.min VC (aA (pb (N':=["number","walk"]) (cs:=[none,some 3]) rfl (i1 (ah 4)) rfl (by decide+kernel) rfl (by decide+kernel) (i2 (kV.mpr ⟨rfl,(λp aP=>bE aP (eZ))⟩)) rfl
    (.own (.jO rfl (.inl rfl) (.inl rfl) rfl .nil))
    (λC s3 bL cw d_=>⟨(d1 (i:=0) (by show(["number","walk"]:bR).Nodup;decide+kernel) rfl (.inl rfl)),mK,(ib (ah 1) l7 nE.gM AP (ay.mono (by decide)) nE.bd .nil dQ (aA (ah 0) a5))⟩)) a5)) a5))))
   (bQ (kC jJ rfl (i1 (f5 aaS (ay.mono (by decide)) (by rfl) Cj.at_ Cj.fn.cT Cj.bd .nil dQ (aA (ah 0) (aA (ah 3) (aA (ah 4) (aA (ah 2) (aA (ah 6) a5))))))) (d1 (i:=7) tA.aK rfl (cY rfl))
    (bQ (ia (ib (ah 3) l7 Gq.gM ć (ay.mono (by decide)) Gq.bd .nil dQ (aA (ah 7) a5)))
   (b8 (ia (n4 oF oG oH mJ (ah 5) (aA (ah 7) a5))))))
   (b8 (rh (i:=4) tA.aK rfl rfl rfl (N':=["number","walk"]) (cs:=[none,some 3]) rfl (i1 (ah 4)) rfl (by decide+kernel) rfl (by decide+kernel) (i2 (kV.mpr ⟨rfl,(λp aP=>bE aP (eZ))⟩)) rfl
    (.own (.jO rfl (.inl rfl) (.inl rfl) rfl .nil))
    (λC s3 bL cw d_=>⟨(d1 (i:=0) (by show(["number","walk"]:bR).Nodup;decide+kernel) rfl (.inl rfl)),(ve (fP Dq (ib (ah 1) l7 Fg.gM aoh (ay.mono (by decide)) Fg.bd .nil dQ (aA (ah 0) a5)) l' (eD _))),(ah 0)⟩))))))
   (b8 (dE (ah 5)))))))),?_⟩
  have GG:fL.length=lds.length:=by have:=nc.len;rwa [bh]at this
  obtain⟨gs,Fb⟩:∃gs,gs=lds.map λd=>d.2.2:=⟨_,rfl⟩
  have arq:gs.length=lds.length:=by rw[Fb,bh]
  have x7:=fO fL;refine⟨_,rfl,_,rfl,λx av cy rE aK=>?_⟩;have mk:∀{b:Addr}{v:d4},H b=some v->upd (upd H av (.own x)) x (.ins C av []) b=some v:=λ{b v}e=>by rw[aL (dn e cy),aL (dn e rE)];exact e
  refine⟨x,av,n,ef,fL,lds,rfl,a8,mk ig,nc.same (λb v e=>mk e),(by omega),λH1 g st ls b5 W yj ase GS fr ars=>⟨rfl,?_⟩⟩;have s1:aT H H1:=Ψ cy rE b5;have apc:∀{b:Addr},upd (upd H av (.own x)) x (.ins C av []) b=none->H b=none:=λ{b}e=>by
   cases az:H b with
   |none=>rfl
   |some v=>rw[mk az]at e;cases e
  have ak7:∀l∈ls,H l=none:=λl aq=>apc (fr l aq).1;have ak8:∀l∈ls,l≠st/\l≠g:=λl aq=>(fr l aq).2;rw[<-Fb]at W;refine D7 ?_;dsimp only;refine ye ?_;refine I4 (K:=K) (a:=ef) (H1:=H1) (xs:=aW fL) (rest:=[some (.ref y)]) (λh9 h=>⟨_,rfl,ef,rfl,⟨_,aS.of (s1 _ _ ig)⟩,h⟩) rfl (aS.of (s1 _ _ ig)) (e1 (by omega)) (λi=>mU kvs hs ds (lds.getD i gV)) (λi=>.int (i:Int)) (λi v aj h9 ev s2 cm=>?_) (λi v aj h9 ev _ s2 cm=>⟨_,rfl,cm aj (aT.refl _)⟩) (λxt aj ant BF s2=>?_)
  .unfold aW at ev;rw[cM]at ev;obtain⟨r,d6,rfl⟩:=ft.mp ev;obtain⟨d',lh,mc⟩:=bX.get nc d6;rw[cM]at lh;obtain⟨d,dv,rfl⟩:=ft.mp lh;have gC:=s1.trans s2;have dy:=kk d (eQ dv);refine⟨_,rfl,_,rfl,r,y,n,t,bz,a7,hs,rs,ds,kvs,d,rfl,gC _ _ mc,k6.same gC,G,R.same gC,d9,dy.1,dy.2.1,λbL s3=>⟨_,rfl,?_⟩⟩;have:=cm bL s3;rw[me dv]at this;exact this
  rw[x7,GG]at BF;have BF:aj xt=some (.lst (fx (lA hs ds kvs lds))):=BF;refine⟨dM _,λpl qx=>?_⟩;have s3:=cV (o:=.lst []) qx;have Yt:upd aj pl (.lst []) pl=some (.lst []):=a8;have E2:=W.same s2;have Zn:=m1 (s1.trans s2) qx;have anK:pl≠g:=d8 (hO E2.goals qx);have anM:pl≠st:=d8 (hO E2.steps qx);have Zo:pl∉ls:=λz=>by obtain⟨ts,h⟩:=vy E2.each pl z;rw[qx]at h;cases h
  have anu:xt∉ls:=λz=>by obtain⟨ts,h⟩:=vy W.each xt z;rw[ant]at h;cases h
  have anv:xt≠pl:=hO BF qx;have Yc:=s3 _ _ BF;have Ay:=E2.same s3;have CU:=(s1.trans s2).trans s3;generalize upd aj pl (.lst [])=bL at s3 Yt Yc Ay CU⊢;have fv:=R.ok;have Fw:=G.c7;have EA:=Υ (kvs:=kvs) fv d9 Fw (show lds.length<=100 by omega) kk;rw[<-Fb]at EA;obtain⟨aop,EA,ao4⟩:=EA;refine⟨_,rfl,?_⟩;refine D7 ?_;dsimp only;have a0:vT C H bL x n g st xt pl gs ls [] (lds.map iC) (lA hs ds kvs lds) []:=⟨CU,⟨Ay.ins,Ay.goals,Ay.steps⟩,Ay.each,Yc,anu,anv,Yt,.nil⟩
  obtain⟨I,LO⟩:∃I:Nat->ar.St->aa->Prop,I=λm σ bJ=>∃(T:Int)(go:bj)(ak:dh)(rt:Nat->List Nat)(gl:Addr)(as:b4)(bs:kb)(om:l2),σ=[some (.ref n),some (.ref ef),some (.ref y),some (.ref x),some (.ref gl),some (.ref pl),some (.int T),om]/\vT C H bJ x n g st gl pl gs ls as ak go bs/\n8 hs ds kvs gs ak go rt/\hE rt go<=m/\bs++qL hs ds kvs gs m T go ak=r1 hs ds kvs lds/\as.length<=(1300-m)*100/\m<=1300:=⟨_,rfl⟩
  refine⟨I,⟨1300,by rw[LO];exact⟨-1,_,_,aop,xt,[],[],none,rfl,a0,EA,ao4,by rw[Jz,Fb];rfl,dM _,b1 _⟩⟩,?_⟩;intro m σ bJ FV;rw[LO]at FV;obtain⟨T,go,ak,rt,gl,as,bs,om,rfl,pI,O,asq,Nj,arN,arV⟩:=FV;have ali:go.length<=60:=by have:=oO (L:=da gs.length) O.aK λk aE=>jH.mpr (O.lt k aE);rw[j8]at this;omega
  obtain⟨AQ,Ny⟩:=pI.tP.ins;have ok:=(O.rj d9).1;have bZ:=(O.rj d9).2;refine⟨_,rfl,!(fx go).isEmpty,.inl ⟨_,aS.of pI.sR,rfl⟩,?_⟩;by_cases bx:go=[]
  .subst bx;refine eF rfl ⟨_,rfl,q pl bJ as Zn pI.aI pI.yu ?_⟩;have cI:qL hs ds kvs gs m T [] ak=[]:=by cases m<;>rfl
   rw[cI,iW]at Nj;rw[<-Nj];exact pI.AB
  obtain⟨ed,xa⟩:∃ed,ed=nextT T go ak:=⟨_,rfl⟩
  have less:=O.less (T:=ed) fv d9 (by rw[xa];exact Sq bx);obtain⟨m,rfl⟩:∃c5,m=c5+1:=⟨m-1,by omega⟩
  refine fi (by cases go with|nil=>exact bE rfl bx|cons _ _=>rfl) ⟨I m,λa_ H' h=>⟨m,by omega,h⟩,?_⟩;have q8:=pI.tP.at_ pI.each;dsimp only[qP,tZ,tJ,vQ];refine⟨_,rfl,_,_,rfl,rfl,?_⟩;have arS:(fx go).length=go.length:=bh _;refine Hw (J:=jG K gl) (H1:=bJ) (xs:=fx go) (rest:=[some (.ref x)]) (λh9 h=>⟨_,rfl,gl,rfl,⟨_,aS.of pI.sR⟩,h⟩) rfl (oU (aS.of pI.sR)) (e1 (by omega)) (λv=>match v with|.int k=>.int (gX ak k.toNat)|_=>.bV) (λi v aj h9 ev s2 cm=>?_) (λħ eP arX Xu s4=>?_)
  .obtain⟨k,aE,rfl⟩:=cf.mp (eQ ev);obtain⟨ss,aos,qT,ax,az,_⟩:=ok k aE;refine⟨_,rfl,x,AQ,_,rfl,s2 _ _ Ny,rfl,_,rfl,x,n,g,st,gs,ls,ak,k,ss,aos,rfl,q8.same s2,ax,?_⟩;rw[az];have:=cm aj (aT.refl _);rw[show(match V.int (k:Int)with|.int k=>V.int (gX ak k.toNat)|_=>.bV)=V.int (gX ak k) by show V.int (gX ak (k:Int).toNat)=_;rw[lX]]at this;exact this
  have akK:(fx go).map (λv=>match v with|.int k=>V.int (gX ak k.toNat)|_=>.bV)=(go.map (gX ak)).map V.int:=by unfold fx;rw[fS,fS];rfl
  rw[akK]at Xu;refine⟨ħ,go.map (gX ak),rfl,aS.of Xu,by simpa using bx,_,_,rfl,?_⟩;have akM:(if qz (go.map (gX ak))>T+1 then qz (go.map (gX ak))else T+1)=ed:=by rw[xa];unfold nextT;split<;>omega
  rw[akM];have qV:=pI.same s4;refine D7 ?_;refine⟨_,rfl,_,rfl,_,rfl,_,rfl,_,rfl,x,n,g,st,gl,y,t,bz,a7,gs,ls,rs,ak,hs,ds,kvs,go,gX ak,e4 kvs gs ak,ed,rfl,q8.same s4,aS.of qV.sR,k6.same qV.aI,R.same qV.aI,G,ali,O.aK,ok,bZ,λbf bY nC e5 yi s5 sV E4 QK Y4=>⟨bf,rfl,⟨_,aS.of sV⟩,?_⟩⟩;obtain rfl:=ab9 bZ QK Y4;obtain⟨lS,AS⟩:∃lS,lS=mf ds kvs gs ed go ak:=⟨_,rfl⟩
  have E4:bX (hY bY) nC lS:=by rw[AS];exact E4
  have kP:=qV.same s5;have ank:bf∉ls:=λz=>by obtain⟨ts,h⟩:=vy qV.each bf z;rw[yi]at h;cases h
  have anj:bf≠pl:=d8 (hO qV.yu yi);have YU:=h8 E4;have aqn:lS.length<=100:=by
   rw[AS];unfold mf vW;rw[bh];have aK:(nP ds.length (gX ak) (e4 kvs gs ak) ed go).Nodup:=(z2.filter _).imp λh=>dP h;have:=oO (L:=go.map (e4 kvs gs ak)) aK λr ay=>by have ag:=(Y4 r).mp ay;obtain⟨c,aC⟩:=Es _ ag;unfold eI at aC;obtain⟨k,aE,_⟩:=cf.mp aC;obtain⟨aV,bU⟩:=gx.mp aE;simp only[kR,decide_eq_true_eq]at bU;exact cf.mpr ⟨k,aV,bU.2⟩
   rw[bh]at this;omega
  refine ta (xs:=aW nC) (λj σ eX=>∃om,σ=[some (.ref n),some (.ref ef),some (.ref y),some (.ref x),some (.ref gl),some (.ref pl),some (.int ed),om]/\vT C H eX x n g st gl pl gs ls (as++nC.take j) (la hs ds (lS.take j) ak) go (bs++lS.take j)/\eX bf=some (.lst (aW nC))/\bX (hY eX) nC lS)
   ⟨om,rfl,by simpa[la]using kP,sV,E4⟩ (λj σ eX _⟨_,_,_,h,_⟩=>aS.of h) ?_ ?_
  .rintro j z σ eX dO ⟨om,rfl,gE,XZ,Lr⟩;unfold aW at dO;rw[cM]at dO;obtain⟨gc,AW,rfl⟩:=ft.mp dO;obtain⟨b,dN,U⟩:=bX.get Lr AW;have ajB:=eQ dN;have Lu:=ajB;rw[AS]at Lu;unfold mf vW at Lu;obtain⟨r,ay,lK⟩:=cf.mp Lu;have aon:r<ds.length:=by unfold nP at ay;exact jH.mp (gx.mp ay).1
   obtain⟨AQ,Nz⟩:=gE.tP.ins;have Qe:=aaR gE.aI ak7;have R8:=afN gE.tP gE.each ak8;refine⟨_,rfl,x,AQ,_,rfl,Nz,rfl,_,rfl,mask eX ls,x,n,g,st,bz,a7,gc,gs,ls,rs,_,hs,ds,b,rfl,aab eX ls,R8,gE.each,GS,(λl aq=>aeu aq),k6.jB.same Qe,R.same Qe,Hj U gE.each,?_,?_,?_,?_,λlU ip akP=>?_⟩
   .rw[<-lK];exact aon
   .rw[<-lK];exact af4 O.aK r
   .intro i ai;rw[<-lK]at ai;rw[vc,O.len];exact O.lt i (qq ai).1
   .intro ss u6;obtain⟨i,ai⟩:=q1 u6;rw[Hh]at ai;obtain⟨Qg,cI,rfl⟩:=ft.mp ai;have f:=O.c7 i;rw[show ak.getD i []=Qg by rw[dr,cI];rfl]at f;have gh:((lS.take j).filter λb=>decide (i∈b.2)).length<=(lS.filter λb=>decide (i∈b.2)).length:=((pR j lS).filter _).length_le;have fy:(lS.filter λb=>decide (i∈b.2)).length<=1:=by
     rw[AS];unfold mf;rw[RI bZ i];split
     .exact b1 _
     .exact dM _
    rw[e8,bh];omega
   have u4:=ip _ _ (ry gE.yu Zo);have arT:=h8 gE.AB;have ao2:(as++nC.take j).length<=200000:=by rw[e8,f_];omega
   refine⟨_,rfl,.inl ⟨rfl,_,aS.of u4⟩,_,rfl,pl,_,_,rfl,rfl,u4,(by rw[fO];exact mx ao2 (by decide)),_,rfl,?_,?_,?_⟩
   .have t1:nC.take (j+1)=nC.take j++[gc]:=by rw[mw,AW];rfl
    have fQ:lS.take (j+1)=lS.take j++[b]:=by rw[mw,dN];rfl
    rw[t1,fQ,Í,<-iV,<-iV];refine⟨h_ Zn (Qe.trans ip),(R8.same ip).upd u4 anK anM,acG akP u4 Zo,?_,gE.j2,gE.OT,by rw[a8,u_],?_⟩
    .rw[aL gE.OT];exact ip _ _ (ry gE.sR gE.j2)
    .exact Paired.snoc (((Hj U gE.each).same ip).upd u4) (bX.iN gE.AB λa b h=>((Hj h gE.each).same ip).upd u4)
   .rw[aL anj];exact ip _ _ (ry XZ ank)
   .exact bX.iN Lr λa b h=>((Hj h gE.each).same ip).upd u4
  .rintro σ eX ⟨om,rfl,gE,XZ,Lr⟩;rw[fO,YU,lY,show nC.take lS.length=nC by rw[<-YU,lY],AS]at gE;have gE:vT C H eX x n g st gl pl gs ls (as++nC) (fG hs ds kvs gs ed go ak) go (bs++mf ds kvs gs ed go ak):=gE;have uu:=O.step (T:=ed) fv d9;obtain⟨AQ,Nz⟩:=gE.tP.ins;have agW:=gE.tP.at_ gE.each;dsimp only;refine T4 (J:=jG K gl) (H1:=eX) (xs:=fx go) (rest:=[some (.ref x)]) (λh9 h=>⟨_,rfl,gl,rfl,⟨_,aS.of gE.sR⟩,h⟩) rfl (oU (aS.of gE.sR)) (e1 (by omega)) (λv=>match v with|.int k=>decide ((fc (fG hs ds kvs gs ed go ak) k.toNat).fK≠g8 gs k.toNat)|_=>false) id (λi v aj h9 ev s2 cm=>?_) (λi v aj h9 ev _ s2 cm=>⟨_,rfl,cm aj (aT.refl _)⟩) (λXn eP Zf Yb aov=>?_)
   .obtain⟨k,aE,rfl⟩:=cf.mp (eQ ev);have lk:k<gs.length:=O.lt k aE;have ax:(fG hs ds kvs gs ed go ak)[k]?=some ((fG hs ds kvs gs ed go ak).getD k []):=yh (by rw[uu.len];exact lk);obtain⟨amQ,e'⟩:=Α (uu.ne _ (eQ ax));refine⟨_,rfl,x,AQ,_,rfl,s2 _ _ Nz,rfl,_,rfl,x,n,g,st,gs,ls,_,k,amQ,fc (fG hs ds kvs gs ed go ak) k,g8 gs k,rfl,agW.same s2,?_,yh lk,rfl,_,rfl,?_⟩
    .rw[ax];congr 1
    .have az:decide (D' (fc (fG hs ds kvs gs ed go ak) k) (g8 gs k)=V.bV)=decide ((fc (fG hs ds kvs gs ed go ak) k).fK≠g8 gs k):=by
      unfold D';by_cases z:(fc (fG hs ds kvs gs ed go ak) k).fK=g8 gs k
      .rw[aO z];simp[z]
      .rw[aJ z];simp[z]
     rw[az];have:=cm aj (aT.refl _);rw[show(match V.int (k:Int)with|.int k=>decide ((fc (fG hs ds kvs gs ed go ak) k.toNat).fK≠g8 gs k.toNat)|_=>false)=decide ((fc (fG hs ds kvs gs ed go ak) k).fK≠g8 gs k) by show decide ((fc (fG hs ds kvs gs ed go ak) (k:Int).toNat).fK≠g8 gs (k:Int).toNat)=_;rw[lX]]at this;exact this
   have sJ:((fx go).filter λv=>match v with|.int k=>decide ((fc (fG hs ds kvs gs ed go ak) k.toNat).fK≠g8 gs k.toNat)|_=>false).map id=fx (oV gs go (fG hs ds kvs gs ed go ak)):=by unfold fx oV;rw[abN,z0];rfl
   rw[sJ]at Yb;rw[LO];have y6:=gE.same aov;refine⟨ed,_,_,_,Xn,as++nC,_,om,rfl,⟨y6.aI,y6.tP,y6.each,Yb,λz=>?_,d8 (hO gE.yu Zf),y6.yu,y6.AB⟩,uu,by omega,?_,?_,by omega⟩
   .obtain⟨ts,h⟩:=vy gE.each Xn z;rw[Zf]at h;cases h
   .rw[<-Nj,iV];congr 1;show _=(if go=[]then[]else _);rw[aJ bx,<-xa]
   .rw[e8];omega
theorem Fits.at_{hs:bD}{ds:b7}:∀{fg:kb}{k:Option gw}{ak:dh}{i:Nat}{bb:gw×List Nat},Fits hs ds k ak fg->fg[i]?=some bb->HF hs ds (la hs ds (fg.take i) ak) bb/\(∀eV,i=0->k=some eV->EP eV bb.1)/\∀j a7,i=j+1->fg[j]?=some a7->EP a7.1 bb.1
 |[],_,_,_,_,_,e=>by cases e
 |b::fg,k,ak,0,bb,f,e=>by
  cases e;cases f with
  |cons ag af aV=>exact⟨af,λeV _ e=>ag eV e,λj a7 e=>by cases e⟩
 |b::fg,k,ak,i+1,bb,f,e=>by
  cases f with
  |cons ag af aV=>
   obtain⟨g1,g2,g3⟩:=aV.at_ (i:=i) (bb:=bb) e;refine⟨g1,λeV z=>by(cases z),λj a7 ei dN=>?_⟩;have ei:j=i:=by omega
   subst ei;cases j with
   |zero=>cases dN;exact g2 _ rfl rfl
   |succ j=>exact g3 j a7 rfl dN
theorem ahC{a b:gw}(h:EP a b):(if a.1=b.1 then decide ((b.2:Int)<=(a.2:Int))else decide (b.1<=a.1))=false:=by
 rcases h with h|⟨ag,af⟩
 .rw[aJ (by omega)];exact eM (by omega)
 .rw[aO ag];exact eM (by omega)
theorem vj.same{H H':aa}{ea:Addr}{ak:dh}(h:vj H ea ak)(s:aT H H'):vj H' ea ak:=by obtain⟨yR,ag,af⟩:=h;exact⟨yR,s _ _ ag,bX.iN af λ_ _ e=>s _ _ e⟩
theorem vx.same{H H':aa}{eN:b4}{ak:dh}(h:vx H eN ak)(s:aT H H'):vx H' eN ak:=bX.iN h λ_ _ e=>s _ _ e
noncomputable abbrev C9:Stmt:=top 45
noncomputable abbrev ani:List Str:=["_law_lines","_law_letters","_law_plan","_law_stood","_law_gone","_law_at","_law_bag"]
noncomputable abbrev Hb:List Str:=["_law_lines","_law_letters","_law_plan"]
theorem Ae:d0 ani Hb (dx C9):=⟨rfl,rfl,rfl,by decide+kernel,rfl,by decide+kernel,by decide+kernel⟩
inductive ahD(vs:a')(H:aa)(Q:bl)(bM:cE):Prop where
 |mk (b ef pp:Addr) (hs:bD) (rs fL as:b4) (ds:b7) (lds:l1) (fg:kb) (b0:vs=[.ref b,.ref ef,.ref pp]) (bH:H b=some (.lst (aW rs))) (cu:hy H hs rs ds) (cS:H ef=some (.lst (aW fL))) (dw:eh H fL (lds.map qu)) (en:fL.length<=60) (ha:H pp=some (.lst (aW as))) (iT:bX (hY H) as fg) (ot:Fits hs ds none (lds.map iC) fg) (v3:∀n,(gone fg n).length<=100)
   (DK:∀(g:Addr)(H':aa)(eN:b4),H g=none->aT H H'->H' g=some (.lst (aW eN))->bX (λa n=>H' a=some (.lst (nats (gone fg n)))) eN (da lds.length)->Q (.ref g) H')
noncomputable def UV:c9:=λvs H Q bM=>ahD vs H Q bM
inductive TS(H bJ:aa)(ea go:Addr)(eN:b4)(ak:dh):Prop where
 |mk (aI:aT H bJ) (st:vj bJ ea ak) (arp:bJ go=some (.lst (aW eN))) (hi:vx bJ eN ak)
theorem Φ{hs:bD}{ds:b7}{lds:l1}{fg:kb}{n:Nat}{ss:List Step}(e:(la hs ds fg (lds.map iC))[n]?=some ss):n<lds.length/\ss≠[]/\tf ss=gone fg n/\ss.length=(gone fg n).length+1:=by rw[Hh,cM]at e;obtain⟨s1,ax,rfl⟩:=ft.mp e;obtain⟨d,dv,rfl⟩:=ft.mp ax;refine⟨(gj.mp dv).1,by simp[iC],?_,by simp[iC,gone]⟩;unfold tf gone iC;rw[List.singleton_append,List.drop_one,List.tail_cons,fS];exact q3 λb _=>by simp[stepK]
seal ht bN g0 hI
theorem ahE{f f1:Addr}{fd eU:c1}(F:b6 K "_law_walked" "_law_walked" C9 f fd)(B:hb ae)(AN:dS K ae "_law_bag_fits" C0 G6 f1 eU)(aok:a4 P w K ae base bu 1 f1 eU G6 Kk):a4 P w K ae base bu 2 f fd Hb UV:=by
 refine F.ok Ae (λvs H Q E h=>?_) (λbK A outer s H vs Q E ay h=>?_)
 .obtain⟨b,ef,pp,hs,rs,fL,as,ds,lds,fg,rfl,_⟩:=h;rfl
 .obtain⟨b,ef,pp,hs,rs,fL,as,ds,lds,fg,rfl,U,R,ig,nc,c7,Ge,kc,gA,xj,q⟩:=h;refine⟨_,(bQ (rh (i:=3) Ae.aK rfl rfl rfl (N':=["_law_letter_here"]) (cs:=[none]) rfl (i1 (ah 1)) rfl (by decide+kernel) rfl (by decide+kernel) (i2 (λp aP=>bE aP (eZ))) rfl
    (.own .nil)
    (λC s3 bL cw d_=>⟨(d1 (i:=0) (by show(["_law_letter_here"]:bR).Nodup;decide+kernel) rfl (.inl rfl)),mK,(jS (aA (cz (td (K:=K) rfl) (ah 0) bF (λ_ _=>rfl)) (aA (cz (td (K:=K) rfl) (ah 0) bF (λ_ _=>rfl)) a5)))⟩))
   (bQ (rh (i:=4) Ae.aK rfl rfl rfl (N':=["_law_letter_here"]) (cs:=[none]) rfl (i1 (ah 1)) rfl (by decide+kernel) rfl (by decide+kernel) (i2 (λp aP=>bE aP (eZ))) rfl
    (.own .nil)
    (λC s3 bL cw d_=>⟨(d1 (i:=0) (by show(["_law_letter_here"]:bR).Nodup;decide+kernel) rfl (.inl rfl)),mK,(l_ a5)⟩))
   (bQ (gd (jR (ki (eo oP (by rfl) B.isinstance nD (aA (ah 2) (aA (n2 (by rfl) B.list nM) a5))))) (b8 (dE l')) gb)
   (bQ (kC jJ rfl (vf rfl B.enumerate (aA (ah 2) a5)) (yx rfl (hK (d1 (i:=5) Ae.aK rfl (cY rfl)) (hK (d1 (i:=6) Ae.aK rfl (cY rfl)) oS)))
    (bQ (gd (jR (ki (f5 aok (ay.mono (by decide)) (by rfl) AN.at_ AN.fn.cT AN.bd .nil dQ (aA (ah 0) (aA (ah 1) (aA (ah 3) (aA (ah 4) (aA (ah 6) a5)))))))) (b8 (dE l')) gb)
   (b8 (gd (jh.pt (ID (fP vP (ah 5) bF (eD _)) (SX (fP (af7 (UQ (ju ay))) (jS (aA (cz d5 (cz gS (ah 2) (cZ Dn (ah 5) bF) (λ_ _=>rfl)) bF (λ_ _=>rfl)) (aA (cz d5 (cz gS (ah 2) (cZ Dn (ah 5) bF) (λ_ _=>rfl)) bF (λ_ _=>rfl)) a5))) (jS (aA (cz d5 (ah 6) bF (λ_ _=>rfl)) (aA (cz d5 (ah 6) bF (λ_ _=>rfl)) a5))) (eD _))))) (b8 (dE l')) gb))))
   (b8 (dE (ah 4))))))),?_⟩
  have GG:fL.length=lds.length:=by have:=nc.len;rwa [bh]at this
  have x7:=fO fL;have amW:∀{i:Nat}{v:ar.V},(aW fL)[i]?=some v->∃(r:Addr)(d:nA),v=.ref r/\lds[i]?=some d/\H r=some (.tup (qu d)):=λ{i v}ev=>by unfold aW at ev;rw[cM]at ev;obtain⟨r,d6,rfl⟩:=ft.mp ev;obtain⟨d',lh,mc⟩:=bX.get nc d6;rw[cM]at lh;obtain⟨d,dv,rfl⟩:=ft.mp lh;exact⟨r,d,rfl,dv,mc⟩
  refine ye ?_;refine aey (J:=jG K ef) (H1:=H) (xs:=aW fL) (rest:=[]) (λh9 h=>⟨_,rfl,ef,rfl,⟨_,aS.of ig⟩,h⟩) rfl (oU (aS.of ig)) (e1 (by omega)) (λi v H'=>∃r,v=.ref r/\H' r=some (.tup [.str (lds.getD i gV).1,.int (lds.getD i gV).2.1])) ?_ ?_ (λi v aj h9 ev s2 cm=>?_) (λea H1 vs anP xJ lv each s1=>?_)
  .rintro i v aj bL s3 ⟨r,rfl,e⟩;exact⟨r,rfl,s3 _ _ e⟩
  .rintro i v aj D ys zs ck ⟨r,rfl,e⟩;exact⟨r,rfl,by rw[aL (λz=>by rw[z,ck]at e;cases e)];exact e⟩
  .obtain⟨r,d,rfl,dv,hd⟩:=amW ev;refine⟨_,rfl,r,_,_,_,rfl,rfl,b2.of (s2 _ _ hd),rfl,_,rfl,r,_,_,_,rfl,rfl,b2.of (s2 _ _ hd),rfl,(by show 2<=sizeLine;decide),λt el=>cm _ _ (cV el) ⟨t,rfl,?_⟩⟩;rw[a8,me dv]
  obtain⟨Yy,rfl,θ⟩:=Tf (H:=H1) (g:=λi=>[.str (lds.getD i gV).1,.int (lds.getD i gV).2.1]) vs 0 λi v ev=>by obtain⟨r,ax,az⟩:=each i v ev;exact⟨r,ax,by rw[az,ur]⟩
  refine ye ?_;refine ad3 (J:=jG K ef) (H1:=H1) (xs:=aW fL) (rest:=[]) (λh9 h=>⟨_,rfl,ef,rfl,⟨_,aS.of (s1 _ _ ig)⟩,h⟩) rfl (oU (aS.of (s1 _ _ ig))) (e1 (by omega)) (λgo aj eN vn hQ arU anl fr s2=>?_);have vu:go≠ea:=λz=>by rw[z,xJ]at vn;cases vn
  have uc:TS H aj ea go eN (la hs ds (fg.take 0) (lds.map iC)):=by
   rw[uj];refine⟨s1.trans s2,⟨Yy,s2 _ _ xJ,?_⟩,hQ,?_⟩
   .refine B6 (by rw[fO]at lv;show Yy.length=(lds.map iC).length;rw[bh];omega) λi x y ex d2=>?_;obtain⟨arl,WD,ao⟩:=bX.get θ ex;have ai:i<lds.length:=by have:=(gj.mp ex).1;rw[fO]at lv;omega
    rw[cM,Ew (by rw[lv];omega)]at WD;cases WD;have d2:(lds.map iC)[i]?=some y:=d2;rw[cM,ct ai]at d2;cases d2;rw[s2 _ _ ao];show some (d4.tup [V.str (lds.getD (0+i) gV).1,V.int (lds.getD (0+i) gV).2.1])=some (d4.tup [V.str lds[i].1,V.int lds[i].2.1]);rw[ur,me (ct ai)]
   .refine B6 (by show eN.length=(lds.map iC).length;rw[bh];omega) λi x y ex d2=>?_;have d2:(lds.map iC)[i]?=some y:=d2;rw[cM]at d2;obtain⟨d,_,rfl⟩:=ft.mp d2;exact(fr x (eQ ex)).2.2
  have xk:∀l∈eN,H l=none/\l≠ea/\l≠go:=λl aq=>by
   refine⟨?_,λz=>?_,(fr l aq).2.1⟩
   .cases e:H l with
    |none=>rfl
    |some o=>
     have:=(fr l aq).1;rw[s1 _ _ e]at this;cases this
   .have:=(fr l aq).1;rw[z,xJ]at this;cases this
  have anq:H go=none:=by
   cases e:H go with
   |none=>rfl
   |some o=>rw[s1 _ _ e]at vn;cases vn
  refine⟨_,rfl,_,_,_,_,_,rfl,⟨rfl,.lst (uc.1 _ _ Ge),rfl⟩,_,rfl,?_⟩;refine eF rfl ?_;refine⟨_,rfl,pp,rfl,⟨_,aS.of (uc.1 _ _ Ge)⟩,?_⟩;clear θ each fr s2 s1 hQ xJ lv;have yl:∀{x:Addr}{o:d4},H x=some o->x≠ea/\x∉eN:=λ{x o}e=>⟨dn e anP,λz=>by rw[(xk x z).1]at e;cases e⟩
  refine QM (K:=K) (a:=pp) (xs:=aW as) (λi σ bJ=>∃nd v6,σ=[some (.ref b),some (.ref ef),some (.ref pp),some (.ref ea),some (.ref go),nd,v6]/\TS H bJ ea go eN (la hs ds (fg.take i) (lds.map iC)))
   ⟨none,none,rfl,uc⟩ (λi σ bJ⟨_,_,_,J⟩=>aS.of (J.1 _ _ Ge)) ?_ ?_
  .rintro i z σ bJ p dO ⟨nd,v6,rfl,⟨aI,st,hQ,hi⟩⟩ np;unfold aW at dO;rw[cM]at dO;obtain⟨gc,AW,rfl⟩:=ft.mp dO;obtain⟨bb,Wz,xA⟩:=bX.get kc AW;have aG:fg.take (i+1)=fg.take i++[bb]:=by rw[mw,Wz];rfl
   obtain⟨AE,_,lt⟩:=gA.at_ Wz;have sp:=cV (o:=.tup [V.int (i:Int),V.ref gc]) np;refine⟨p,_,rfl,b2.of a8,rfl,_,_,rfl,_,_,rfl,rfl,?_⟩;have aI:=aI.trans sp;have st:=st.same sp;have hi:=hi.same sp;have hQ:=sp _ _ hQ;generalize upd bJ p (.tup [V.int (i:Int),V.ref gc])=eX at aI st hi hQ⊢;refine⟨_,rfl,_,rfl,_,rfl,_,rfl,_,rfl,b,ef,ea,go,gc,hs,rs,fL,eN,ds,aW fL,_,bb,rfl,aI _ _ U,aI _ _ ig,R.same aI,st,hQ,hi,xA.same aI,AE,?_,?_,anl,⟨(yl U).1,(yl ig).1,vu⟩,⟨(yl U).2,(yl ig).2,λz=>(xk _ z).2.2 rfl,λz=>(xk _ z).2.1 rfl⟩,λss u6=>?_,λnq cT aN Mh=>?_⟩
   .rw[vc,bh];omega
   .rw[vc,bh];omega
   .obtain⟨n,aD,e⟩:=hq u6;obtain⟨_,ag,_,aV⟩:=Φ (by rw[ct aD,e]);refine⟨ag,?_⟩;have bU:=xj n;rw[<-so i fg,Ss,e8]at bU;omega
   rw[<-Í,<-aG]at aN Mh;have Yd:=cT go _ vu (λz=>(xk _ z).2.2 rfl) hQ;have De:aT H nq:=λx o e=>cT x o (yl e).1 (yl e).2 (aI _ _ e);refine⟨_,rfl,eF rfl ?_⟩;obtain⟨c,hC,gK⟩:=xA;refine⟨_,rfl,_,_,rfl,rfl,_,rfl,?_⟩;by_cases ai:0<i
   .refine fi (dU (by omega)) ?_;obtain⟨j,rfl⟩:∃j,i=j+1:=⟨i-1,by omega⟩
    have al:=h8 kc;have YI:=(gj.mp AW).1;obtain⟨AF,WA⟩:∃AF,as[j]?=some AF:=⟨_,ct (by omega)⟩
    obtain⟨a7,akQ,gz,Nf,s8⟩:=bX.get kc WA;have l:=lt j a7 rfl akQ;have ap:ar.f3 (aW as) ((((j+1:Nat):Int))-1)=some (.ref AF):=by rw[show(((j+1:Nat):Int))-1=(j:Int) by omega];exact jo (by unfold aW;rw[cM,WA];rfl)
    have Yu:=De _ _ Ge;have Ys:=De _ _ Nf;have jw:=De _ _ hC;refine⟨_,rfl,_,rfl,_,_,rfl,rfl,pp,_,_,_,rfl,rfl,aS.of Yu,ap,AF,_,_,_,rfl,rfl,b2.of Ys,rfl,_,rfl,_,rfl,_,_,rfl,rfl,pp,_,_,_,rfl,rfl,aS.of Yu,ap,AF,_,_,_,rfl,rfl,b2.of Ys,rfl,(by show 2<=sizeLine;decide),λdW vt=>?_⟩;have s1:=cV (o:=.tup [V.int a7.1.1,V.int (a7.1.2:Int)]) vt;refine⟨_,rfl,gc,_,_,_,rfl,rfl,b2.of (s1 _ _ jw),rfl,_,rfl,gc,_,_,_,rfl,rfl,b2.of (s1 _ _ jw),rfl,(by show 2<=sizeLine;decide),λey yp=>?_⟩;have s2:=cV (o:=.tup [V.int bb.1.1,V.int (bb.1.2:Int)]) yp;refine⟨dW,ey,a7.1.1,_,bb.1.1,_,rfl,rfl,b2.of (s2 _ _ a8),b2.of a8,_,rfl,?_⟩;refine eF (ahC l) ?_;have gC:=s1.trans s2;exact⟨_,_,rfl,De.trans gC,aN.same gC,gC _ _ Yd,Mh.same gC⟩
   .refine eF (eM (by omega)) ?_;exact⟨_,_,rfl,De,aN,Yd,Mh⟩
  .rintro σ bJ ⟨nd,v6,rfl,⟨aI,st,hQ,hi⟩⟩;have al:=h8 kc;rw[fO,al,lY]at hi;refine⟨_,rfl,q go bJ eN anq aI hQ ?_⟩;have gl:=h8 hi;rw[vc,bh]at gl;refine B6 (by rw[j8];exact gl) λi x y ex d2=>?_;obtain⟨ss,es,ao⟩:=bX.get hi ex;have ai:=(gj.mp ex).1;rw[Ew (by omega)]at d2;cases d2;rw[ao,(Φ es).2.2.1]
unseal ht bN g0 hI
noncomputable abbrev C3:Stmt:=i8 (top 34) 5
theorem ah7:d0 ["self"] ["self"] (dx C3):=⟨rfl,rfl,rfl,by decide+kernel,rfl,by decide+kernel,by decide+kernel⟩
inductive afQ(C:Addr)(vs:a')(H:aa)(Q:bl)(bM:cE):Prop where
 |mk (x av n t:Addr) (rs:List Row) (b0:vs=[.ref x]) (bH:H x=some (.ins C av (mZ n t))) (cu:H t=some (.c4 (du rs))) (cS:(rs.map pB).Nodup) (dw:rs.length<=900) (en:∀(l:Addr)(H':aa)(ts:b4),H l=none->aT H H'->H' l=some (.lst (fj .bV (iM (rs.map pB)) (aW ts)))->eh H' ts (rs.map m4)->Q (.ref l) H')
noncomputable def JH(C:Addr):c9:=λvs H Q bM=>afQ C vs H Q bM
theorem afI{C f:Addr}{fd:c1}(F:b6 K "pairs" "Ways.pairs" C3 f fd)(B:hb ae)(cH:o_ K C):a4 P w K ae base bu 1 f fd ["self"] (JH C):=by
 refine F.ok ah7 (λvs H Q E h=>?_) (λbK A outer s H vs Q E ay h=>?_)
 .obtain⟨x,av,n,t,rs,rfl,_⟩:=h;rfl
 .obtain⟨x,av,n,t,rs,rfl,ao,cO,aK,c7,q⟩:=h;refine⟨_,(b8 (dE (eo api (by rfl) B.sorted B1 (aA (ag2 (pb (N':=["pair","road"]) (cs:=[none,none]) rfl (ab0 (hA (ah 0) (by rfl))) rfl (by decide+kernel) rfl (by decide+kernel) (i2 (λp aP=>bE aP (eZ))) rfl
    (.own (.own .nil))
    (λC s3 bL cw d_=>⟨(x' (K:=K) (n:=2) rfl rfl (hK (d1 (i:=0) (by show(["pair","road"]:bR).Nodup;decide+kernel) rfl (.inl rfl)) (hK (d1 (i:=1) (by show(["pair","road"]:bR).Nodup;decide+kernel) rfl (.inl rfl)) oS))),mK,(jS (aA (cz (td (K:=K) rfl) (ah 0) bF (λ_ _=>rfl)) (aA (cz (td (K:=K) rfl) (ah 0) bF (λ_ _=>rfl)) (aA (ah 1) a5))))⟩))) a5)))),?_⟩
  have e5:(du rs).length=rs.length:=by unfold du;rw[bh]
  have tn:x≠t:=λz=>by rw[z,cO]at ao;cases ao
  dsimp only[zQ,tJ,vQ];refine⟨t,du rs,cO,λo=>?_⟩;have e2:upd H t (.ee o (.c4 (du rs))) x=some (.ins C av (mZ n t)):=by rw[aL tn];exact ao
  refine aal (H1:=upd H t (.ee o (.c4 (du rs)))) (a:=t) (o:=o) (kvs:=du rs) (rest:=[]) (λR h=>⟨_,rfl,x,C,av,_,_,rfl,e2,cH.cl,cH.el,rfl,t,o,_,rfl,a8,h⟩) rfl a8 (e1 (by omega)) (λi=>m4 (rs.getD i r0)) (λi k qS b aj R eS aI U oX=>?_) (λD H1 ts n_ ck cc ZY=>?_)
  .unfold du at eS;rw[cM]at eS;obtain⟨r,d6,az⟩:=ft.mp eS;cases az;rw[me d6]at oX;exact⟨_,rfl,b,_,_,_,rfl,rfl,b2.of U,rfl,_,rfl,b,_,_,_,rfl,rfl,b2.of U,rfl,_,rfl,(by show 3<=sizeLine;decide),λz CE=>oX z _ (cV CE) a8⟩
  .have ao7:(da (du rs).length).map (λi=>m4 (rs.getD i r0))=rs.map m4:=by rw[e5];exact range_getD m4 r0 rs
   rw[ao7]at cc;have alu:D≠t:=λz=>by rw[z,a8]at n_;cases n_
   have YE:=ZY _ _ (a8 (H:=H) (a:=t) (o:=.ee o (.c4 (du rs))));have sB:aT H (upd H1 t (.c4 (du rs))):=λb v e=>by
    by_cases U:b=t
    .rw[U]at e⊢;rw[a8,<-e,cO]
    .rw[aL U];exact ZY _ _ (by rw[aL U];exact e)
   have Dt:eh (upd H1 t (.c4 (du rs))) ts (rs.map m4):=cc.upd YE (by intro d z;cases z);have c3:=cc.len;rw[bh]at c3;refine⟨YE,D,ts,rs.map pB,false,[false,true],rfl,aS.of (by rw[aL alu];exact ck),aam Dt,by rw[c3];have:=aed (row_shape rs) aK;rw[bh]at this;exact this,row_shape rs,λl nl=>?_⟩;have sl:=cV (o:=.lst (fj V.bV (iM (rs.map pB)) (ts.map V.ref))) nl;refine q l _ ts ?_ (sB.trans sl) a8 (Dt.same sl);cases e:H l with
   |none=>rfl
   |some u=>rw[sB _ _ e]at nl;cases nl
theorem ahF{hs:bD}{ds:b7}(R:∀d∈ds,d.Ok hs.length):∀e∈jr hs ds,1<=e.t:=λe he=>by obtain⟨d,hd,rfl⟩:=cf.mp he;exact(R d hd).t.1
theorem ad4{hs:bD}{ds:b7}(R:∀d∈ds,d.Ok hs.length){h g:Str}{v:Int}(bI:ih hs ds h g=some v)(aD:h≠g):
  ∃(k:Nat)(d:de.fv)(u:Int),best hs ds h g=(k:Int)/\ds[k]?=some d/\S (hs.getD d.a [])=h/\ih hs ds (S (hs.getD d.b [])) g=some u/\(d.t:Int)+u=v:=by
 obtain⟨m,f⟩:=R4 (ahF R) bI aD;obtain⟨i,ai⟩:=q1 (cf.mpr ⟨_,m,rfl⟩:V.int (best hs ds h g)∈(iq hs ds (·.a) h).map V.int);obtain⟨k,d,ax,az,cq⟩:=R7 ai;have Ws:best hs ds h g=(k:Int):=V.int.inj ax;rw[Ws]at f;unfold r3 w5 HT at f;rw[lX,rz az]at f;cases cJ:ih hs ds (S (hs.getD d.b [])) g with
 |none=>rw[cJ]at f;cases f
 |some u=>
  rw[cJ,bI]at f;have:=kJ f;exact⟨k,d,u,Ws,az,cq,cJ,gZ this⟩
theorem QT{κ:Type}[DecidableEq κ]{kvs:List (κ×ar.V)}{k:κ}{v:ar.V}(h:cW kvs k=some v):k∈kvs.map (·.1):=by obtain⟨j,x,e⟩:=PJ (show(cW kvs k).isSome=true by rw[h];rfl);exact cf.mpr ⟨_,eQ e,rfl⟩
end
theorem CA.get{hs:bD}{ds:b7}{kvs:dt}(T:CA hs ds kvs){k:List br}{v:ar.V}(e:cW kvs k=some v):∃h g,k=d3 h g/\h∈hs.map S/\g∈hs.map S/\h≠g/\(ih hs ds h g).isSome=true/\v=.int (best hs ds h g):=by
 obtain⟨h,g,rfl,OC,ae⟩:=T.kd.key k (QT e);by_cases m:h∈hs.map S/\h≠g/\(ih hs ds h g).isSome=true
 .have:=T.kd.yes h g m;rw[e]at this;exact⟨h,g,rfl,OC,ae,m.2.1,m.2.2,gZ this⟩
 .rw[T.kd.no h g m]at e;cases e
noncomputable def Pf(hs:bD)(ds:b7)(g h:Str):Bool:=decide (h≠g)&&(ih hs ds h g).isSome
noncomputable def ah8(hs:bD)(ds:b7)(g:Str)(L:bR):List Row:=(L.filter (Pf hs ds g)).map λh=>(h,g,best hs ds h g)
noncomputable def J_(hs:bD)(ds:b7)(L:bR):List Row:=L.flatMap λg=>ah8 hs ds g (hs.map S)
theorem HQ{hs:bD}{ds:b7}{L:bR}{r:Row}(h:r∈J_ hs ds L):r.1∈hs.map S/\r.2.1∈L/\r.1≠r.2.1/\(ih hs ds r.1 r.2.1).isSome=true/\r.2.2=best hs ds r.1 r.2.1:=by obtain⟨g,bx,ay⟩:=Jy.mp h;obtain⟨k,aE,rfl⟩:=cf.mp ay;obtain⟨ag,af⟩:=gx.mp aE;unfold Pf at af;simp only[kR,decide_eq_true_eq]at af;exact⟨ag,bx,af.1,af.2,rfl⟩
theorem ad5{hs:bD}{ds:b7}{L:bR}{h g:Str}(dy:h∈hs.map S)(bx:g∈L)(ne:h≠g)(is:(ih hs ds h g).isSome=true):(h,g,best hs ds h g)∈J_ hs ds L:=by refine Jy.mpr ⟨g,bx,cf.mpr ⟨h,gx.mpr ⟨dy,?_⟩,rfl⟩⟩;unfold Pf;rw[dU ne,is];rfl
theorem Rt{κ:Type}[DecidableEq κ]{k:κ}{v:ar.V}:∀{l:List (κ×ar.V)}{j:Nat},(l.map (·.1)).Nodup->l[j]?=some (k,v)->cW l k=some v
 |[],j,_,h=>by simp at h
 |p::r,0,aK,h=>by simp only[Ui,U6]at h;subst h;exact l5 rfl
 |p::r,j+1,aK,h=>by
  rw[gk,jf]at aK;have h':r[j]?=some (k,v):=by simpa using h
  rw[k8 (λz=>aK.1 (by rw[z];exact cf.mpr ⟨_,eQ h',rfl⟩))];exact Rt aK.2 h'
theorem acq(ds:iY):g4 (.list ds) (.list [])=ds.isEmpty:=by cases ds<;>rfl
theorem CA.rows{hs:bD}{ds:b7}{kvs:dt}(T:CA hs ds kvs):∃rs:List Row,kvs=du rs/\rs.Nodup/\∀r,r∈rs↔r∈J_ hs ds (hs.map S):=by
 have val:∀p∈kvs,cW kvs p.1=some p.2:=λp aP=>by obtain⟨j,aQ⟩:=q1 aP;exact Rt T.kd.aK (show kvs[j]?=some (p.1,p.2)from aQ)
 obtain⟨rs,e⟩:=S9 (kvs:=kvs) λp aP=>by obtain⟨h,g,ax,_,_,_,_,az⟩:=T.get (val p aP);exact⟨(h,g,best hs ds h g),EG ax az⟩
 subst e;refine⟨rs,rfl,?_,λr=>⟨λay=>?_,λay=>?_⟩⟩
 .have aK:=T.kd.aK;unfold du at aK;rw[fS]at aK;exact(oA.mp aK).imp λh z=>h (by rw[z])
 .have aP:(([.inr r.1,.inr r.2.1],.int r.2.2):List br×ar.V)∈du rs:=cf.mpr ⟨r,ay,rfl⟩;obtain⟨h,g,ax,eO,hD,ne,is,az⟩:=T.get (val _ aP);obtain⟨cq,et⟩:=yF (h:=r.1) (g:=r.2.1) ax;have g6:r=(h,g,best hs ds h g):=EG cq (EG et (V.int.inj az));rw[g6];exact ad5 eO hD ne is
 .obtain⟨eO,hD,ne,is,e⟩:=HQ ay;have bI:=T.kd.yes r.1 r.2.1 ⟨eO,ne,is⟩;obtain⟨j,y,ei⟩:=PJ (show(cW (du rs) (d3 r.1 r.2.1)).isSome=true by rw[bI];rfl);have d2:=val _ (eQ ei);rw[bI]at d2;obtain⟨cB,i7,b9⟩:=cf.mp (eQ ei);obtain⟨cq,et⟩:=yF (h:=cB.1) (g:=cB.2.1) (e9 Prod.fst b9);have kA:V.int cB.2.2=y:=e9 Prod.snd b9;have AR:cB.2.2=best hs ds r.1 r.2.1:=by have:=gZ d2;rw[<-kA]at this;exact(V.int.inj this).symm
  have g6:r=cB:=EG cq.symm (EG et.symm (by rw[e,AR]));rw[g6];exact i7
structure Vt(hs:bD)(ds:b7)(r:Row):Prop where
 h:r.1∈hs.map S
 g:r.2.1∈hs.map S
 k:∃n:Nat,r.2.2=(n:Int)/\n<ds.length/\pD hs ds n=r.1
structure qN(hs:bD)(ds:b7)(kvs:dt):Prop where
 rows:∃rs:List Row,kvs=du rs/\(rs.map λr=>(r.1,r.2.1)).Nodup/\∀r∈rs,Vt hs ds r
theorem acr(h g:Str)(k:Int)(rs:List Row)(aK:(rs.map λr=>(r.1,r.2.1)).Nodup):∃rP:List Row,ez (du rs) (d3 h g) (.int k)=du rP/\(rP.map λr=>(r.1,r.2.1)).Nodup/\∀r∈rP,r∈rs\/r=(h,g,k):=by
 have Of:∀r:Row,(d3 r.1 r.2.1=d3 h g)↔(r.1,r.2.1)=(h,g):=λr=>by
  constructor
  .intro e;obtain⟨ax,az⟩:=yF e;rw[ax,az]
  .intro e;obtain⟨ax,az⟩:=U' e;rw[ax,az]
 unfold ez;split
 .refine⟨rs.map λr=>if(r.1,r.2.1)=(h,g)then(h,g,k)else r,?_,?_,λr ay=>?_⟩
  .unfold du;rw[fS,fS];refine q3 λr _=>?_;show(if d3 r.1 r.2.1=d3 h g then(d3 r.1 r.2.1,V.int k)else(d3 r.1 r.2.1,V.int r.2.2))=_;by_cases e:(r.1,r.2.1)=(h,g)
   .rw[aO ((Of r).mpr e)];show _=(d3 (if(r.1,r.2.1)=(h,g)then(h,g,k)else r).1 (if(r.1,r.2.1)=(h,g)then(h,g,k)else r).2.1,V.int (if(r.1,r.2.1)=(h,g)then(h,g,k)else r).2.2);rw[aO e];obtain⟨ax,az⟩:=U' e;rw[ax,az]
   .rw[aJ λz=>e ((Of r).mp z)];show _=(d3 (if(r.1,r.2.1)=(h,g)then(h,g,k)else r).1 (if(r.1,r.2.1)=(h,g)then(h,g,k)else r).2.1,V.int (if(r.1,r.2.1)=(h,g)then(h,g,k)else r).2.2);rw[aJ e]
  .rw[fS];have:((λr:Row=>(r.1,r.2.1))∘λr=>if(r.1,r.2.1)=(h,g)then(h,g,k)else r)=λr:Row=>(r.1,r.2.1):=by
    funext r;show((if(r.1,r.2.1)=(h,g)then(h,g,k)else r).1,(if(r.1,r.2.1)=(h,g)then(h,g,k)else r).2.1)=(r.1,r.2.1);by_cases e:(r.1,r.2.1)=(h,g)
    .rw[aO e];exact e.symm
    .rw[aJ e]
   rw[this];exact aK
  .obtain⟨cB,i7,rfl⟩:=cf.mp ay;by_cases e:(cB.1,cB.2.1)=(h,g)
   .rw[aO e];exact .inr rfl
   .rw[aJ e];exact .inl i7
 .rename_i no;refine⟨rs++[(h,g,k)],by unfold du;rw[fo];rfl,?_,λr ay=>?_⟩
  .rw[fo];refine ui.mpr ⟨aK,by simp,λp aP q bp=>?_⟩;rw[List.map_singleton,fD]at bp;rintro rfl;obtain⟨r,ay,d6⟩:=cf.mp aP;refine no (pN.mpr ⟨([.inr r.1,.inr r.2.1],V.int r.2.2),cf.mpr ⟨r,ay,rfl⟩,dU ((Of r).mpr ?_)⟩);exact d6.trans bp
  .rcases fY.mp ay with y|y
   .exact .inl y
   .exact .inr (fD.mp y)
theorem qN.put{hs:bD}{ds:b7}{kvs:dt}(T:qN hs ds kvs){h g:Str}{n:Nat}(OC:h∈hs.map S)(ae:g∈hs.map S)(aD:n<ds.length)(U:pD hs ds n=h):qN hs ds (ez kvs (d3 h g) (.int (n:Int))):=by
 obtain⟨rs,rfl,aK,ok⟩:=T.rows;obtain⟨rP,e,OS,m⟩:=acr h g (n:Int) rs aK;refine⟨⟨rP,e,OS,λr ay=>?_⟩⟩;rcases m r ay with y|rfl
 .exact ok r y
 .exact⟨OC,ae,n,rfl,aD,U⟩
theorem Ĺ{hs:bD}{i j:Nat}(ai:i<hs.length)(aQ:j<hs.length)(ne:S (hs.getD i [])≠S (hs.getD j [])):k' (ck hs) (.str (S (hs.getD i []))) (.str (S (hs.getD j [])))=true:=by show(inD _ _&&inD _ _&&!g4 _ _)=true;rw[Q_ ai,Q_ aQ,Tj,eM ne];rfl
theorem Vu{H:aa}{hs:bD}(G:Good hs){c:Str}(h:c∈hs.map S):gy H (.str c) (.str c):=by obtain⟨x,ao,rfl⟩:=cf.mp h;have n:=G.nm x ao;exact .str _ (by rw[DL];have:=n.2.1;omega) (Cs n)
theorem Sg{H:aa}:∀{L:fh},hX H (L.map V.int) (L.map mz)
 |[]=>.nil
 |k::r=>.cons (.int _) Sg
structure wF(C:Addr)(hs:bD)(ds:b7)(fB:aa)(dJ f6 x t:Addr)(bJ:aa)(kvs:dt):Prop where
 aI:aT fB bJ
 ins:bJ dJ=some (.ins C f6 (mZ x t))
 cc:bJ t=some (.c4 kvs)
 tab:qN hs ds kvs
theorem wF.same{C:Addr}{hs:bD}{ds:b7}{fB:aa}{dJ f6 x t:Addr}{bJ eX:aa}{kvs:dt}(J:wF C hs ds fB dJ f6 x t bJ kvs)(s:aT bJ eX):wF C hs ds fB dJ f6 x t eX kvs:=⟨J.aI.trans s,s _ _ J.ins,s _ _ J.cc,J.tab⟩
theorem Sh{hs:bD}{i:Nat}{z:ar.V}(e:(dC hs)[i]?=some z):i<hs.length/\∃h:Str,h=S (hs.getD i [])/\z=.str h:=by unfold dC at e;rw[cM]at e;obtain⟨y,d2,rfl⟩:=ft.mp e;obtain⟨ai,_⟩:=gj.mp d2;exact⟨ai,_,rfl,by rw[rz d2]⟩
inductive ah9(C:Addr)(hs:bD)(ds:b7)(fB:aa)(x dW h6 a dJ f6 t:Addr)(i:Nat)(σ:ar.St)(bJ:aa):Prop where
 |mk (kvs:dt) (nd v6 om lP rT v10:l2) (b0:σ=[some (.ref x),some (.ref dW),some (.ref h6),some (.ref a),some (.ref dJ),nd,v6,om,lP,rT,v10]) (bH:wF C hs ds fB dJ f6 x t bJ kvs) (cu:kvs.length<=12*i)
inductive aia(C:Addr)(hs:bD)(ds:b7)(fB:aa)(x dW h6 a dJ f6 t qy:Addr)(L:fh)(h':Str)(i j:Nat)(σ:ar.St)(bJ:aa):Prop where
 |mk (kvs:dt) (lP rT v10:l2) (b0:σ=[some (.ref x),some (.ref dW),some (.ref h6),some (.ref a),some (.ref dJ),some (.int (i:Int)),some (.str h'),some (.ref qy),lP,rT,v10]) (bH:wF C hs ds fB dJ f6 x t bJ kvs) (cu:kvs.length<=12*i+j) (cS:bJ qy=some (.lst (L.map V.int)))
inductive ahG(K:aY)(C bA:Addr)(vs:a')(H:aa)(Q:bl)(bM:cE):Prop where
 |mk (x dW h6 a bz a7:Addr) (hs:bD) (rs:b4) (ds:b7) (ns:fh) (b0:vs=[.ref x,.ref dW,.ref h6,.ref a]) (bH:lz bA H x bz a7 (dC hs) (aW rs)) (cu:H dW=some (.lst (dC hs))) (cS:H h6=some (.lst (aW rs))) (dw:aS K H a (ns.map V.int)) (en:Good hs) (ha:hy H hs rs ds) (iT:rs.length<=40) (ot:∀(y t:Addr)(H':aa)(kvs:dt),H y=none->H t=none->aT H H'->kD C bA H' y x t bz a7 (dC hs) (aW rs) kvs->qN hs ds kvs->Q (.ref y) H')
noncomputable def Ka(K:aY)(C bA:Addr):c9:=λvs H Q bM=>ahG K C bA vs H Q bM
section
variable{P:bP}{w:bt}{K:aY}{ae:cN}{base:Heap}
noncomputable abbrev C8:Stmt:=top 42
noncomputable abbrev anh:List Str:=["_law_net","_law_names","_law_lines","_law_script","_law_table_here","_law_k","_law_house","_law_outs","_law_j","_law_goal","_law_cell"]
theorem r5:d0 anh ["_law_net","_law_names","_law_lines","_law_script"] (dx C8):=⟨rfl,rfl,rfl,by decide+kernel,rfl,by decide+kernel,by decide+kernel⟩
theorem ahH{C bA fq nu f g7 fs uS Xl:Addr}{fd Bl sP Bn W_:c1}(F:b6 K "_law_table" "_law_table" C8 f fd)(B:hb ae)(cH:o_ K C)(yf:ae "Ways"=some (.ref C))(jk:dS K ae "_law_cell_at" yL ["_law_script","_law_k"] g7 Bl)(w_:a4 P w K ae base bu 1 g7 Bl ["_law_script","_law_k"] (EB K))(B7:dS K ae "shortest" C7 ["net"] fs sP)(Ō:a4 P w K ae base bu 4 fs sP ["net"] (Kf C bA))(vh:pS K C uS)(xm:t9 K C "Ways.__init__" yP ["self","net"] uS Bn)(xn:a4 P w K ae base bu 1 uS Bn ["self","net"] (ER C))(sz:eJ K C "set_way" "Ways.set_way" yO ["self","house","goal","road"] Xl W_)(w':a4 P w K ae base (gP P w) 3 Xl W_ ["self","house","goal","road"] (ET C bA fq nu)):
  a4 P w K ae base bu 5 f fd ["_law_net","_law_names","_law_lines","_law_script"] (Ka K C bA):=by
 have kf:=cH.cl;refine F.ok r5 (λvs H Q E h=>?_) (λbK A outer s fB vs Q E ay h=>?_)
 .obtain⟨x,dW,h6,a,bz,a7,hs,rs,ds,ns,rfl,_⟩:=h;rfl
 .obtain⟨x,dW,h6,a,bz,a7,hs,rs,ds,ns,rfl,jB,FQ,alo,XO,G,Bv,c7,q⟩:=h;have cF:=Bv;have xu:=G.c7;refine⟨_,(bQ (gd (fP rG (cZ ic (cZ oT (f5 w_ (ay.mono (by decide)) (by rfl) jk.at_ jk.fn.cT jk.bd .nil dQ (aA (ah 3) (aA bF a5))) bF) bF) bF (eD _)) (b8 (dE (f5 Ō (ay.mono (by decide)) (by rfl) B7.at_ B7.fn.cT B7.bd .nil dQ (aA (ah 0) a5)))) gb)
   (bQ (dG (i:=4) r5.aK rfl (cY rfl) (HM vh xn (ay.mono (by decide)) (by rfl) yf xm.bd .nil dQ (aA (ah 0) a5)))
   (bQ (kC jJ rfl (vf rfl B.enumerate (aA (ah 1) a5)) (yx rfl (hK (d1 (i:=5) r5.aK rfl (cY rfl)) (hK (d1 (i:=6) r5.aK rfl (nv rfl)) oS)))
    (bQ (rh (i:=7) r5.aK rfl rfl rfl (N':=["_law_n","_law_house","_law_lines"]) (cs:=[none,some 6,some 2]) rfl (Pr rfl B.range (aA (eo ke (by rfl) B.len jq (aA (ah 2) a5)) a5)) rfl (by decide+kernel) rfl (by decide+kernel) (i2 (kV.mpr ⟨rfl,(kV.mpr ⟨rfl,(λp aP=>bE aP (eZ))⟩)⟩)) rfl
    (.own (.jO rfl (.inl rfl) (.inl rfl) rfl (.jO rfl (.inl rfl) (.inl rfl) rfl .nil)))
    (λC s3 bL cw d_=>⟨(d1 (i:=0) (by show(["_law_n","_law_house","_law_lines"]:bR).Nodup;decide+kernel) rfl (.inl rfl)),(ve (fP rG (cz (td (K:=K) rfl) (cz (ö (K:=K) rfl) (ah 2) (ah 0) (λ_ _=>rfl)) bF (λ_ _=>rfl)) (ah 1) (eD _))),(ah 0)⟩))
   (b8 (kC jJ rfl (vf rfl B.enumerate (aA (ah 1) a5)) (yx rfl (hK (d1 (i:=8) r5.aK rfl (cY rfl)) (hK (d1 (i:=9) r5.aK rfl (cY rfl)) oS)))
    (bQ (dG (i:=10) r5.aK rfl (cY rfl) (cZ ic (cZ rB (cZ iB (f5 w_ (ay.mono (by decide)) (by rfl) jk.at_ jk.fn.cT jk.bd .nil dQ (aA (ah 3) (aA (cZ iB bF (ah 5)) a5))) (cZ rB (cZ rB bF (ah 8)) (ah 8))) bF) bF))
   (b8 (gd (jh.pt (ID (fP tq (ah 6) (ah 9) (eD _)) (ID (fP (Dr ay.units) (ah 7) (l_ a5) (eD _)) (SX (fP vP (cZ ic (ah 10) bF) bF (eD _)))))) (b8 (ia (ib (ah 4) kf sz.gM w' (ay.mono (by decide)) sz.bd .nil D4 (aA (ah 6) (aA (ah 9) (aA (cz gS (ah 7) (cZ ic (cZ iB (cZ oT (ah 10) bF) (ah 8)) (eo ke (by rfl) B.len jq (aA (ah 7) a5))) (λ_ _=>rfl)) a5)))))) gb)))))))
   (b8 (dE (ah 4)))))),?_⟩
  refine⟨_,rfl,a,ns,1,rfl,XO,by decide,_,_,rfl,rfl,⟨by decide,by decide⟩,_,_,rfl,rfl,(by show(0:Int)<2;decide),rfl,_,rfl,?_⟩;refine J9 (λ_=>?_) (λ_=>?_)
  .refine⟨_,rfl,x,bz,a7,hs,rs,ds,rfl,jB,G,Bv,c7,λy t H' kvs O5 el s' apR ST=>q y t H' kvs O5 el s' apR ?_⟩;obtain⟨rows,e,aK,mem⟩:=ST.rows;refine⟨rows,e,?_,λr ay=>?_⟩
   .refine oA.mpr (abt (λ{b' df}eO hD ne z=>ne ?_) aK);obtain⟨_,_,_,_,ax⟩:=HQ ((mem b').mp eO);obtain⟨_,_,_,_,az⟩:=HQ ((mem df).mp hD);obtain⟨a1,a2,gn⟩:=b';obtain⟨eE,dp,hM⟩:=df;obtain⟨b0,bH⟩:=U' z;have b0:a1=eE:=b0;have bH:a2=dp:=bH;have ax:gn=best hs ds a1 a2:=ax;have az:hM=best hs ds eE dp:=az;rw[ax,az,b0,bH]
   .obtain⟨eO,hD,ne,is,ax⟩:=HQ ((mem r).mp ay);obtain⟨u,cJ⟩:=Ag.mp is;obtain⟨i,d,_,eC,dT,jm,_⟩:=ad4 Bv.ok cJ ne;refine⟨eO,hD,i,ax.trans eC,(gj.mp dT).1,?_⟩;unfold pD;rw[me dT];exact jm
  refine⟨_,rfl,λdJ f6 vv anm ar2=>⟨dJ,f6,.ref x,rfl,a8,λt el=>⟨rfl,?_⟩⟩⟩;have tn:t≠dJ:=λz=>by rw[z,a8]at el;cases el
  rw[aL tn]at el;have CD:t≠f6:=λz=>by rw[z,a8]at el;cases el
  rw[aL CD]at el;have qG:aT fB (upd (upd (upd (upd fB f6 (.own dJ)) dJ (.ins C f6 [])) t (.c4 [])) dJ (.ins C f6 [("net",.ref x),("told",.ref t)])):=λb o e=>by rw[aL (dn e vv),aL (dn e el),aL (dn e vv),aL (dn e anm)];exact e
  have BS:upd (upd (upd (upd fB f6 (.own dJ)) dJ (.ins C f6 [])) t (.c4 [])) dJ (.ins C f6 [("net",.ref x),("told",.ref t)]) dJ=some (.ins C f6 (mZ x t)):=a8;have YC:upd (upd (upd (upd fB f6 (.own dJ)) dJ (.ins C f6 [])) t (.c4 [])) dJ (.ins C f6 [("net",.ref x),("told",.ref t)]) t=some (.c4 []):=by rw[aL tn];exact a8
  have uc:wF C hs ds fB dJ f6 x t (upd (upd (upd (upd fB f6 (.own dJ)) dJ (.ins C f6 [])) t (.c4 [])) dJ (.ins C f6 [("net",.ref x),("told",.ref t)])) []:=⟨qG,BS,YC,⟨[],rfl,pQ,λr ay=>nomatch ay⟩⟩
  generalize upd (upd (upd (upd fB f6 (.own dJ)) dJ (.ins C f6 [])) t (.c4 [])) dJ (.ins C f6 [("net",.ref x),("told",.ref t)])=iw at qG BS YC uc⊢;refine⟨_,rfl,dW,rfl,⟨_,aS.of (uc.aI _ _ FQ)⟩,?_⟩;refine QM (K:=K) (a:=dW) (xs:=dC hs) (ah9 C hs ds fB x dW h6 a dJ f6 t)
   ⟨[],none,none,none,none,none,none,rfl,uc,b1 _⟩ (λi σ bJ⟨kvs,_,_,_,_,_,_,_,J,_⟩=>aS.of (J.aI _ _ FQ)) ?_ ?_
  .rintro i z σ bJ pt dO ⟨kvs,nd,v6,om,lP,rT,v10,rfl,J,lk⟩ O0;obtain⟨ai,h',akT,rfl⟩:=Sh dO;have yQ:=cV (o:=.tup [V.int (i:Int),V.str h']) O0;refine⟨pt,_,rfl,b2.of a8,rfl,?_⟩;have J:=J.same yQ;generalize upd bJ pt (.tup [V.int (i:Int),V.str h'])=eX at yQ J⊢;refine⟨_,_,rfl,_,_,rfl,rfl,?_⟩;dsimp only[qP,tZ];have amb:=fO rs;have rm:=cF.len;have aly:=Bv.same J.aI;have XC:=J.aI _ _ alo;have item:∀(i:Nat)(v:ar.V),((da (aW rs).length).map λi:Nat=>V.int ((0:Int)+(i:Int)))[i]?=some v->∃r d,v=.int ((0:Int)+(i:Int))/\rs[i]?=some r/\ds[i]?=some d/\eX r=some (.tup (m7 hs d)):=λi v ev=>by rw[cM]at ev;obtain⟨j,ei,rfl⟩:=ft.mp ev;obtain⟨ai,e⟩:=gj.mp ei;rw[j8]at ai;rw[Ul]at e;subst e;have d6:rs[i]?=some rs[i]:=ct (by omega);obtain⟨d,dv,_,hd⟩:=aly.get d6;exact⟨_,d,rfl,d6,dv,hd⟩
   refine T4 (J:=sd 0 (aW rs).length) (H1:=eX) (xs:=(da (aW rs).length).map λi:Nat=>V.int ((0:Int)+(i:Int))) (rest:=[some (.str h'),some (.ref h6)]) (λR h=>⟨_,rfl,h6,_,rfl,.inl (aS.of XC),_,rfl,(by show -(2 ^ 62)<=((aW rs).length:Int);omega),(by show((aW rs).length:Int)<2 ^ 62;omega),h⟩) rfl (aap 0 _) (e1 (by rw[bh,j8];omega))
    (λv=>match v with|.int k=>decide (V.str (S (hs.getD (ds.getD k.toNat jP).a []))=V.str h')|_=>false) (λv=>v) (λi v aj R ev aI oX=>?_) (λi v aj R ev _ aI oX=>⟨_,rfl,oX aj (aT.refl _)⟩) (λqy Ŭ tk i4 aoD=>?_)
   .obtain⟨r,d,rfl,d6,dv,hd⟩:=item i v ev;have cI:ds.getD ((0:Int)+(i:Int)).toNat jP=d:=by rw[show((0:Int)+(i:Int)).toNat=i by omega];exact rz dv
    have xw:∀bY,aT aj bY->R (decide (V.str (S (hs.getD (ds.getD ((0:Int)+(i:Int)).toNat jP).a []))=V.str h')) bY:=oX;rw[cI]at xw;exact⟨_,rfl,_,rfl,h6,_,_,_,rfl,rfl,aS.of (aI _ _ XC),adm d6,r,_,_,_,rfl,rfl,b2.of (aI _ _ hd),rfl,_,rfl,rfl,_,rfl,xw aj (aT.refl _)⟩
   have Xt:Ŭ qy=some (.lst ((iq hs ds (·.a) h').map V.int)):=by rw[i4];congr 2;have:=Ĵ (aW rs).length λi=>decide (V.str (S (hs.getD (ds.getD i jP).a []))=V.str h');rw[amb,rm]at this⊢;exact this
   have c3:=È hs ds (·.a) h';have ι:∀k∈iq hs ds (·.a) h',∃n:Nat,k=(n:Int)/\n<ds.length:=λk aE=>by unfold iq yB at aE;obtain⟨n,aD,rfl⟩:=cf.mp aE;exact⟨n,rfl,jH.mp (gx.mp aD).1⟩
   have η:∀{Jd:aa},Jd qy=some (.lst ((iq hs ds (·.a) h').map V.int))->gy Jd (.ref qy) (.list ((iq hs ds (·.a) h').map mz)):=λ{Jd}e=>.lst e (by rw[bh];omega) Sg;generalize l8:iq hs ds (·.a) h'=L at Xt c3 ι η;have J:=J.same aoD;refine⟨_,rfl,dW,rfl,⟨_,aS.of (J.aI _ _ FQ)⟩,?_⟩;refine QM (K:=K) (a:=dW) (xs:=dC hs) (aia C hs ds fB x dW h6 a dJ f6 t qy L h' i)
    ⟨kvs,lP,rT,v10,rfl,J,lk,Xt⟩ (λi σ bJ⟨kvs,_,_,_,_,J,_,_⟩=>aS.of (J.aI _ _ FQ)) ?_ ?_
   .rintro j z σ nq pt dO ⟨kvs,lP,rT,v10,rfl,J,lk,i4⟩ O0;obtain⟨aQ,g',akS,rfl⟩:=Sh dO;have yQ:=cV (o:=.tup [V.int (j:Int),V.str g']) O0;refine⟨pt,_,rfl,b2.of a8,rfl,?_⟩;have J:=J.same yQ;have i4:=yQ _ _ i4;generalize upd nq pt (.tup [V.int (j:Int),V.str g'])=Ť at yQ J i4⊢;have qk:=J.aI.seq XO;refine⟨_,_,rfl,_,_,rfl,rfl,_,rfl,_,rfl,_,_,rfl,rfl,a,ns,2+(i:Int),rfl,qk,by omega,_,rfl,_,_,rfl,rfl,.inl ⟨by decide,by decide⟩,_,rfl,_,_,rfl,rfl,.inr ⟨by omega,by omega⟩,_,_,rfl,rfl,_,_,rfl,rfl,.inr ⟨by decide,by decide⟩,_,_,rfl,rfl,(by show(0:Int)<2147483647;decide),?_⟩;show g5 10 (V.int ((ns.getD (2+(i:Int)).toNat 0+97*(j:Int)*(j:Int))*48271%2147483647)) _ _ _;generalize(ns.getD (2+(i:Int)).toNat 0+97*(j:Int)*(j:Int))*48271%2147483647=AK;refine⟨_,rfl,_,rfl,rfl,_,rfl,?_⟩;by_cases F7:h'=g'
    .exact eF (by rw[F7];simp) ⟨kvs,_,_,_,rfl,J,by omega,i4⟩
    refine fi (by simp[F7]) ?_;have YD:=η i4;refine⟨_,rfl,dM _,λl nl=>?_⟩;have sl:=cV (o:=.lst []) nl;have aoE:mB (.list (L.map mz))=true:=q' YD.nH (D9 (n:=0) λd hd=>by obtain⟨k,_,rfl⟩:=cf.mp hd;exact b1 _) (by decide);refine⟨.list (L.map mz),.list [],(YD.same sl).lb,.lst (aS.of a8) .nil,aoE,rfl,_,rfl,?_⟩;have J:=J.same sl;have i4:=sl _ _ i4;generalize upd Ť l (.lst [])=ť at sl J i4⊢;have Wv:g4 (.list (L.map mz)) (.list [])=(L.map mz).isEmpty:=acq _;by_cases gJ:L=[]
    .exact eF (by rw[Wv,gJ];rfl) ⟨kvs,_,_,_,rfl,J,by omega,i4⟩
    have art:0<L.length:=ug.mpr gJ;refine fi (by rw[Wv];cases L with|nil=>exact bE rfl gJ|cons x r=>rfl) ?_;refine⟨_,rfl,_,_,rfl,rfl,(by show(0:Int)<4;decide),_,_,rfl,rfl,_,rfl,?_⟩;refine J9 (λ_=>?_) (λ_=>⟨kvs,_,_,_,rfl,J,by omega,i4⟩);have aru:(L.map V.int).length=L.length:=bh _;obtain⟨cm,F0,rp⟩:∃cm,ar.f3 (L.map V.int) ((AK/4+(j:Int))%((L.map V.int).length:Int))=some (V.int cm)/\cm∈L:=by
     have h0:0<=(AK/4+(j:Int))%((L.map V.int).length:Int):=ky _ (by omega);have ag:(AK/4+(j:Int))%((L.map V.int).length:Int)<((L.map V.int).length:Int):=kU _ (by omega);have bZ:((AK/4+(j:Int))%((L.map V.int).length:Int)).toNat < L.length:=by omega
     refine⟨L[((AK/4+(j:Int))%((L.map V.int).length:Int)).toNat],?_,eY bZ⟩;have e:=abh (xs:=L.map V.int) (V.int 0) h0 ag;rw[e,dr,cM,ct bZ];rfl
    obtain⟨x9,rfl,amd⟩:=ι _ rp;have pos:(0:Int)<((L.map V.int).length:Int):=by omega
    have o7:kvs.length<sizeLine:=e1 (by have:=G.c7;omega);have ane:qy≠t:=λz=>by rw[z,J.cc]at i4;cases i4
    have agF:kD C bA ť dJ x t bz a7 (dC hs) (aW rs) kvs:=⟨⟨f6,J.ins⟩,jB.same J.aI,J.cc⟩
    have un:k' (ck hs) (.str h') (.str g')=true:=by rw[akT,akS]at F7⊢;exact Ĺ ai aQ F7
    have eO:h'∈hs.map S:=(Pb un).1;have hD:g'∈hs.map S:=(Pb un).2;refine⟨_,rfl,dJ,f6,_,rfl,J.ins,rfl,_,rfl,_,rfl,_,rfl,_,rfl,_,_,rfl,rfl,⟨by decide,by decide⟩,_,rfl,_,_,rfl,rfl,_,rfl,qy,_,rfl,.inl (aS.of i4),_,_,rfl,rfl,pos,qy,_,_,_,rfl,rfl,aS.of i4,F0,?_⟩;refine⟨dJ,x,t,bz,a7,hs,rs,ds,kvs,h',g',(x9:Int),rfl,agF,G,Bv.same J.aI,c7,Vu G eO,Vu G hD,o7,λ_ _ gu Qa=>?_,λmQ=>bE (un.symm.trans mQ) (by decide),λ_ mQ=>bE (l8▸rp) mQ⟩;have U:pD hs ds x9=h':=by
     have hm:=l8▸rp;unfold iq yB at hm;obtain⟨n,aD,kB⟩:=cf.mp hm;have kB:n=x9:=by have:(n:Int)=(x9:Int):=kB;omega
     subst kB;exact V.str.inj (kJ (gx.mp aD).2)
    refine⟨ez kvs (d3 h' g') (.int (x9:Int)),_,_,_,rfl,⟨h_ el (J.aI.trans Qa),?_,a8,J.tab.put eO hD amd U⟩,?_,?_⟩
    .rw[aL (d8 tn)];exact Qa _ _ J.ins
    .have:=BU kvs (d3 h' g') (.int (x9:Int));omega
    .rw[aL ane];exact Qa _ _ i4
   .rintro σ nq ⟨kvs,lP,rT,v10,rfl,J,lk,i4⟩;rw[x_]at lk;exact⟨kvs,_,_,_,lP,rT,v10,rfl,J,by omega⟩
  .rintro σ bJ ⟨kvs,nd,v6,om,lP,rT,v10,rfl,J,lk⟩;exact⟨_,rfl,q dJ t bJ kvs vv el J.aI ⟨⟨f6,J.ins⟩,jB.same J.aI,J.cc⟩ J.tab⟩
end
section
variable{hs:bD}{ds:b7}{kvs:dt}{g:Str}
theorem ς(R:∀d∈ds,d.Ok hs.length)(c7:hs.length<=12):∀(n:Nat)(c:Str)(sn:bR)(lO aG:bj),n+sn.length=14->sn.Nodup->(∀y∈sn,y∈hs.map S)->hZ kvs hs ds g c aG->(∀y∈sn,∃ty,hZ kvs hs ds g y ty/\aG.length<=ty.length)->Ki (pa kvs hs ds g n c sn lO)=true
 |0,c,sn,lO,aG,aD,aK,sub,_,_=>by have:=oO aK sub;rw[bh]at this;omega
 |n+1,c,sn,lO,aG,aD,aK,sub,r,hw=>by
  unfold pa;by_cases e:c=g
  .rw[aO e];rfl
  .rw[aJ e];have el:aG≠[]:=λz=>e (r.nil_eq z);obtain⟨k,gD,rfl,_,w,o7,cB⟩:=r.way el;rw[w];have Yp:hR hs ds k∉sn:=λm=>by obtain⟨ty,ag,af⟩:=hw _ m;have:=e9 uf (ag.uniq cB);rw[hH]at af;omega
   show Ki (if hR hs ds k∈sn then _ else _)=true;rw[aJ Yp];have mk:hR hs ds k∈hs.map S:=by
    unfold hR;have cI:ds.getD k jP=ds[k]:=by rw[dr,ct o7];rfl
    rw[cI];exact o5 (R _ (eY o7)).b
   refine ς R c7 n _ _ _ gD (by rw[e8];show n+(sn.length+1)=14;omega) (ui.mpr ⟨aK,by simp,λx ao y aZ z=>Yp (by rw[fD]at aZ;rw[<-aZ,<-z];exact ao)⟩) (λy aZ=>?_) cB λy aZ=>?_
   .rcases fY.mp aZ with h|h
    .exact sub y h
    .rw[fD.mp h];exact mk
   .rcases fY.mp aZ with h|h
    .obtain⟨ty,ag,af⟩:=hw y h;rw[hH]at af;exact⟨ty,ag,by omega⟩
    .rw[fD.mp h];exact⟨gD,cB,b1 _⟩
theorem ap7(R:∀d∈ds,d.Ok hs.length)(c7:hs.length<=12){d:nA}(m:d.1∈hs.map S){aG:bj}(r:hZ kvs hs ds d.2.2 d.1 aG):mU kvs hs ds d=true:=
 ς R c7 13 d.1 [d.1] [] aG rfl (by simp) (λy aZ=>by rw[fD.mp aZ];exact m) r λy aZ=>⟨aG,by rw[fD.mp aZ];exact r,b1 _⟩
theorem qN.ok(X:qN hs ds kvs):ji kvs ds.length/\Ij hs ds kvs:=by
 obtain⟨rs,rfl,aK,ok⟩:=X.rows;have key:∀k v,cW (du rs) k=some v->∃r∈rs,k=d3 r.1 r.2.1/\v=.int r.2.2:=λk v e=>by unfold cW at e;obtain⟨cA,hf,rfl⟩:=ft.mp e;have hm:=Uo hf;have aE:=Ug hf;unfold du at hm;obtain⟨r,ay,rfl⟩:=cf.mp hm;exact⟨r,ay,(kJ aE).symm,rfl⟩
 refine⟨⟨λk v e=>?_⟩,λh g k w=>?_⟩
 .obtain⟨r,ay,_,rfl⟩:=key k v e;obtain⟨n,kB,aD,_⟩:=(ok r ay).k;exact⟨n,by rw[kB],aD⟩
 .unfold iH at w;cases e:cW (du rs) (d3 h g)with
  |none=>rw[e]at w;cases w
  |some v=>
   obtain⟨r,ay,eS,rfl⟩:=key _ _ e;obtain⟨n,kB,aD,U⟩:=(ok r ay).k;rw[e,kB]at w;obtain⟨ax,az⟩:=yF eS;have:n=k:=by simpa using w
   rw[<-this,U,ax]
end
section
variable{P:bP}{w:bt}{K:aY}{ae:cN}{base:Heap}
noncomputable def hk(kvs:dt)(hs:bD)(ds:b7)(g:Str):Nat->Str->List Nat->Option bj
 |0,h,aG=>if h=g then some aG else none
 |n+1,h,aG=>if h=g then some aG else match iH kvs h g with
  |none=>none
  |some k=>hk kvs hs ds g n (hR hs ds k) (aG++[k])
theorem Qv(kvs:dt)(hs:bD)(ds:b7)(g:Str):∀(n:Nat)(aG:bj),hk kvs hs ds g n g aG=some aG
 |0,aG=>by unfold hk;rw[aO rfl]
 |n+1,aG=>by unfold hk;rw[aO rfl]
inductive ahI(vs:a')(H:aa)(Q:bl)(bM:cE):Prop where
 |mk (b t:Addr) (hs:bD) (rs:b4) (ds:b7) (kvs:dt) (h g:Str) (b0:vs=[.ref b,.ref t,.str h,.str g]) (bH:H b=some (.lst (aW rs))) (cu:H t=some (.c4 kvs)) (cS:hy H hs rs ds) (dw:ji kvs ds.length)
   (en:∀aG,hk kvs hs ds g 13 h []=some aG->∀p H',H p=none->aT H H'->H' p=some (.lst (nats aG))->Q (.ref p) H') (ha:hk kvs hs ds g 13 h []=none->∀H',aT H H'->Q .bV H')
noncomputable def Kb:c9:=λvs H Q bM=>ahI vs H Q bM
noncomputable abbrev C5:Stmt:=top 43
theorem EV:d0 ["_law_lines","_law_told","_law_house","_law_goal","_law_found","_law_road_here"] ["_law_lines","_law_told","_law_house","_law_goal"] (dx C5):=⟨rfl,rfl,rfl,by decide+kernel,rfl,by decide+kernel,by decide+kernel⟩
seal ht bN g0 hI
theorem ahJ{f:Addr}{fd:c1}(F:b6 K "_law_route" "_law_route" C5 f fd)(B:hb ae):a4 P w K ae base bu 1 f fd ["_law_lines","_law_told","_law_house","_law_goal"] Kb:=by
 refine F.ok EV (λvs H Q E h=>?_) (λbK A outer s H vs Q E ay h=>?_)
 .obtain⟨b,t,hs,rs,ds,kvs,h',g',rfl,_⟩:=h;rfl
 .obtain⟨b,t,hs,rs,ds,kvs,h',g',rfl,U,cO,cF,tab,q,kK⟩:=h;refine⟨_,(bQ (dG (i:=4) EV.aK rfl (cY rfl) (l_ a5))
   (bQ (G5 jJ (fP tq (ah 2) (ah 3) (eD _))
    (bQ (dG (i:=5) EV.aK rfl (cY rfl) (G9 (ju ay) (ah 1) (jS (aA (ah 2) (aA (ah 3) a5))) ⟨rfl,rfl,rfl,rfl⟩))
   (bQ (gd (jh.pt (mX (fP Dq (ah 5) l' (eD _)) (rD (fP vP (eo ke (by rfl) B.len jq (aA (ah 4) a5)) bF (eD _))))) (b8 (dE l')) gb)
   (bQ (ia (n4 oF oG oH mJ (ah 4) (aA (ah 5) a5)))
   (b8 (dG (i:=2) EV.aK rfl (cY rfl) (cz d5 (cz gS (ah 0) (ah 5) (λ_ _=>rfl)) bF (λ_ _=>rfl))))))))
   (b8 (dE (ah 4))))),?_⟩
  obtain⟨a0,Wx⟩:∃a0,a0=hk kvs hs ds g' 13 h' []:=⟨_,rfl⟩
  rw[<-Wx]at q kK;refine⟨dM _,λil n'=>?_⟩;have s3:=cV (o:=.lst []) n';refine⟨λm σ bJ=>∃(c:Str)(aG:bj)(nd:l2),σ=[some (.ref b),some (.ref t),some (.str c),some (.str g'),some (.ref il),nd]/\aT H bJ/\bJ il=some (.lst (nats aG))/\a0=hk kvs hs ds g' m c aG/\m+aG.length=13,⟨13,h',[],none,rfl,s3,a8,Wx,rfl⟩,?_⟩;rintro m σ bJ ⟨c,aG,nd,rfl,aI,aV,e,hm⟩;refine⟨_,rfl,_,rfl,rfl,_,rfl,?_⟩;by_cases ql:c=g'
  .subst ql;rw[Qv]at e;exact eF (by simp) ⟨_,rfl,q aG e il bJ n' aI aV⟩
  have mn:∀{r},bJ r=none->aT bJ (upd bJ r (.tup [V.str c,V.str g'])):=λgi=>cV gi;have kp:(nats aG).length=aG.length:=bh _;cases m with
  |zero=>
   unfold hk at e;rw[aJ ql]at e;refine fi (by simp[ql]) ⟨λ_ _=>False,λ_ _ h=>h.elim,?_⟩;refine⟨_,rfl,t,rfl,.inr ⟨kvs,.inl (aI _ _ cO)⟩,_,rfl,_,rfl,(by show 2<=sizeLine;decide),λr gi=>⟨_,h1.t (k:=d3 c g') (mn gi _ _ (aI _ _ cO)) a8,?_⟩⟩;have j3:=aI.trans (mn gi);have oW:=mn gi _ _ aV;generalize upd bJ r (.tup [V.str c,V.str g'])=H1 at j3 oW⊢;refine⟨_,rfl,rfl,_,rfl,?_⟩;rcases tab.get c g' with⟨ax,az⟩|⟨k,ax,az,aE⟩
   .rw[ax];exact fi rfl (fi rfl (kK e H1 j3))
   .rw[ax];refine eF rfl ⟨_,rfl,il,_,rfl,.inl (aS.of oW),_,_,rfl,rfl,_,rfl,?_⟩;exact fi (dU (by rw[kp];omega)) (kK e H1 j3)
  |succ m=>
   unfold hk at e;rw[aJ ql]at e;refine fi (by simp[ql]) ⟨_,λa_ H' h=>⟨m,sq _,h⟩,?_⟩;refine⟨_,rfl,t,rfl,.inr ⟨kvs,.inl (aI _ _ cO)⟩,_,rfl,_,rfl,(by show 2<=sizeLine;decide),λr gi=>⟨_,h1.t (k:=d3 c g') (mn gi _ _ (aI _ _ cO)) a8,?_⟩⟩;have j3:=aI.trans (mn gi);have oW:=mn gi _ _ aV;generalize upd bJ r (.tup [V.str c,V.str g'])=H1 at j3 oW⊢;refine⟨_,rfl,rfl,_,rfl,?_⟩;rcases tab.get c g' with⟨ax,az⟩|⟨k,ax,az,aE⟩
   .rw[ax];rw[az]at e;exact fi rfl (fi rfl (kK e H1 j3))
   .rw[ax];rw[az]at e;refine eF rfl ⟨_,rfl,il,_,rfl,.inl (aS.of oW),_,_,rfl,rfl,_,rfl,?_⟩;refine eF (eM (by rw[kp];omega)) ?_;obtain⟨gq,era⟩:∃gq,rs[k]?=some gq:=⟨_,ct (by rw[cF.len];exact aE)⟩
    obtain⟨d,dv,qB,hd⟩:=cF.get era;have w2:ar.f3 (aW rs) (k:Int)=some (.ref gq):=jo (by unfold aW;rw[cM,era];rfl);have rb:hR hs ds k=S (hs.getD d.b []):=by unfold hR;rw[rz dv]
    have Y6:∀{b v},H b=some v->b≠il:=λe=>dn e n';refine⟨_,rfl,.inl ⟨rfl,_,aS.of oW⟩,_,rfl,il,_,_,rfl,rfl,oW,e1 (by rw[kp];omega),?_⟩;refine⟨_,rfl,_,rfl,b,_,_,_,rfl,rfl,aS.of (by rw[aL (Y6 U)];exact j3 _ _ U),w2,gq,_,_,_,rfl,rfl,b2.of (by rw[aL (Y6 hd)];exact j3 _ _ hd),rfl,?_⟩;refine⟨_,aG++[k],_,rfl,h_ n' j3,?_,?_,?_⟩
    .rw[a8];simp[nats]
    .rw[<-rb];exact e
    .rw[e8];show m+(aG.length+1)=13;omega
unseal ht bN g0 hI
theorem Sj{H:aa}{ts:b4}{rs:List Row}(cc:eh H ts (rs.map m4)):∃hl,fj V.bV (iM (rs.map pB)) (aW ts)=aW hl/\eh H hl ((y9 rs).map m4):=by
 have ln:(aW ts).length=rs.length:=by have:=cc.len;rw[bh]at this;rw[fO,this]
 unfold fj y9 JD;rw[ln];have all:∀is:List Nat,(∀i∈is,i<rs.length)->∃hl,(is.map λi=>(aW ts).getD i .bV)=aW hl/\eh H hl ((is.map λi=>rs.getD i r0).map m4):=λis=>by
  induction is with
  |nil=>intro _;exact⟨[],rfl,.nil⟩
  |cons i q bk=>
   intro ai;obtain⟨hl,ax,Qp⟩:=bk λj aQ=>ai j (.tail _ aQ);have lt:=ai i (.head _);have Ou:i<ts.length:=by rw[fO]at ln;omega
   have az:ts[i]?=some ts[i]:=ct Ou;obtain⟨y,ag,af⟩:=bX.get cc az;rw[cM,ct lt]at ag;cases ag;refine⟨ts[i]::hl,?_,.cons ?_ Qp⟩
   .rw[gk,ax];show(aW ts).getD i .bV::aW hl=V.ref ts[i]::aW hl;congr 1;show((aW ts)[i]?).getD .bV=_;unfold aW;rw[cM,az];rfl
   .show H ts[i]=some (d4.tup (m4 (rs.getD i r0)));rw[show rs.getD i r0=rs[i] by rw[dr,ct lt];rfl];exact af
 exact all _ λi ai=>G4 ai
theorem aaT{κ:Type}[DecidableEq κ]{l ij:List (κ×ar.V)}(p:l.Perm ij)(aK:(l.map (·.1)).Nodup)(k:κ):cW l k=cW ij k:=by
 have OS:(ij.map (·.1)).Nodup:=(p.map _).nodup_iff.mp aK;cases e:cW l k with
 |some v=>
  obtain⟨cA,ag,af⟩:=ft.mp e;have aV:=Uo ag;have bU:=Ug ag;obtain⟨j,aQ,az⟩:=hq (p.mem_iff.mp aV);have cq:cA=(k,v):=by obtain⟨a,b⟩:=cA;have:a=k:=kJ bU;rw[this,<-af]
  exact(Rt OS (by rw[ct aQ,az,cq])).symm
 |none=>
  cases b9:cW ij k with
  |none=>rfl
  |some v=>
   obtain⟨cA,ag,af⟩:=ft.mp b9;have aV:=Uo ag;have bU:cA.1=k:=kJ (Ug (p:=λcA:κ×ar.V=>decide (cA.1=k)) ag);exact bE (cf.mpr ⟨cA,p.mem_iff.mpr aV,bU⟩) (é e)
theorem acs{rs:List Row}(aK:(rs.map λr=>(r.1,r.2.1)).Nodup):((du rs).map (·.1)).Nodup:=by unfold du;rw[fS];refine oA.mpr ((oA.mp aK).imp λ{a b}h z=>h ?_);have z:([.inr a.1,.inr a.2.1]:List br)=[.inr b.1,.inr b.2.1]:=z;simp at z;rw[z.1,z.2]
theorem Sk{rs:List Row}(aK:(rs.map λr=>(r.1,r.2.1)).Nodup):(rs.map pB).Nodup:=by refine oA.mpr ((oA.mp aK).imp λ{a b}h z=>h ?_);unfold pB at z;simp at z;rw[z.1,z.2.1]
theorem ō{rs rP:List Row}(p:rs.Perm rP)(aK:(rs.map λr=>(r.1,r.2.1)).Nodup)(h g:Str):iH (du rs) h g=iH (du rP) h g:=by have e:cW (du rs) (d3 h g)=cW (du rP) (d3 h g):=aaT (p.map _) (acs aK) (d3 h g);unfold iH;rw[e]
theorem aaU{rs:List Row}(aK:(rs.map λr=>(r.1,r.2.1)).Nodup){i:Nat}{r:Row}(e:rs[i]?=some r):ez (du (rs.take i)) (d3 r.1 r.2.1) (.int r.2.2)=du (rs.take (i+1)):=by
 have aG:rs.take (i+1)=rs.take i++[r]:=by rw[mw,e];rfl
 rw[aG];have ew:(rs.take (i+1)).map (λr=>(r.1,r.2.1)) |>.Nodup:=by rw[wM];exact aK.sublist (pR _ _)
 rw[aG,fo]at ew;have apq:cW (du (rs.take i)) (d3 r.1 r.2.1)=none:=by
  cases z:cW (du (rs.take i)) (d3 r.1 r.2.1)with
  |none=>rfl
  |some v=>
   have:=fR.QT z;unfold du at this;rw[fS]at this;obtain⟨q,bp,eq⟩:=cf.mp this;have eq:([.inr q.1,.inr q.2.1]:List br)=[.inr r.1,.inr r.2.1]:=eq;simp at eq;have:=(ui.mp ew).2.2 (q.1,q.2.1) (cf.mpr ⟨q,bp,rfl⟩) (r.1,r.2.1) (by simp);exact bE (by rw[eq.1,eq.2]) this
 rw[xS _ apq];unfold du;rw[fo];rfl
theorem acu{L:bR}:∀{ps:List (Str×Str)},ps.Nodup->(∀p∈ps,p.1∈L/\p.2∈L)->ps.length<=L.length*L.length:=λ{ps}aK h=>by
 have sub:ps ⊆ L.flatMap λa=>L.map λb=>(a,b):=λp aP=>by obtain⟨ag,af⟩:=h p aP;exact Jy.mpr ⟨p.1,ag,cf.mpr ⟨p.2,af,rfl⟩⟩
 have:=oO aK sub;rw[abJ]at this;have e:(L.map λa=>(L.map λb=>(a,b)).length)=L.map λ_=>L.length:=q3 λa _=>bh ..;rw[e]at this;have s:∀(M:bR),((M.map λ_=>L.length).sum)=M.length*L.length:=λM=>by
  induction M with
  |nil=>simp
  |cons a r bk=>rw[gk,oB,bk,hH,acA];omega
 rw[s]at this;exact this
theorem qN.c7{hs:bD}{ds:b7}{rs:List Row}(c7:hs.length<=12)(aK:(rs.map λr=>(r.1,r.2.1)).Nodup)(ok:∀r∈rs,Vt hs ds r):rs.length<=144:=by
 have:=acu (L:=hs.map S) aK λp aP=>by obtain⟨r,ay,rfl⟩:=cf.mp aP;exact⟨(ok r ay).h,(ok r ay).g⟩
 rw[bh,bh]at this;exact hc this (acz c7 c7)
theorem S6{hs:bD}{ds:b7}{kvs:dt}{gs:bR}:∀(m:Nat)(T:Int)(go:bj)(ak:dh),(qL hs ds kvs gs m T go ak).length<=m*ds.length
 |0,_,_,_=>dM _
 |m+1,T,go,ak=>by
  unfold qL;by_cases bx:go=[]
  .rw[aO bx];exact dM _
  .rw[aJ bx,e8];have ag:=S6 (hs:=hs) (ds:=ds) (kvs:=kvs) (gs:=gs) m (nextT T go ak) (oV gs go (fG hs ds kvs gs (nextT T go ak) go ak)) (fG hs ds kvs gs (nextT T go ak) go ak);have af:(mf ds kvs gs (nextT T go ak) go ak).length<=ds.length:=by unfold mf vW nP;rw[bh];exact hc (si _ _) (by rw[j8];exact b1 _)
   rw[acA];omega
end
section
variable{hs:bD}{ds:b7}{kvs h2:dt}{g:Str}
theorem â(e:∀h g,iH kvs h g=iH h2 h g):∀(n:Nat)(h:Str)(aG:bj),hk kvs hs ds g n h aG=hk h2 hs ds g n h aG
 |0,_,_=>rfl
 |n+1,h,aG=>by
  unfold hk;rw[e];split
  .rfl
  .cases iH h2 h g with
   |none=>rfl
   |some k=>exact â e n _ _
theorem Sl(d9:ji kvs ds.length):∀(n:Nat)(h:Str)(lO out:bj),hk kvs hs ds g n h lO=some out->∃aG,out=lO++aG/\hZ kvs hs ds g h aG
 |0,h,lO,out,e=>by
  unfold hk at e;by_cases z:h=g
  .rw[aO z]at e;cases e;rw[z];exact⟨[],(iW _).symm,.s7⟩
  .rw[aJ z]at e;cases e
 |n+1,h,lO,out,e=>by
  unfold hk at e;by_cases z:h=g
  .rw[aO z]at e;cases e;rw[z];exact⟨[],(iW _).symm,.s7⟩
  .rw[aJ z]at e;cases w:iH kvs h g with
   |none=>rw[w]at e;cases e
   |some k=>
    rw[w]at e;obtain⟨aG,ax,r⟩:=Sl d9 n _ _ _ e;have o7:k<ds.length:=by
     rcases d9.get h g with⟨_,y⟩|⟨i,_,y,ai⟩
     .rw[w]at y;cases y
     .rw[w]at y;cases y;exact ai
    exact⟨k::aG,by rw[ax,iV];rfl,.on z w o7 r⟩
theorem SF:∀(n:Nat)(h:Str)(lO aG:bj),hZ kvs hs ds g h aG->aG.length<=n->hk kvs hs ds g n h lO=some (lO++aG)
 |0,h,lO,aG,r,l=>by have e:aG=[]:=Jt.mp (by omega);subst e;rw[r.nil_eq rfl,Qv,iW]
 |n+1,h,lO,[],r,l=>by rw[r.nil_eq rfl,Qv,iW]
 |n+1,h,lO,k::aG,r,l=>by obtain⟨eV,gD,e,ne,w,_,cB⟩:=r.way (by simp);cases e;unfold hk;rw[aJ ne,w];show hk kvs hs ds g n (hR hs ds k) (lO++[k])=_;rw[SF n _ _ _ cB (by rw[hH]at l;omega),iV];rfl
theorem acv(R:∀d∈ds,d.Ok hs.length)(d9:ji kvs ds.length)(r6:Ij hs ds kvs)(c7:hs.length<=12){lds:l1}(YP:lds.length<=100)(kk:∀d∈lds,d.1∈hs.map S/\d.2.2∈hs.map S/\d.1≠d.2.2/\0<=d.2.1):
  Fits hs ds none (lds.map iC) (r1 hs ds kvs lds)/\(∀n,(gone (r1 hs ds kvs lds) n).length<=100)/\∀n d,lds[n]?=some d->gone (r1 hs ds kvs lds) n=(hk kvs hs ds d.2.2 13 d.1 []).getD []/\mU kvs hs ds d=(hk kvs hs ds d.2.2 13 d.1 []).isSome:=by
 have al7:∀d∈lds,d.1∈hs.map S/\d.2.2∈hs.map S/\d.1≠d.2.2:=λd hd=>⟨(kk d hd).1,(kk d hd).2.1,(kk d hd).2.2.1⟩
 obtain⟨rt,O,cO⟩:=Υ (kvs:=kvs) R d9 c7 YP al7;have hi:∀n,gone (r1 hs ds kvs lds) n=if n∈lA hs ds kvs lds then rt n else[]:=Sw R d9 1300 (-1) _ _ rt O cO
 refine⟨Sr R d9 r6 _ _ _ _ rt none O (λeV e=>by cases e),λn=>?_,λn d dv=>?_⟩
 .rw[hi n];split
  .have:=O.c7 n;omega
  .exact dM _
 .have aD:=(gj.mp dv).1;have sJ:lds.getD n gV=d:=me dv;have eO:=(kk d (eQ dv)).1;by_cases ay:mU kvs hs ds d=true
  .have hQ:n∈lA hs ds kvs lds:=gx.mpr ⟨jH.mpr aD,by rw[sJ];exact ay⟩;obtain⟨aG,r,l⟩:=ZJ R d9 c7 eO ay;have ax:=SF (hs:=hs) (ds:=ds) 13 d.1 [] aG r (by omega);rw[Jz]at ax;have az:g8 (lds.map λd=>d.2.2) n=d.2.2:=by unfold g8;rw[Cg (d:=gV) aD,sJ]
   have aw:(fc (lds.map iC) n).fK=d.1:=by unfold fc;rw[Cg (d:=gV) aD,sJ];rfl
   have w:=O.way n hQ;rw[az,aw]at w;rw[ax,hi n,aO hQ,ay];exact⟨w.uniq r,rfl⟩
  .have hQ:n∉lA hs ds kvs lds:=λz=>ay (by have:=(gx.mp z).2;rw[sJ]at this;exact this);have ax:hk kvs hs ds d.2.2 13 d.1 []=none:=by
    cases e:hk kvs hs ds d.2.2 13 d.1 []with
    |none=>rfl
    |some out=>
     obtain⟨aG,_,r⟩:=Sl d9 _ _ _ _ e;exact bE (ap7 R c7 eO r) ay
   rw[ax,hi n,aJ hQ,Ir.mpr ay];exact⟨rfl,rfl⟩
end
noncomputable def vU(hs:bD)(ds:b7)(kvs:dt)(lds:l1):List Nat:=(da lds.length).filter λi=>!mU kvs hs ds (lds.getD i gV)
inductive ahK(ec bA:Addr)(vs:a')(H:aa)(Q:bl)(bM:cE):Prop where
 |mk (ef y n t bz a7:Addr) (hs:bD) (rs fL:b4) (ds:b7) (kvs:dt) (lds:l1) (b0:vs=[.ref ef,.ref y]) (bH:H ef=some (.lst (aW fL))) (cu:eh H fL (lds.map qu)) (cS:fL.length<=60) (dw:kD ec bA H y n t bz a7 (dC hs) (aW rs) kvs) (en:Good hs) (ha:hy H hs rs ds) (iT:ji kvs ds.length) (ot:∀d∈lds,d.1∈hs.map S/\d.2.2∈hs.map S)
   (v3:∀(l:Addr)(H':aa),H l=none->aT H H'->H' l=some (.lst (nats (vU hs ds kvs lds)))->Q (.ref l) H')
noncomputable def Kc(ec bA:Addr):c9:=λvs H Q bM=>ahK ec bA vs H Q bM
section
variable{P:bP}{w:bt}{K:aY}{ae:cN}{base:Heap}
noncomputable abbrev C1:Stmt:=top 16
theorem ahO:d0 ["letters","ways"] ["letters","ways"] (dx C1):=⟨rfl,rfl,rfl,by decide+kernel,rfl,by decide+kernel,by decide+kernel⟩
theorem ahL{ec bA f f1:Addr}{fd eU:c1}(F:b6 K "left_out" "left_out" C1 f fd)(B:hb ae)(p':dS K ae "has_route" yM ["letter","ways"] f1 eU)(OK:a4 P w K ae base bu 4 f1 eU ["letter","ways"] (EO ec bA)):
  a4 P w K ae base bu 5 f fd ["letters","ways"] (Kc ec bA):=by
 refine F.ok ahO (λvs H Q E h=>?_) (λbK A outer s H vs Q E ay h=>?_)
 .obtain⟨ef,y,n,t,bz,a7,hs,rs,fL,ds,kvs,lds,rfl,_⟩:=h;rfl
 .obtain⟨ef,y,n,t,bz,a7,hs,rs,fL,ds,kvs,lds,rfl,ig,nc,c7,k6,G,R,d9,kk,q⟩:=h;refine⟨_,(b8 (dE (pb (N':=["number","letter","ways"]) (cs:=[none,none,some 1]) rfl (vf rfl B.enumerate (aA (ah 0) a5)) rfl (by decide+kernel) rfl (by decide+kernel) (i2 (kV.mpr ⟨rfl,(λp aP=>bE aP (eZ))⟩)) rfl
    (.own (.own (.jO rfl (.inl rfl) (.inl rfl) rfl .nil)))
    (λC s3 bL cw d_=>⟨(x' (K:=K) (n:=2) rfl rfl (hK (d1 (i:=0) (by show(["number","letter","ways"]:bR).Nodup;decide+kernel) rfl (.inl rfl)) (hK (d1 (i:=1) (by show(["number","letter","ways"]:bR).Nodup;decide+kernel) rfl (.inl rfl)) oS))),(ve (jR (ki (f5 OK (ay.mono (by decide)) (by rfl) p'.at_ p'.fn.cT p'.bd .nil dQ (aA (ah 1) (aA (ah 2) a5)))))),(ah 0)⟩)))),?_⟩
  have GG:fL.length=lds.length:=by have:=nc.len;rwa [bh]at this
  have x7:=fO fL;refine I4 (K:=K) (a:=ef) (H1:=H) (xs:=aW fL) (rest:=[some (.ref y)]) (λh9 h=>⟨_,rfl,ef,rfl,⟨_,aS.of ig⟩,h⟩) rfl (aS.of ig) (e1 (by omega)) (λi=>!mU kvs hs ds (lds.getD i gV)) (λi=>.int (i:Int)) (λi v aj h9 ev s2 cm=>?_) (λi v aj h9 ev _ s2 cm=>⟨_,rfl,cm aj (aT.refl _)⟩) (λgl aj ans F8 s2=>?_)
  .unfold aW at ev;rw[cM]at ev;obtain⟨r,d6,rfl⟩:=ft.mp ev;obtain⟨d',lh,mc⟩:=bX.get nc d6;rw[cM]at lh;obtain⟨d,dv,rfl⟩:=ft.mp lh;have dy:=kk d (eQ dv);refine⟨_,rfl,_,rfl,r,y,n,t,bz,a7,hs,rs,ds,kvs,d,rfl,s2 _ _ mc,k6.same s2,G,R.same s2,d9,dy.1,dy.2,λbL s3=>⟨_,rfl,?_⟩⟩;have:=cm bL s3;rw[me dv]at this;exact this
  .refine q gl aj ans s2 ?_;rw[F8,x7,GG];unfold vU nats;rfl
noncomputable def t5(b:gw×List Nat):PyData:=.tuple [.int b.1.1,.int b.1.2,.tuple (b.2.map λn:Nat=>mz n)]
end
theorem SH{K:aY}{H:aa}:∀ns:List Nat,nk K H (fx ns) (ns.map λn:Nat=>mz n)
 |[]=>.nil
 |n::ns=>.cons (.int _) (SH ns)
theorem QU{K:aY}{H:aa}:∀{as:b4}{bs:kb},bX (hY H) as bs->nk K H (aW as) (bs.map t5)
 |_,[],h=>by cases h;exact .nil
 |_,b::bs,h=>by
  cases h with
  |cons r t=>
   obtain⟨c,ag,af⟩:=r;exact .cons (.tup (b2.of ag) (.cons (.int _) (.cons (.int _) (.cons (.tup (b2.of af) (SH _)) .nil)))) (QU t)
theorem SI(bs:kb):(U_ (bs.map t5)).canLay0=true:=ya λd hd=>by
 obtain⟨b,_,rfl⟩:=cf.mp hd;have:pW (b.2.map λn:Nat=>mz n)=true:=ya λd hd=>by obtain⟨n,_,rfl⟩:=cf.mp hd;rfl
 unfold t5;simp only[sr,pW,Bool.and_true,Bool.true_and];exact this
theorem Wb{ds:iY}{n:Nat}(h:∀d∈ds,d.depth<=n):(PyData.tuple ds).depth<=n+1:=UW (Pw h)
theorem S7(bs:kb):mB (.list (bs.map t5))=true:=
 q' (SI bs) (n:=4) (D9 (n:=3) λd hd=>by
  obtain⟨b,_,rfl⟩:=cf.mp hd;unfold t5;refine Wb (n:=2) λd hd=>?_;simp only[fp,eZ,or_false]at hd;rcases hd with rfl|rfl|rfl
  .exact dM _
  .exact dM _
  .exact Wb (n:=1) λd hd=>by
    obtain⟨n,_,rfl⟩:=cf.mp hd;exact dM _) (by decide)
theorem SJ{wi:TI}{cs:jj}{b3:TE}{σ rest:ar.St}{H H1:aa}{Q:bl}{J:e7}{xs:a'}(hw:∀R:e7->aa->Prop,R J H1->wi σ H R)(gp:gW cs σ=none::rest)(jF:l3 J H1 xs)(aq:xs.length<sizeLine)(F:Addr->Nat->ar.V->aa->Prop)(st:∀D i v aj bL,aT aj bL->F D i v aj->F D i v bL)(sl:∀D i v aj zs,F D i v aj->F D i v (upd aj D (.lst zs)))(elt:∀(D:Addr)(i:Nat)(x:ar.V)(aj:aa)(R:bl),xs[i]?=some x->aT H1 aj->H1 D=none->(∃ys,aj D=some (.lst ys))->(∀v bY,aT aj bY->F D i v bY->R v bY)->b3 (some x::rest) aj R)(fin:∀(D:Addr)(H':aa)(vs:a'),H1 D=none->H' D=some (.lst vs)->vs.length=xs.length->(∀i v,vs[i]?=some v->F D i v H')->aT H1 H'->Q (.ref D) H'):kM wi cs (g5 0) px b3 σ H Q:=by
 refine hw _ λD ck=>?_;refine⟨λi m ys a_ H'=>m=xs.length-i/\i<=xs.length/\(ys.length=i/\∀j v,ys[j]?=some v->F D j v H')/\(∃o,a_=o::rest)/\aT H1 H'/\H' D=some (.lst ys),⟨xs.length,by simp,dM _,⟨rfl,λj v e=>by simp at e⟩,⟨none,by rw[gp]⟩,cV ck,a8⟩,?_⟩;rintro i m ys a_ H' ⟨rfl,ai,⟨vZ,aZ⟩,⟨o,rfl⟩,aI,eG⟩;obtain⟨gO,hV,iu⟩:=jF H' aI;refine⟨eG,mx (by omega) aq,?_⟩;by_cases bZ:i<xs.length
 .refine .inr ⟨hV i bZ,λx aj y=>?_⟩;obtain⟨rfl,ex⟩:=iu i x aj bZ y;show b3 (some x::rest) aj _;refine elt D i x aj _ ex aI ck ⟨ys,eG⟩ λv bY s5 bI=>⟨s5 _ _ eG,xs.length-(i+1),by omega,rfl,bZ,⟨by rw[e8,vZ];rfl,λj u e=>?_⟩,⟨_,rfl⟩,h_ ck (aI.trans s5),a8⟩
  refine sl D j u bY _ ?_;by_cases aQ:j<ys.length
  .rw[Uh aQ]at e;exact st D j u _ _ s5 (aZ j u e)
  .rw[Jr (by omega)]at e;have ei:j=i:=by
    by_cases hz:j-ys.length=0
    .omega
    .rw[sg (by simp;omega)]at e;cases e
   subst ei;rw[vZ,UU]at e;cases e;exact bI
 .have e:i=xs.length:=by omega
  subst e;exact .inl ⟨gO,fin D H' ys ck eG vZ aZ aI⟩
end fR
namespace cK
open PySem ar
section
variable{X:bB}{K:aY}{a b:Expr}{rest:gm}{pos:Pos}{cb c0:TE}
noncomputable def ahP(K:aY)(cb c0:TE):TE:=λσ H Q=>cb σ H λx H1=>∃k,J3 K x H1 k/\if k=true then Q x H1 else c0 σ H1 Q
theorem afJ(fa:X.K=K)(aH:bN X a cb)(U:bN X (.BoolOp .Or (b::rest) pos) c0):bN X (.BoolOp .Or (a::b::rest) pos) (ahP K cb c0):=by
 subst fa;intro pins s σ H Q I h;refine aqI (bS (aH pins s σ H _ I h) λv s1⟨x,H1,aX,b',k,t,bq⟩=>?_);refine bS (TQ pins s1 σ H1 x v (λc aj=>if c=true then Q x aj else c0 σ aj Q) aX b' ⟨k,t,bq⟩) λc s2⟨aj,bT,cj⟩=>?_;cases c with
 |false=>exact U pins s2 σ aj Q bT cj
 |true=>exact⟨x,aj,bT,b',cj⟩
theorem Ŏ{P:bP}{w:bt}{κ:Type}[DecidableEq κ](knd:HeapKind P w κ)(d:Addr)(hd:(d==j4)=false):MeetsIn P w (Builtin.«dict.__len__» ⟨[.ref d],[]⟩) (λ_ R s=>∃xs,s.heap.DictOfH knd d xs/\R (.ok (.ret (.int xs.length s.toks))) {s with toks:=s.toks+1}):=
 .of_wp λA R s⟨xs,⟨o,es,ep,aR,_,hj,he,_⟩,h⟩=>by show aM _ _ (dictSize d >>=_) _ _ s;unfold dictSize;refine au (au (y1 aR hj (a9 ?_)));show aM _ _ (aqr d >>=_) _ _ s;refine au (wpAny_pendingCount_other hd (wpAny_ret_mkInt ?_));rw[Nat.add_zero,size_of_entries he];exact h
theorem ŏ:iF X (.builtin "len") (λxs H Q=>∃a kvs,xs=[V.ref a]/\H a=some (.c4 kvs)/\Q (.int kvs.length) H):=by
 intro pins s σ H xs us Q I r h;obtain⟨a,kvs,rfl,aH,q⟩:=h;obtain⟨u,rfl,eA⟩:=vals1 r;cases eA;obtain⟨z,hd,ys,rel,dd⟩:=Vy I.bo aH;have ln:kvs.length=ys.length:=h8 rel;have fit:(ys.length:Int)<2 ^ 63:=by rw[pv]at z;omega
 refine D1 kind_len plain_len entry_len (args_len1 _) ?_;unfold Builtin.«len»;refine au (m:=oneArg "len" _) (a9 ?_);refine au (m:=Wl (.ref a) (j_ "__len__")) (y0 (name:=j_ "__len__") dd.typeIs F.slot_dict_len (LD F.slot_dict_len dd.typeIs F.entry_dict_len (F.args_dict_len_1 _) (Ŏ (tM (hx X.prog X.w)) a hd) ⟨ys,dd,?_⟩));refine au (iv (a9 ?_));refine au (DG ?_);show aM _ _ (if((ys.length:Nat):Int)<0 then _ else _) _ _ _;rw[aJ (by omega)];show aM _ _ (if((ys.length:Nat):Int)≥2 ^ 63 then _ else _) _ _ _;rw[aJ (by omega)];refine au (wpAny_mkInt (a9 ⟨_,rfl,.int kvs.length,H,(I.tok _).tok _,⟨_,by rw[ln]⟩,q⟩))
end
open PySem.Spec PyProof.Rows
section
variable{X:bB}{K:aY}(fa:X.K=K)
include fa
end
end cK
namespace fR
open PySem ar cK de
noncomputable def am4(hs:bD)(d:de.Lt):Str×Int×Str:=(S (hs.getD d.a []),d.t,S (hs.getD d.b []))
noncomputable def wH(d:nA):PyData:=.tuple [.str d.1,.int d.2.1,.str d.2.2]
theorem Ru{K:aY}{H:aa}:∀{kG:b4}{eu:l1},eh H kG (eu.map qu)->nk K H (aW kG) (eu.map wH)
 |[],[],_=>.nil
 |_::_,_::_,.cons h t=>.cons (.tup (b2.of h) (.cons (.str _) (.cons (.int _) (.cons (.str _) .nil)))) (Ru t)
theorem S8{eu:l1}(h:∀d∈eu,sr (.str d.1)=true/\sr (.str d.2.2)=true):(U_ (eu.map wH)).canLay0=true:=ya λx ao=>by
 obtain⟨d,hd,rfl⟩:=cf.mp ao;show pW [.str d.1,.int d.2.1,.str d.2.2]=true;refine ya λy aZ=>?_;simp only[fp,eZ,or_false]at aZ;rcases aZ with rfl|rfl|rfl
 .exact(h d hd).1
 .rfl
 .exact(h d hd).2
theorem UN{eu:l1}(h:∀d∈eu,sr (.str d.1)=true/\sr (.str d.2.2)=true):mB (.list (eu.map wH))=true:=q' (n:=2) (S8 h) (D9 λx ao=>by
 obtain⟨d,_,rfl⟩:=cf.mp ao;exact(show(wH d).depth<=1 from b1 _)) (by decide)
noncomputable def Hn(L:bD):PyData:=.list (L.map λaG=>u9 (dZ aG))
theorem TB(L:bD):(Hn L).canLay0=true:=ya λx ao=>by obtain⟨d,_,rfl⟩:=cf.mp ao;exact yz _
theorem UO(L:bD):mB (Hn L)=true:=q' (n:=2) (TB L) (D9 λx ao=>by
 obtain⟨d,_,rfl⟩:=cf.mp ao;exact G_ _) (by decide)
theorem UP(aG:bj):nats aG=(dZ aG).map V.int:=by unfold nats dZ;rw[fS];rfl
theorem Rv{K:aY}{H:aa}:∀{eN:b4}{L:bD},bX (λa aG=>H a=some (.lst (nats aG))) eN L->nk K H (aW eN) (L.map λaG=>u9 (dZ aG))
 |_,_,.nil=>.nil
 |_,_,.cons h t=>.cons (CL (aS.of (by rw[<-UP];exact h))) (Rv t)
theorem SK{H:aa}{g:Nat->List Nat}:∀(vs:a')(k:Nat),(∀i v,vs[i]?=some v->∃r,v=.ref r/\H r=some (.lst (nats (g (k+i)))))->∃rs,vs=aW rs/\bX (λa aG=>H a=some (.lst (nats aG))) rs ((da vs.length).map λi=>g (k+i))
 |[],_,_=>⟨[],rfl,.nil⟩
 |v::vs,k,h=>by
  obtain⟨r,rfl,ay⟩:=h 0 v rfl;obtain⟨rs,e,t⟩:=SK (H:=H) (g:=g) vs (k+1) λi u rd=>by obtain⟨r,ax,az⟩:=h (i+1) u rd;exact⟨r,ax,by rw[az];congr 4;omega⟩
  refine⟨r::rs,by rw[e];rfl,?_⟩;rw[hH,abX,gk,fS];refine .cons ay ?_;have:(da vs.length).map ((λi=>g (k+i))∘Nat.succ)=(da vs.length).map λi=>g (k+1+i):=q3 λi _=>by show g (k+(i+1))=_;congr 1;omega
  rw[this];exact t
noncomputable def yH(kvs:dt)(hs:bD)(ds:b7)(lds:l1)(i:Nat):Option bj:=hk kvs hs ds (lds.getD i gV).2.2 13 (lds.getD i gV).1 []
inductive qO(H:aa)(D:Addr)(v:ar.V):Option bj->Prop
 |no:v=.bV->qO H D v none
 |yes {aG:bj} {p:Addr}:v=.ref p->p≠D->H p=some (.lst (nats aG))->qO H D v (some aG)
theorem qO.same{H H':aa}{D:Addr}{v:ar.V}{o:Option bj}(s:aT H H'):qO H D v o->qO H' D v o
 |.no e=>.no e
 |.yes e n h=>.yes e n (s _ _ h)
theorem qO.put{H:aa}{D:Addr}{v:ar.V}{o:Option bj}{ob:d4}:qO H D v o->qO (upd H D ob) D v o
 |.no e=>.no e
 |.yes e n h=>.yes e n (by rw[aL n];exact h)
structure i_(hs:bD)(d:nA):Prop where
 a:d.1∈hs.map S
 b:d.2.2∈hs.map S
 ne:d.1≠d.2.2
 lo:0<=d.2.1
 ai:d.2.1<=2000000000
inductive ahQ(a dW h6 r' x y eg:Addr)(bs:Int)(I_:aa)(lM:List Row)(i:Nat)(σ:ar.St)(bJ:aa):Prop where
 |mk (v1 v2 iR:l2) (b0:σ=[some (.ref a),some (.ref dW),some (.int bs),some (.ref h6),some (.ref r'),some (.ref x),some (.ref y),some (.ref eg),v1,v2,iR,none,none,none,none,none,none]) (bH:∀b v,b≠eg->I_ b=some v->bJ b=some v) (cu:bJ eg=some (.c4 (du (lM.take i))))
section
variable{P:bP}{w:bt}{K:aY}{ae:cN}{base:Heap}
noncomputable abbrev afK:List Str:=["_law_script","_law_names","_law_base","_law_lines","_law_letters","_law_net","_law_table_here","_law_told","_law_house","_law_goal","_law_road_here","_law_routes","_law_handed","_law_plan","_law_gone","_law_found","_law_kept"]
noncomputable abbrev wI:Stmt:=top 46
theorem kn:d0 afK ["_law_script"] (dx wI):=⟨rfl,rfl,rfl,by decide+kernel,rfl,by decide+kernel,by decide+kernel⟩
seal ht bN g0 hI
theorem afL{C ec bA f g7 Xb fI Xh uR gA cw fr fs L9 Xa:Addr}{fd Bl W4 W5 W6 Bm W' W8 W9 sP W3 W2:c1}(F:b6 K "law" "law" wI f fd)(B:hb ae)(cH:o_ K ec)(I6:ae "Net"=some (.ref bA))(jk:dS K ae "_law_cell_at" yL ["_law_script","_law_k"] g7 Bl)(w_:a4 P w K ae base bu 1 g7 Bl ["_law_script","_law_k"] (EB K))(Bf:dS K ae "_law_houses" Ct ["_law_cell","_law_many"] Xb W4)(apm:a4 P w K ae base bu 1 Xb W4 ["_law_cell","_law_many"] Py)(BX:dS K ae "_law_road" z4 ["_law_cell","_law_names"] fI W5)(ĝ:a4 P w K ae base bu 1 fI W5 ["_law_cell","_law_names"] JC)(Bg:dS K ae "_law_letter" DM ["_law_cell","_law_names","_law_base"] Xh W6)(apn:a4 P w K ae base bu 1 Xh W6 ["_law_cell","_law_names","_law_base"] IT)(Il:pS K bA uR)(O7:t9 K bA "Net.__init__" DR ["self","houses","roads"] uR Bm)(O8:a4 P w K ae base bu 5 uR Bm ["self","houses","roads"] (IS K bA))(Bp:dS K ae "_law_table" C8 ["_law_net","_law_names","_law_lines","_law_script"] gA W')(ap8:a4 P w K ae base bu 5 gA W' ["_law_net","_law_names","_law_lines","_law_script"] (Ka K ec bA))(xe:eJ K ec "pairs" "Ways.pairs" C3 ["self"] cw W8)(ZL:a4 P w K ae base bu 1 cw W8 ["self"] (JH ec))(tB:dS K ae "run" Ad ["net","letters","ways"] fr W9)(Eg:a4 P w K ae base bu 6 fr W9 ["net","letters","ways"] (JK C ec bA))(B8:dS K ae "left_out" C1 ["letters","ways"] Xa W2)(Ő:a4 P w K ae base bu 5 Xa W2 ["letters","ways"] (Kc ec bA))(Bh:dS K ae "_law_walked" C9 Hb fs sP)(apo:a4 P w K ae base bu 2 fs sP Hb UV)(BY:dS K ae "_law_route" C5 ["_law_lines","_law_told","_law_house","_law_goal"] L9 W3)(ap9:a4 P w K ae base bu 1 L9 W3 ["_law_lines","_law_told","_law_house","_law_goal"] Kb):
  a4 P w K ae base bu 8 f fd ["_law_script"] (D8 K):=by
 have kf:=cH.cl;refine F.ok kn (λvs H Q E h=>?_) (λbK A outer s H vs Q E ay h=>?_)
 .obtain⟨a,ns,rfl,_⟩:=h;rfl
 .obtain⟨a,ns,rfl,cP,M',q⟩:=h;obtain⟨m,hm⟩:∃m:Nat,2+ns.getD (1:Int).toNat 0%11=(m:Int):=⟨(2+ns.getD (1:Int).toNat 0%11).toNat,by omega⟩
  have Yo:2<=m/\m<=12:=by omega
  obtain⟨hs,LS⟩:∃hs,hs=rx (ns.getD (0:Int).toNat 0) m:=⟨_,rfl⟩
  have G:Good hs:=by rw[LS];exact apX Yo.2
  have aq:hs.length=m:=by rw[LS,Oz]
  refine⟨_,(bQ (dG (i:=1) kn.aK rfl (nv rfl) (f5 apm (ay.mono (by decide)) (by rfl) Bf.at_ Bf.fn.cT Bf.bd .nil dQ (aA (f5 w_ (ay.mono (by decide)) (by rfl) jk.at_ jk.fn.cT jk.bd .nil dQ (aA (ah 0) (aA bF a5))) (aA (cZ iB bF (cZ ic (f5 w_ (ay.mono (by decide)) (by rfl) jk.at_ jk.fn.cT jk.bd .nil dQ (aA (ah 0) (aA bF a5))) bF)) a5))))
   (bQ (dG (i:=2) kn.aK rfl (nv rfl) (cZ ic (f5 w_ (ay.mono (by decide)) (by rfl) jk.at_ jk.fn.cT jk.bd .nil dQ (aA (ah 0) (aA bF a5))) (cZ Dn (cZ TX bF bF) bF)))
   (bQ (dG (i:=3) kn.aK rfl (nv rfl) (pb (N':=["_law_cell","_law_names"]) (cs:=[none,some 1]) rfl (i1 (Ã (ah 0) (CG bF) (CG bF) bF)) rfl (by decide+kernel) rfl (by decide+kernel) (i2 (kV.mpr ⟨rfl,(λp aP=>bE aP (eZ))⟩)) rfl
    (.own (.jO rfl (.inl rfl) (.inl rfl) rfl .nil))
    (λC s3 bL cw d_=>⟨(d1 (i:=0) (by show(["_law_cell","_law_names"]:bR).Nodup;decide+kernel) rfl (.inl rfl)),mK,(f5 ĝ (ay.mono (by decide)) (by rfl) BX.at_ BX.fn.cT BX.bd .nil dQ (aA (ah 0) (aA (ah 1) a5)))⟩)))
   (bQ (rh (i:=4) kn.aK rfl rfl rfl (N':=["_law_cell","_law_names","_law_base"]) (cs:=[none,some 1,some 2]) rfl (i1 (Ã (ah 0) (CG bF) (CG bF) bF)) rfl (by decide+kernel) rfl (by decide+kernel) (i2 (kV.mpr ⟨rfl,(kV.mpr ⟨rfl,(λp aP=>bE aP (eZ))⟩)⟩)) rfl
    (.own (.jO rfl (.inl rfl) (.inl rfl) rfl (.jO rfl (.inl rfl) (.inl rfl) rfl .nil)))
    (λC s3 bL cw d_=>⟨(d1 (i:=0) (by show(["_law_cell","_law_names","_law_base"]:bR).Nodup;decide+kernel) rfl (.inl rfl)),mK,(f5 apn (ay.mono (by decide)) (by rfl) Bg.at_ Bg.fn.cT Bg.bd .nil dQ (aA (ah 0) (aA (ah 1) (aA (ah 2) a5))))⟩))
   (bQ (dG (i:=5) kn.aK rfl (cY rfl) (HM Il O8 (ay.mono (by decide)) (by rfl) I6 O7.bd .nil dQ (aA (ah 1) (aA (ah 3) a5))))
   (bQ (dG (i:=6) kn.aK rfl (cY rfl) (f5 ap8 (ay.mono (by decide)) (by rfl) Bp.at_ Bp.fn.cT Bp.bd .nil dQ (aA (ah 5) (aA (ah 1) (aA (ah 3) (aA (ah 0) a5))))))
   (bQ (dG (i:=7) kn.aK rfl (nv rfl) è)
   (bQ (kC jJ rfl (i1 (xR (ah 6) kf xe.gM ZL (ay.mono (by decide)) xe.bd .nil dQ)) (yx rfl (hK (d1 (i:=8) kn.aK rfl (cY rfl)) (hK (d1 (i:=9) kn.aK rfl (cY rfl)) (hK (d1 (i:=10) kn.aK rfl (cY rfl)) oS))))
    (b8 (Hv (ju ay) (ah 7) (jS (aA (ah 8) (aA (ah 9) a5))) (ah 10) rfl)))
   (bQ (rh (i:=11) kn.aK rfl rfl rfl (N':=["_law_letter_here","_law_lines","_law_told"]) (cs:=[none,some 3,some 7]) rfl (i1 (ah 4)) rfl (by decide+kernel) rfl (by decide+kernel) (i2 (kV.mpr ⟨rfl,(kV.mpr ⟨rfl,(λp aP=>bE aP (eZ))⟩)⟩)) rfl
    (.own (.jO rfl (.inl rfl) (.inl rfl) rfl (.jO rfl (.inl rfl) (.inl rfl) rfl .nil)))
    (λC s3 bL cw d_=>⟨(d1 (i:=0) (by show(["_law_letter_here","_law_lines","_law_told"]:bR).Nodup;decide+kernel) rfl (.inl rfl)),mK,(f5 ap9 (ay.mono (by decide)) (by rfl) BY.at_ BY.fn.cT BY.bd .nil dQ (aA (ah 1) (aA (ah 2) (aA (cz (td (K:=K) rfl) (ah 0) bF (λ_ _=>rfl)) (aA (cz (td (K:=K) rfl) (ah 0) bF (λ_ _=>rfl)) a5)))))⟩))
   (bQ (dG (i:=12) kn.aK rfl (cY rfl) (nG sG (by rfl) B.list nM (aA (ah 4) a5)))
   (bQ (dG (i:=13) kn.aK rfl (cY rfl) (f5 Eg (ay.mono (by decide)) (by rfl) tB.at_ tB.fn.cT tB.bd .nil dQ (aA (ah 5) (aA (ah 12) (aA (ah 6) a5)))))
   (bQ (dG (i:=14) kn.aK rfl (cY rfl) (f5 apo (ay.mono (by decide)) (by rfl) Bh.at_ Bh.fn.cT Bh.bd .nil dQ (aA (ah 3) (aA (ah 4) (aA (ah 13) a5)))))
   (bQ (gd (jh.pt (mX (fP Dq (ah 14) l' (eD _)) (rD (fP (Dr ay.units) (ah 14) (pb (N':=["_law_route_here"]) (cs:=[none]) rfl (i1 (ah 11)) rfl (by decide+kernel) rfl (by decide+kernel) (i2 (λp aP=>bE aP (eZ))) rfl
    (.own .nil)
    (λC s3 bL cw d_=>⟨(d1 (i:=0) (by show(["_law_route_here"]:bR).Nodup;decide+kernel) rfl (.inl rfl)),mK,(afJ (K:=K) rfl (ah 0) (nZ (l_ a5)))⟩)) (eD _))))) (b8 (dE kE)) gb)
   (bQ (dG (i:=15) kn.aK rfl (cY rfl) (f5 Ő (ay.mono (by decide)) (by rfl) B8.at_ B8.fn.cT B8.bd .nil dQ (aA (ah 12) (aA (ah 6) a5))))
   (bQ (gd (jh.pt (mX (jR (ki (eo oP (by rfl) B.isinstance nD (aA (ah 15) (aA (n2 (by rfl) B.list nM) a5))))) (rD (fP (Dr ay.units) (ah 15) (pb (N':=["_law_n","_law_route_here"]) (cs:=[none,none]) rfl (vf rfl B.enumerate (aA (ah 11) a5)) rfl (by decide+kernel) rfl (by decide+kernel) (i2 (λp aP=>bE aP (eZ))) rfl
    (.own (.own .nil))
    (λC s3 bL cw d_=>⟨(x' (K:=K) (n:=2) rfl rfl (hK (d1 (i:=0) (by show(["_law_n","_law_route_here"]:bR).Nodup;decide+kernel) rfl (.inl rfl)) (hK (d1 (i:=1) (by show(["_law_n","_law_route_here"]:bR).Nodup;decide+kernel) rfl (.inl rfl)) oS))),(ve (fP Dq (ah 1) l' (eD _))),(ah 0)⟩)) (eD _))))) (b8 (dE kE)) gb)
   (bQ (dG (i:=16) kn.aK rfl (cY rfl) (nG sG (by rfl) B.list nM (aA (ah 13) a5)))
   (bQ (ia (n4 oF oG oH mJ (ah 13) (aA l' a5)))
   (b8 (dE (lq (lg (Iy ay.units) (f5 Eg (ay.mono (by decide)) (by rfl) tB.at_ tB.fn.cT tB.bd .nil dQ (aA (ah 5) (aA (ah 4) (aA (ah 6) a5)))) (ah 16) (eD _)) (lq (lg (Iy ay.units) (ah 12) (ah 4) (eD _)) (nZ (lg rG (eo ke (by rfl) B.len jq (aA (xR (ah 6) kf xe.gM ZL (ay.mono (by decide)) xe.bd .nil dQ) a5)) (eo ŏ (by rfl) B.len jq (aA (ah 7) a5)) (eD _)))))))))))))))))))))))),?_⟩
  refine⟨_,rfl,a,ns,0,rfl,cP,by decide,_,rfl,a,ns,1,rfl,cP,by decide,_,_,rfl,rfl,(by show(0:Int)<11;decide),_,_,rfl,rfl,ns.getD (0:Int).toNat 0,m,?_,Yo.2,λdW H1 vt s1 ag=>?_⟩
  .show[V.int _,V.int (2+ns.getD (1:Int).toNat 0%11)]=_;rw[hm]
  rw[<-LS]at ag;have qj:=s1.seq cP;refine⟨_,rfl,a,ns,2,rfl,qj,by decide,_,_,rfl,rfl,⟨by decide,by decide,by decide⟩,_,_,rfl,rfl,_,_,rfl,rfl,(by show(0:Int)<10 ^ (9:Int).toNat - 29;decide),?_⟩;have alA:0<=ns.getD (2:Int).toNat 0%(10 ^ (9:Int).toNat - 29):=ky _ (by decide);have hC:ns.getD (2:Int).toNat 0%(10 ^ (9:Int).toNat - 29)<10 ^ (9:Int).toNat - 29:=kU _ (by decide);have gK:ns.getD (2:Int).toNat 0%(10 ^ (9:Int).toNat - 29)<1000000000:=aae hC (by decide);dsimp only;generalize ns.getD (2:Int).toNat 0%(10 ^ (9:Int).toNat - 29)=bs at alA gK⊢;clear hC;obtain⟨e3,WI⟩:∃e3,e3=lN ns (some 3) (some 45) 2:=⟨_,rfl⟩
  have am1:e3.length<=21:=by rw[WI];exact Â ns 3 45
  obtain⟨ds,jr⟩:∃ds:List de.fv,ds=e3.map λc=>GN hs.length c:=⟨_,rfl⟩
  have X7:∀d∈ds,d.Ok hs.length:=λd hd=>by rw[jr]at hd;obtain⟨c,_,rfl⟩:=cf.mp hd;exact afp (by omega) c
  have YV:ds.length<=21:=by rw[jr,bh];exact am1
  dsimp only[qP,tZ,g5];refine ë (K:=K) (Hs:=H1) (xs:=e3.map V.int) (rest:=[some (.ref dW)]) (λR cF=>⟨_,rfl,_,rfl,_,rfl,a,_,_,rfl,rfl,(by decide),qj,λp np=>⟨p,rfl,⟨_,aS.of a8⟩,?_⟩⟩) rfl (e1 (by rw[bh];omega)) (λv=>match v with|.int c=>m7 hs (GN hs.length c)|_=>[]) (λi y aj R d2 aI cm=>?_) (λh6 aj rs Xv cc gC=>?_)
  .have:=cF p np;rw[WI]at this;rw[Á];exact this
  .obtain⟨c,_,rfl⟩:=cf.mp (eQ d2);exact⟨_,rfl,_,rfl,c,dW,hs,rfl,aI _ _ ag,by omega,by omega,λdf O2=>cm df _ (cV O2) a8⟩
  have Dt:eh aj rs (ds.map (m7 hs)):=by rw[jr,fS];rw[fS]at cc;exact cc
  have cF:hy aj hs rs ds:=⟨Dt,X7⟩
  have c7:rs.length<=21:=by rw[cF.len];exact YV
  have sT:=gC.seq qj;have xu:=gC _ _ ag;clear cc Dt qj ag s1 gC vt;obtain⟨Cv,WH⟩:∃Cv,Cv=lN ns (some 4) (some 46) 2:=⟨_,rfl⟩
  have am0:Cv.length<=21:=by rw[WH];exact Â ns 4 46
  obtain⟨eu,LW⟩:∃eu:List nA,eu=Cv.map λc=>am4 hs (lt hs.length c bs):=⟨_,rfl⟩
  have pg:∀d∈eu,i_ hs d:=λd hd=>by
   rw[LW]at hd;obtain⟨c,_,rfl⟩:=cf.mp hd;have ok:=agV (n:=hs.length) (by omega) c bs;have ax:hs.getD (lt hs.length c bs).a []=hs[(lt hs.length c bs).a]'ok.a:=by rw[dr,ct ok.a];rfl
   have az:hs.getD (lt hs.length c bs).b []=hs[(lt hs.length c bs).b]'ok.b:=by rw[dr,ct ok.b];rfl
   refine⟨o5 ok.a,o5 ok.b,λz=>?_,?_,?_⟩
   .have z:S (hs.getD (lt hs.length c bs).a [])=S (hs.getD (lt hs.length c bs).b []):=z;have z:=Jl z;rw[ax,az]at z;exact ok.ne ((wL G.aK).mp z)
   .have:=ok.lo;show 0<=(lt hs.length c bs).t;omega
   .have:=ok.ai;show(lt hs.length c bs).t<=2000000000;omega
  have arR:eu.length<=21:=by rw[LW,bh];exact am0
  refine ë (K:=K) (Hs:=aj) (xs:=Cv.map V.int) (rest:=[some (.ref dW),some (.int bs)]) (λR cF=>⟨_,rfl,_,rfl,_,rfl,a,_,_,rfl,rfl,(by decide),sT,λp np=>⟨p,rfl,⟨_,aS.of a8⟩,?_⟩⟩) rfl (e1 (by rw[bh];omega)) (λv=>match v with|.int c=>ltV hs (lt hs.length c bs)|_=>[]) (λi y bL R d2 aI cm=>?_) (λr' bL kG Xy cc oh=>?_)
  .have:=cF p np;rw[WH]at this;rw[Á];exact this
  .obtain⟨c,_,rfl⟩:=cf.mp (eQ d2);exact⟨_,rfl,_,rfl,_,rfl,c,bs,dW,hs,rfl,aI _ _ xu,by omega,by omega,λdf O2=>cm df _ (cV O2) a8⟩
  have nc:eh bL kG (eu.map qu):=by rw[LW,fS];rw[fS]at cc;exact cc
  have x7:kG.length=eu.length:=by have:=nc.len;rw[bh]at this;exact this
  have xx:=oh.seq sT;have Mm:=oh _ _ xu;have Mq:=oh _ _ Xv;have xw:=cF.same oh;clear cc sT xu Xv cF oh;refine⟨_,rfl,_,rfl,λx av cy rE aK=>?_⟩;have mk:∀{b:Addr}{v:d4},bL b=some v->upd (upd bL av (.own x)) x (.ins bA av []) b=some v:=λ{b v}e=>by rw[aL (dn e cy),aL (dn e rE)];exact e
  refine⟨x,av,dW,h6,hs,rs,ds,rfl,a8,mk Mm,G,mk Mq,xw.same (λb v e=>mk e),(by omega),λiw bz a7 b5 BS XR XW na nb=>⟨rfl,?_⟩⟩;have qG:aT bL iw:=Ψ cy rE b5;have jB:lz bA iw x bz a7 (dC hs) (aW rs):=⟨⟨av,BS⟩,XR,XW⟩
  have Mr:=qG _ _ Mq;have Xz:=qG _ _ Xy;have ο:=nc.same qG;have Mw:=xw.same qG;have Xr:=qG _ _ Mm;have XP:=qG.seq xx;clear mk xx Mm Mq Xy nc xw b5 cy rE aK qG BS XR XW na nb;refine⟨_,rfl,_,rfl,_,rfl,_,rfl,x,dW,h6,a,bz,a7,hs,rs,ds,ns,rfl,jB,Xr,Mr,XP,G,Mw,(by omega),λy t wy kvs O5 el CY W X=>?_⟩;obtain⟨rws,akU,Hl,ZS⟩:=X.rows;subst akU;have aoo:=qN.c7 (by omega) Hl ZS;obtain⟨d9,r6⟩:=X.ok;have Xx:=CY _ _ Mr;have XA:=CY _ _ Xz;have π:=ο.same CY;have XM:=Mw.same CY;clear XP Xr Mr Xz ο Mw CY O5 el jB
  refineλeg CD=>?_
  have Ho:=cV (o:=.c4 []) CD;have Ql:upd wy eg (.c4 []) eg=some (.c4 []):=a8;generalize upd wy eg (.c4 [])=aqC at Ho Ql⊢;have Kp:=W.same Ho;obtain⟨sI,aZ⟩:=Kp.ins;obtain⟨lM,L1⟩:∃lM,lM=y9 rws:=⟨_,rfl⟩
  have sp:lM.Perm rws:=by rw[L1];exact ψ rws
  have snd:(lM.map λr=>(r.1,r.2.1)).Nodup:=(sp.map _).nodup_iff.mpr Hl;have jL:qN hs ds (du lM):=⟨lM,rfl,snd,λr ay=>ZS r (sp.mem_iff.mp ay)⟩
  have apQ:∀h g,iH (du lM) h g=iH (du rws) h g:=ō sp snd;have asn:lM.length<=144:=by rw[sp.length_eq];exact aoo
  refine⟨_,rfl,y,sI,_,rfl,aZ,rfl,y,sI,x,t,rws,rfl,aZ,Kp.told,Sk Hl,by omega,λl I_ ts nl PU aq HV=>?_⟩;obtain⟨hl,xb,HU⟩:=Sj HV;rw[xb]at aq;rw[<-L1]at HU;have HN:=PU _ _ Ql;have ZX:=Ho.trans PU;have Qr:=HU.len;rw[bh]at Qr;clear xb HV Ho PU Kp aZ nl Ql;refine⟨l,rfl,⟨_,aS.of aq⟩,?_⟩;have CB:l≠eg:=λz=>by rw[z,HN]at aq;cases aq
  refine ta (K:=K) (xs:=aW hl) (ahQ a dW h6 r' x y eg bs I_ lM) ⟨none,none,none,rfl,λ_ _ _ e=>e,HN⟩ (λi σ bJ _⟨_,_,_,_,cT,_⟩=>aS.of (cT _ _ CB aq)) ?_ ?_
  .rintro i z σ bJ dO ⟨v1,v2,iR,rfl,cT,xK⟩;unfold aW at dO;rw[cM]at dO;obtain⟨r,d6,rfl⟩:=ft.mp dO;obtain⟨cg,WM,i7⟩:=bX.get HU d6;rw[cM]at WM;obtain⟨dj,akY,rfl⟩:=ft.mp WM;have amA:bJ r=some (.tup (m4 dj)):=cT r _ (λz=>by rw[z,HN]at i7;cases i7) i7;refine⟨r,_,rfl,b2.of amA,rfl,_,_,rfl,_,_,rfl,_,_,rfl,rfl,?_⟩;refine⟨_,rfl,_,rfl,_,rfl,_,rfl,(by show 2<=sizeLine;decide),λb nb=>?_⟩;have vl:eg≠b:=dn xK nb;refine⟨eg,_,rfl,qR.t (k:=d3 dj.1 dj.2.1) (by rw[aL vl];exact xK) a8 (e1 (by unfold du;rw[bh,f_];omega)),_,_,_,rfl,λa7 v c2 e=>?_,?_⟩
   .rw[aL c2,aL (dn (cT a7 v c2 e) nb)];exact cT a7 v c2 e
   .rw[a8,aaU snd akY]
  rintro σ Ja ⟨v1,v2,iR,rfl,cT,xK⟩;rw[fO,Qr,lY]at xK;have gC:aT wy Ja:=λb v e=>cT b v (dn e CD) (ZX _ _ e);have agE:=W.same gC;have Xw:=gC _ _ Xx;have FU:=gC _ _ XA;have ξ:=π.same gC;have XK:=XM.same gC;clear gC cT HU HN aq ZX CB Xx XA π XM W CD Qr L1;have amD:hs.length<=12:=by omega
  have kk:∀d∈eu,d.1∈hs.map S/\d.2.2∈hs.map S/\d.1≠d.2.2:=λd hd=>⟨(pg d hd).a,(pg d hd).b,(pg d hd).ne⟩
  obtain⟨SU,xj,rj⟩:=acv (kvs:=du rws) X7 d9 r6 amD (lds:=eu) (by omega) λd hd=>⟨(pg d hd).a,(pg d hd).b,(pg d hd).ne,(pg d hd).lo⟩
  have ZE:(r1 hs ds (du rws) eu).length<=40300:=hc (S6 _ _ _ _) (by have:=Nat.mul_le_mul_left 1300 YV;omega);have afr:=jL.ok.1;have ZT:∀i,yH (du lM) hs ds eu i=yH (du rws) hs ds eu i:=λi=>by unfold yH;exact â apQ _ _ _
  obtain⟨lJ,WL⟩:∃lJ,lJ=yH (du lM) hs ds eu:=⟨_,rfl⟩
  have Mi:∀i,i<eu.length->gone (r1 hs ds (du rws) eu) i=(lJ i).getD []/\(!mU (du rws) hs ds (eu.getD i gV))=(lJ i).isNone:=λi ai=>by rw[WL,ZT];unfold yH;obtain⟨g1,g2⟩:=rj i _ (ct ai);rw[me (ct ai)];refine⟨g1,?_⟩;rw[g2];cases hk (du rws) hs ds eu[i].2.2 13 eu[i].1 []<;>rfl
  clear rj ZT;have aiP:∀{i:Nat}{v:ar.V},(aW kG)[i]?=some v->∃(r:Addr)(d:nA),v=.ref r/\eu[i]?=some d/\Ja r=some (.tup (qu d)):=λ{i v}ev=>by unfold aW at ev;rw[cM]at ev;obtain⟨r,d6,rfl⟩:=ft.mp ev;obtain⟨d',lh,mc⟩:=bX.get ξ d6;rw[cM]at lh;obtain⟨d,dv,rfl⟩:=ft.mp lh;exact⟨r,d,rfl,dv,mc⟩
  dsimp only;refine ye ?_;refine SJ (J:=jG K r') (H1:=Ja) (xs:=aW kG) (rest:=[some (.ref h6),some (.ref eg)]) (λh9 h=>⟨_,rfl,r',rfl,⟨_,aS.of FU⟩,h⟩) rfl (oU (aS.of FU)) (e1 (by rw[fO];omega)) (λD i v H'=>qO H' D v (lJ i)) (λD i v aj bL s h=>h.same s) (λD i v aj zs h=>h.put) (λD i v aj h9 ev s2 n_ Rn cm=>?_) (λzh Tx vs arZ als lv each vJ=>?_)
  .obtain⟨r,d,rfl,dv,hd⟩:=aiP ev;have cI:lJ i=hk (du lM) hs ds d.2.2 13 d.1 []:=by rw[WL];unfold yH;rw[me dv]
   obtain⟨ys,aZ⟩:=Rn;refine⟨_,rfl,_,rfl,_,rfl,r,_,_,_,rfl,rfl,b2.of (s2 _ _ hd),rfl,_,rfl,r,_,_,_,rfl,rfl,b2.of (s2 _ _ hd),rfl,h6,eg,hs,rs,ds,du lM,d.1,d.2.2,rfl,s2 _ _ Xw,s2 _ _ xK,XK.same s2,afr,λaG e p H' np s' aP=>cm _ H' s' ?_,λe H' s'=>cm _ H' s' ?_⟩
   .rw[cI,e];exact .yes rfl (λz=>by rw[z,aZ]at np;cases np) aP
   .rw[cI,e];exact .no rfl
  refine⟨_,rfl,r',_,rfl,.inl (aS.of (vJ _ _ FU)),λaH anx=>?_⟩;have Hp:=cV (o:=.lst (aW kG)) anx;have F9:upd Tx aH (.lst (aW kG)) aH=some (.lst (aW kG)):=a8;generalize upd Tx aH (.lst (aW kG))=Tz at Hp F9⊢;have Wy:∀i v,vs[i]?=some v->qO Tz zh v (lJ i):=λi v e=>(each i v e).same Hp;have s4:=vJ.trans Hp;have E1:=agE.same s4;have aln:=s4 _ _ Xw;have Ms:=s4 _ _ FU;have yT:=ξ.same s4;have FZ:=XK.same s4;have amJ:=s4 _ _ xK;have XD:=Hp _ _ als;refine⟨_,rfl,_,rfl,_,rfl,x,aH,y,t,bz,a7,hs,rs,kG,ds,du rws,eu,rfl,F9,yT,(by omega),E1,G,FZ,d9,kk,λpl aqD as qx CV fW kc=>?_⟩;obtain⟨fg,Ww⟩:∃fg,fg=r1 hs ds (du rws) eu:=⟨_,rfl⟩
  rw[<-Ww]at kc SU xj ZE Mi;have an2:=h8 kc;refine⟨_,rfl,_,rfl,_,rfl,h6,r',pl,hs,rs,kG,as,ds,eu,fg,rfl,CV _ _ aln,FZ.same CV,CV _ _ Ms,yT.same CV,(by omega),fW,kc,SU,xj,λg œ eN j2 PW bx Hc=>?_⟩;have PV:=CV.trans PW;have XE:=PV _ _ XD;have kN:vs.length=eu.length:=by rw[lv,fO];exact x7
  refine⟨_,rfl,rfl,_,rfl,eF rfl ?_⟩;refine⟨_,rfl,?_⟩;refine SJ (J:=jG K zh) (H1:=œ) (xs:=vs) (rest:=[]) (λh9 h=>⟨_,rfl,zh,rfl,⟨_,aS.of XE⟩,h⟩) rfl (oU (aS.of XE)) (e1 (by omega)) (λD i v H'=>∃p,p≠D/\v=.ref p/\H' p=some (.lst (nats ((lJ i).getD [])))) (λD i v aj bL s⟨p,ax,az,cq⟩=>⟨p,ax,az,s _ _ cq⟩) (λD i v aj zs⟨p,ax,az,cq⟩=>⟨p,ax,az,by rw[aL ax];exact cq⟩) (λD i v aj h9 ev s2 n_ Rn cm=>?_) (λaqA Jb apu arY alr am5 akO CW=>?_)
  .have e:=Wy i v ev;generalize lJ i=o at e cm;obtain⟨ys,aZ⟩:=Rn;cases e with
   |no e=>
    subst e;exact⟨_,rfl,false,rfl,eF rfl ⟨dM _,λp np=>cm _ _ (cV np) ⟨p,(λz=>by rw[z,aZ]at np;cases np),rfl,a8⟩⟩⟩
   |@yes aG p e n h=>
    subst e;have af:=PV _ _ h;have aV:=s2 _ _ af;cases aG with
    |nil=>exact⟨_,rfl,false,.inl ⟨_,aS.of aV,rfl⟩,eF rfl ⟨dM _,λp np=>cm _ _ (cV np) ⟨p,(λz=>by rw[z,aZ]at np;cases np),rfl,a8⟩⟩⟩
    |cons k aG=>exact⟨_,rfl,true,.inl ⟨_,aS.of aV,rfl⟩,fi rfl (cm _ _ (aT.refl _) ⟨p,dn af n_,rfl,aV⟩)⟩
  obtain⟨ml,rfl,ZF⟩:=SK (H:=Jb) (g:=λi=>(lJ i).getD []) apu 0 λi v e=>by obtain⟨p,_,ax,az⟩:=akO i v e;exact⟨p,ax,by rw[az,ur]⟩
  have l8:((da (aW ml).length).map λi=>(lJ (0+i)).getD [])=(da eu.length).map λn=>gone fg n:=by rw[am5,kN];exact q3 λi ai=>by rw[ur,(Mi i (jH.mp ai)).1]
  rw[l8]at ZF;have an5:bX (λa aG=>Jb a=some (.lst (nats aG))) eN ((da eu.length).map λn=>gone fg n):=by refine B6 (by rw[bh];exact h8 Hc) λi u v rd ev=>?_;obtain⟨n,kB,aD⟩:=bX.get Hc rd;rw[cM,kB]at ev;cases ev;exact CW _ _ aD
  refine⟨Hn ((da eu.length).map λn=>gone fg n),Hn ((da eu.length).map λn=>gone fg n),.lst (aS.of (CW _ _ bx)) (Rv an5),.lst (aS.of alr) (Rv ZF),UO _,UO _,_,rfl,eF (Tg (TB _)) ?_⟩;have yJ:=PV.trans CW;have amt:=CW _ _ (PW _ _ fW);have ajk:bX (hY Jb) as fg:=bX.iN kc λ_ _ e=>e.same (PW.trans CW);refine⟨_,rfl,_,rfl,aH,y,x,t,bz,a7,hs,rs,kG,ds,du rws,eu,rfl,yJ _ _ F9,yT.same yJ,(by omega),E1.same yJ,G,FZ.same yJ,d9,λd hd=>⟨(pg d hd).a,(pg d hd).b⟩,λak5 TA ar6 ZV F4=>?_⟩;refine⟨_,rfl,_,_,_,_,_,rfl,⟨rfl,.lst F4,rfl⟩,_,rfl,eF rfl ?_⟩;refine⟨_,rfl,?_⟩;have XF:=ZV _ _ (yJ _ _ XD);refine I4 (K:=K) (a:=zh) (H1:=TA) (xs:=vs) (rest:=[]) (λh9 h=>⟨_,rfl,zh,rfl,⟨_,aS.of XF⟩,h⟩) rfl (aS.of XF) (e1 (by omega)) (λi=>(lJ i).isNone) (λi=>.int (i:Int)) (λi v aj h9 ev s2 cm=>?_) (λi v aj h9 ev _ s2 cm=>⟨_,rfl,cm aj (aT.refl _)⟩) (λale Jc ar7 F6 ZW=>?_)
  .have h:decide (v=V.bV)=(lJ i).isNone:=by
    have e:=Wy i v ev;generalize lJ i=o at e;cases e with
    |no e=>rw[e];exact dU rfl
    |yes e n h=>rw[e];exact eM (λz=>by cases z)
   exact⟨_,rfl,rfl,_,rfl,by rw[h];exact cm aj (aT.refl _)⟩
  have akL:((da vs.length).filter λi=>(lJ i).isNone)=vU hs ds (du rws) eu:=by rw[kN];unfold vU;exact List.filter_congr λi ai=>((Mi i (jH.mp ai)).2).symm
  rw[akL]at F6;have F6:Jc ale=some (.lst ((dZ (vU hs ds (du rws) eu)).map V.int)):=by rw[F6];unfold dZ;rw[fS];rfl
  have F4:TA ak5=some (.lst ((dZ (vU hs ds (du rws) eu)).map V.int)):=by rw[F4,UP]
  have ku:=q' (n:=1) (yz (dZ (vU hs ds (du rws) eu))) (G_ _) (by decide);refine⟨_,_,CL (aS.of (ZW _ _ F4)),CL (aS.of F6),ku,ku,_,rfl,eF (Tg (yz _)) ?_⟩;have P1:=ZV.trans ZW;have aot:=yJ.trans P1;have Ng:=P1 _ _ amt;refine⟨_,rfl,pl,_,rfl,.inl (aS.of Ng),λB_ OW=>?_⟩;have Hq:=cV (o:=.lst (aW as)) OW;have Yj:upd Jc B_ (.lst (aW as)) B_=some (.lst (aW as)):=a8;have BQ:=Hq _ _ Ng;have anz:B_≠pl:=λz=>by rw[z,Ng]at OW;cases OW
  generalize upd Jc B_ (.lst (aW as))=Ed at Hq Yj BQ⊢;refine⟨_,rfl,.inl ⟨rfl,_,aS.of BQ⟩,pl,_,_,rfl,rfl,BQ,mx (show(aW as).length<=40300 by rw[fO,an2];exact ZE) (by decide),?_⟩;have yK:aT Tz (upd Ed pl (.lst (aW as++[V.bV]))):=h_ qx (aot.trans Hq);have Yk:upd Ed pl (.lst (aW as++[V.bV])) B_=some (.lst (aW as)):=by rw[aL anz];exact Yj
  have Wi:bX (hY (upd Ed pl (.lst (aW as++[V.bV])))) as fg:=bX.iN ajk λu v e=>by
   obtain⟨c,ax,az⟩:=e.same (P1.trans Hq);refine⟨c,?_,?_⟩
   .rw[aL (λz=>by rw[z,BQ]at ax;cases ax)];exact ax
   .rw[aL (λz=>by rw[z,BQ]at az;cases az)];exact az
  generalize upd Ed pl (.lst (aW as++[V.bV]))=aqE at yK Yk Wi⊢;refine⟨_,rfl,_,rfl,_,rfl,x,r',y,t,bz,a7,hs,rs,kG,ds,du rws,eu,rfl,yK _ _ Ms,yT.same yK,(by omega),E1.same yK,G,FZ.same yK,d9,kk,λash Ŕ arf ar9 PY amu Wh=>?_⟩;rw[<-Ww]at Wh;have ajl:bX (hY Ŕ) as fg:=bX.iN Wi λ_ _ e=>e.same PY;refine⟨_,rfl,.list (fg.map t5),.list (fg.map t5),.lst (aS.of amu) (QU Wh),.lst (aS.of (PY _ _ Yk)) (QU ajl),S7 fg,S7 fg,_,rfl,fi (Cp _ (SI fg)) ?_⟩;have oh:=yK.trans PY;have LF:∀d∈eu,sr (.str d.1)=true/\sr (.str d.2.2)=true:=λd hd=>by obtain⟨Qt,ag,ax⟩:=cf.mp (pg d hd).a;obtain⟨Qu,af,az⟩:=cf.mp (pg d hd).b;rw[<-ax,<-az];exact⟨Cs (G.nm _ ag),Cs (G.nm _ af)⟩
  refine⟨_,rfl,_,rfl,.list (eu.map wH),.list (eu.map wH),.lst (aS.of (oh _ _ F9)) (Ru (yT.same oh)),.lst (aS.of (oh _ _ Ms)) (Ru (yT.same oh)),UN LF,UN LF,_,rfl,fi (Cp _ (S8 LF)) ?_⟩;have V9:=E1.same oh;obtain⟨sI,aZ⟩:=V9.ins;refine⟨_,rfl,y,sI,_,rfl,aZ,rfl,y,sI,x,t,rws,rfl,aZ,V9.told,Sk Hl,by omega,λl aqF ts nl aou aq HV=>?_⟩;obtain⟨hl,xb,ao6⟩:=Sj HV;rw[xb]at aq;have c3:=ao6.len;rw[bh,(ψ rws).length_eq]at c3;refine⟨l,_,rfl,.inl (aS.of aq),_,rfl,eg,_,rfl,aou _ _ (oh _ _ amJ),rfl,tr (dU ?_) (q _)⟩;rw[fO,c3];unfold du;rw[bh,sp.length_eq]
unseal ht bN g0 hI
theorem tC{us:b_}(h:us.length=1):∃a0,us=[a0]:=by
 rcases us with _|⟨a0,_|⟨b,r⟩⟩
 .simp at h
 .exact⟨a0,rfl⟩
 .simp at h
theorem i3{us:b_}(h:us.length=2):∃a0 a1,us=[a0,a1]:=by
 rcases us with _|⟨a0,_|⟨a1,_|⟨b,r⟩⟩⟩
 .simp at h
 .simp at h
 .exact⟨a0,a1,rfl⟩
 .simp at h
theorem n9{us:b_}(h:us.length=3):∃a0 a1 a2,us=[a0,a1,a2]:=by
 rcases us with _|⟨a0,_|⟨a1,_|⟨a2,_|⟨b,r⟩⟩⟩⟩
 .simp at h
 .simp at h
 .simp at h
 .exact⟨a0,a1,a2,rfl⟩
 .simp at h
theorem Eh{us:b_}(h:us.length=4):∃a0 a1 a2 gn,us=[a0,a1,a2,gn]:=by
 rcases us with _|⟨a0,_|⟨a1,_|⟨a2,_|⟨gn,_|⟨b,r⟩⟩⟩⟩⟩
 .simp at h
 .simp at h
 .simp at h
 .simp at h
 .exact⟨a0,a1,a2,gn,rfl⟩
 .simp at h
theorem Vv{us:b_}(h:us.length=5):∃a0 a1 a2 gn iZ,us=[a0,a1,a2,gn,iZ]:=by
 rcases us with _|⟨a0,_|⟨a1,_|⟨a2,_|⟨gn,_|⟨iZ,_|⟨b,r⟩⟩⟩⟩⟩⟩
 .simp at h
 .simp at h
 .simp at h
 .simp at h
 .simp at h
 .exact⟨a0,a1,a2,gn,iZ,rfl⟩
 .simp at h
end
theorem all_mk{l:Ve}{w:bt}{K:aY}{h:Heap}{ae:cN}{g7 eB xf A1 A4 xg A3 A2 fm xi Bd Be Bc Bb Ba fl xh A_ A' A6 A8 A9 A7 FE FF FD Bi Fz Fs FA Ft FC FG Fv FN Fx FJ Fu FL FH Fj Fl Fn Fm Fp Fo Fi Fq Xg r7 iU pJ v7 Fh:Addr}{ajQ ajP ajU ajT ajS ajR aj3 aj7 aj8 aj6 aj5 aj4 ajY aj2 aj1 ajW ajZ aj0 ajX akx aky akw akj akt akh aku aki akv akB akl akH akr akF akk akG akC aka akb akd akc akf ake aj9 akg akA ajV:c1}(X:K.In h)(G:h.Ns dc ae)(alR:ae "law"=some (.ref g7))(Ks:dF K dc "Net"=some (some (.ref eB)))(Pj:wY K eB kZ=true)(MS:uw K eB=true)(Pn:EL K eB=true)(P5:dg K (.ref eB) "__setattr__"=some (some (.builtin "object.__setattr__")))(OD:EI K eB=true)(N_:pX K (.ref eB)=true)(OL:dg K (.ref eB) "kept_houses"=some none)(OM:dg K (.ref eB) "kept_roads"=some none)(KA:dg K (.ref eB) "__init__"=some (some (.ref xf)))(NG:hu K (.ref xf)=true)(zi:b6 K "__init__" "Net.__init__" DR xf ajQ)(Kz:dg K (.ref eB) "houses"=some (some (.ref A1)))(NF:hu K (.ref A1)=true)(v_:b6 K "houses" "Net.houses" xT A1 ajP)(KH:dg K (.ref eB) "roads"=some (some (.ref A4)))(NK:hu K (.ref A4)=true)(wc:b6 K "roads" "Net.roads" CN A4 ajU)(KG:dg K (.ref eB) "road"=some (some (.ref xg)))(NJ:hu K (.ref xg)=true)(t4:b6 K "road" "Net.road" tj xg ajT)(KD:dg K (.ref eB) "out_of"=some (some (.ref A3)))(NI:hu K (.ref A3)=true)(wb:b6 K "out_of" "Net.out_of" wC A3 ajS)(KC:dg K (.ref eB) "need_house"=some (some (.ref A2)))(NH:hu K (.ref A2)=true)(wa:b6 K "need_house" "Net.need_house" yX A2 ajR)(Ky:dF K dc "Ways"=some (some (.ref fm)))(Pl:wY K fm kZ=true)(MU:uw K fm=true)(Pp:EL K fm=true)(P7:dg K (.ref fm) "__setattr__"=some (some (.builtin "object.__setattr__")))(OF:EI K fm=true)(Ob:pX K (.ref fm)=true)(OQ:dg K (.ref fm) "net"=some none)(OR:dg K (.ref fm) "told"=some none)(KS:dg K (.ref fm) "__init__"=some (some (.ref xi)))(NT:hu K (.ref xi)=true)(zk:b6 K "__init__" "Ways.__init__" yP xi aj3)(KX:dg K (.ref fm) "set_way"=some (some (.ref Bd)))(NX:hu K (.ref Bd)=true)(wt:b6 K "set_way" "Ways.set_way" yO Bd aj7)(KY:dg K (.ref fm) "way"=some (some (.ref Be)))(NY:hu K (.ref Be)=true)(wu:b6 K "way" "Ways.way" C' Be aj8)(KW:dg K (.ref fm) "route"=some (some (.ref Bc)))(NW:hu K (.ref Bc)=true)(wq:b6 K "route" "Ways.route" C6 Bc aj6)(KV:dg K (.ref fm) "pairs"=some (some (.ref Bb)))(NV:hu K (.ref Bb)=true)(wo:b6 K "pairs" "Ways.pairs" C3 Bb aj5)(KU:dg K (.ref fm) "need_pair"=some (some (.ref Ba)))(NU:hu K (.ref Ba)=true)(wm:b6 K "need_pair" "Ways.need_pair" yN Ba aj4)(Kx:dF K dc "Walk"=some (some (.ref fl)))(Pk:wY K fl kZ=true)(MT:uw K fl=true)(Po:EL K fl=true)(P6:dg K (.ref fl) "__setattr__"=some (some (.builtin "object.__setattr__")))(OE:EI K fl=true)(Oa:pX K (.ref fl)=true)(OO:dg K (.ref fl) "net"=some none)(ON:dg K (.ref fl) "goals"=some none)(OP:dg K (.ref fl) "steps"=some none)(KN:dg K (.ref fl) "__init__"=some (some (.ref xh)))(NO:hu K (.ref xh)=true)(zj:b6 K "__init__" "Walk.__init__" zV xh ajY)(KR:dg K (.ref fl) "take_in"=some (some (.ref A_)))(NS:hu K (.ref A_)=true)(wk:b6 K "take_in" "Walk.take_in" DS A_ aj2)(KQ:dg K (.ref fl) "send"=some (some (.ref A')))(NR:hu K (.ref A')=true)(wj:b6 K "send" "Walk.send" y7 A' aj1)(KJ:dg K (.ref fl) "goal"=some (some (.ref A6)))(NM:hu K (.ref A6)=true)(wd:b6 K "goal" "Walk.goal" y8 A6 ajW)(KO:dg K (.ref fl) "last_house"=some (some (.ref A8)))(NP:hu K (.ref A8)=true)(wg:b6 K "last_house" "Walk.last_house" yA A8 ajZ)(KP:dg K (.ref fl) "last_turn"=some (some (.ref A9)))(NQ:hu K (.ref A9)=true)(wh:b6 K "last_turn" "Walk.last_turn" vB A9 aj0)(KL:dg K (.ref fl) "home_turn"=some (some (.ref A7)))(NN:hu K (.ref A7)=true)(we:b6 K "home_turn" "Walk.home_turn" DA A7 ajX)(Lg:dF K dc "is_whole"=some (some (.ref FE)))(zE:b6 K "is_whole" "is_whole" ut FE akx)(Lh:dF K dc "is_whole_within"=some (some (.ref FF)))(zF:b6 K "is_whole_within" "is_whole_within" CM FF aky)(Lf:dF K dc "is_tuple_of"=some (some (.ref FD)))(zD:b6 K "is_tuple_of" "is_tuple_of" Dz FD akw)(K9:dF K dc "are_unlike_houses"=some (some (.ref Bi)))(wx:b6 K "are_unlike_houses" "are_unlike_houses" vg Bi akj)(Lc:dF K dc "is_name"=some (some (.ref Fz)))(zA:b6 K "is_name" "is_name" DN Fz akt)(K7:dF K dc "are_houses"=some (some (.ref Fs)))(zv:b6 K "are_houses" "are_houses" DO Fs akh)(Ld:dF K dc "is_road"=some (some (.ref FA)))(zB:b6 K "is_road" "is_road" DP FA aku)(K8:dF K dc "are_roads"=some (some (.ref Ft)))(zw:b6 K "are_roads" "are_roads" DQ Ft aki)(Le:dF K dc "is_shorter_by"=some (some (.ref FC)))(zC:b6 K "is_shorter_by" "is_shorter_by" Dw FC akv)(Lk:dF K dc "least_turns_from"=some (some (.ref FG)))(zH:b6 K "least_turns_from" "least_turns_from" Dx FG akB)(K_:dF K dc "begins_shortest"=some (some (.ref Fv)))(zy:b6 K "begins_shortest" "begins_shortest" z8 Fv akl)(Lq:dF K dc "shortest"=some (some (.ref FN)))(zL:b6 K "shortest" "shortest" C7 FN akH)(Lb:dF K dc "has_route"=some (some (.ref Fx)))(zz:b6 K "has_route" "has_route" yM Fx akr)(Lm:dF K dc "queues_at"=some (some (.ref FJ)))(zJ:b6 K "queues_at" "queues_at" C4 FJ akF)(K':dF K dc "bags_at"=some (some (.ref Fu)))(zx:b6 K "bags_at" "bags_at" CZ Fu akk)(Lp:dF K dc "run"=some (some (.ref FL)))(zK:b6 K "run" "run" Ad FL akG)(Ll:dF K dc "left_out"=some (some (.ref FH)))(zI:b6 K "left_out" "left_out" C1 FH akC)(K0:dF K dc "_law_cell_at"=some (some (.ref Fj)))(zm:b6 K "_law_cell_at" "_law_cell_at" yL Fj aka)(K1:dF K dc "_law_houses"=some (some (.ref Fl)))(zo:b6 K "_law_houses" "_law_houses" Ct Fl akb)(K3:dF K dc "_law_road"=some (some (.ref Fn)))(zq:b6 K "_law_road" "_law_road" z4 Fn akd)(K2:dF K dc "_law_letter"=some (some (.ref Fm)))(zp:b6 K "_law_letter" "_law_letter" DM Fm akc)(K5:dF K dc "_law_table"=some (some (.ref Fp)))(zt:b6 K "_law_table" "_law_table" C8 Fp akf)(K4:dF K dc "_law_route"=some (some (.ref Fo)))(zr:b6 K "_law_route" "_law_route" C5 Fo ake)(KZ:dF K dc "_law_bag_fits"=some (some (.ref Fi)))(zl:b6 K "_law_bag_fits" "_law_bag_fits" C0 Fi aj9)(K6:dF K dc "_law_walked"=some (some (.ref Fq)))(zu:b6 K "_law_walked" "_law_walked" C9 Fq akg)(Lj:dF K dc "law"=some (some (.ref Xg)))(zG:b6 K "law" "law" wI Xg akA){akq:Option Addr}{Wm:tY}{aoJ:ka}(Kw:dF K dc "RoadError"=some (some (.ref r7)))(Oi:K.lookup r7=some ⟨.type "type",akq,.cls Wm,aoJ⟩){akp:Option Addr}{E6:tY}{Qb:ka}(Kv:dF K dc "NoWay"=some (some (.ref iU)))(Gx:K.lookup iU=some ⟨.type "type",akp,.cls E6,Qb⟩){akn:Option Addr}{ajK:tY}{aoH:ka}(Kt:dF K dc "NoHouse"=some (some (.ref pJ)))(YR:K.lookup pJ=some ⟨.type "type",akn,.cls ajK,aoH⟩){ako:Option Addr}{ajL:tY}{aoI:ka}(Ku:dF K dc "NoRoad"=some (some (.ref v7)))(YS:K.lookup v7=some ⟨.type "type",ako,.cls ajL,aoI⟩)(KI:dg K (.ref iU) "__init__"=some (some (.ref Fh)))(NL:hu K (.ref Fh)=true)(D3:b6 K "__init__" "NoWay.__init__" P4 Fh ajV)(Rg:Al K r7 [.type "ValueError",.type "Exception",.type "BaseException",.type "object"] "ValueError.__new__"=true)(Rd:Al K pJ [.type "ValueError",.type "Exception",.type "BaseException",.type "object"] "ValueError.__new__"=true)(Rf:Al K v7 [.type "ValueError",.type "Exception",.type "BaseException",.type "object"] "ValueError.__new__"=true)(DJ:T6 E6 Qb iU iU=true){aoR:Tok}(QN:dF K dc "MOST_HOUSES"=some (some (.int 12 aoR))){aoS:Tok}(QO:dF K dc "MOST_ROADS"=some (some (.int 40 aoS))){aoU:Tok}(QR:dF K dc "MOST_SIGNS"=some (some (.int 8 aoU))){aoV:Tok}(QS:dF K dc "MOST_TURNS"=some (some (.int 9 aoV))){aoT:Tok}(QP:dF K dc "MOST_ROOM"=some (some (.int 1000000000 aoT)))(RR:dF K dc "len"=some none)(RV:dF K dc "range"=some none)(RQ:dF K dc "isinstance"=some none)(RK:dF K dc "all"=some none)(RP:dF K dc "int"=some none)(RM:dF K dc "bool"=some none)(RY:dF K dc "str"=some none)(RS:dF K dc "list"=some none)(R0:dF K dc "tuple"=some none)(RW:dF K dc "set"=some none)(RJ:dF K dc "ValueError"=some none)(RO:dF K dc "enumerate"=some none)(RT:dF K dc "max"=some none)(RU:dF K dc "min"=some none)(RZ:dF K dc "sum"=some none)(RL:dF K dc "any"=some none)(RN:dF K dc "dict"=some none)(RX:dF K dc "sorted"=some none)(R1:dF K dc "zip"=some none)(Ri:Ib E6 Wm Qb iU "ValueError.__new__"=true)(Rc:E6.hasDict=true)(Qk:dg K (.ref iU) "__setattr__"=some (some (.builtin "object.__setattr__")))(Pe:JX K (.ref iU) (.type "object")=some true)(NA:uw K iU=true)(Oe:pX K (.ref iU)=true)(Mf:dg K (.ref iU) "__getattribute__"=some (some (.builtin "BaseException.__getattribute__")))(OY:dg K (.ref iU) "__getattr__"=some none)(MC:dg K (.ref iU) "__class__"=some (some (.builtin "object.__class__")))(M9:Ao K (.builtin "object.__class__") "__get__"=some (some (.builtin "getset_descriptor.__get__")))(Nq:Vn K (.builtin "object.__class__")=some true)(M8:EK K iU (.type "object")=some true)(MG:EK K iU (.type "BaseException")=some true)(PO:Vl K r7 (.type "type")=true)(L8:Vg K (.ref r7) (.type "type") "__init__"=some (.val (.builtin "ValueError.__init__")))(P_:Ao K (.ref r7) "__getattribute__"=some (some (.builtin "type.__getattribute__")))(Ni:dg K (.ref iU) "reason"=some none)(Nm:dg K (.ref iU) "seen"=some none):
  ∃fd:c1,(∀(s:aF)(v:Value),ze s fd ⟨[v],[]⟩ [("_law_script",v)])/\∀base:Heap,K.In base->base.Ns dc ae->a4 l.prog w K ae base bu 8 g7 fd ["_law_script"] (D8 K):=by
 have e:=alR.symm.trans (fu X G Lj);cases e;have hh:ho K eB:=⟨Pj,MS,Pn,P5⟩
 have I6:=fu X G Ks;have aiS:=zi.binds (ps:=["self","houses","roads"]) λ_ _ _ _ _ _ us aq=>by(obtain⟨_,_,_,rfl⟩:=n9 aq);rfl
 have Il:pS K eB xf:=⟨OD,KA,NG,N_⟩
 have O7:t9 K eB "Net.__init__" DR ["self","houses","roads"] xf _:=⟨zi,Il,aiS⟩
 have aiR:=v_.binds (ps:=["self"]) λ_ _ _ _ _ _ us aq=>by(obtain⟨_,rfl⟩:=tC aq);rfl
 have p5:eJ K eB "houses" "Net.houses" xT ["self"] A1 _:=⟨v_,⟨Kz,NF,v_.cT⟩,aiR⟩
 have aiW:=wc.binds (ps:=["self"]) λ_ _ _ _ _ _ us aq=>by(obtain⟨_,rfl⟩:=tC aq);rfl
 have Gm:eJ K eB "roads" "Net.roads" CN ["self"] A4 _:=⟨wc,⟨KH,NK,wc.cT⟩,aiW⟩
 have aiV:=t4.binds (ps:=["self","number"]) λ_ _ _ _ _ _ us aq=>by(obtain⟨_,_,rfl⟩:=i3 aq);rfl
 have nI:eJ K eB "road" "Net.road" tj ["self","number"] xg _:=⟨t4,⟨KG,NJ,t4.cT⟩,aiV⟩
 have aiU:=wb.binds (ps:=["self","house"]) λ_ _ _ _ _ _ us aq=>by(obtain⟨_,_,rfl⟩:=i3 aq);rfl
 have sH:eJ K eB "out_of" "Net.out_of" wC ["self","house"] A3 _:=⟨wb,⟨KD,NI,wb.cT⟩,aiU⟩
 have aiT:=wa.binds (ps:=["self","house"]) λ_ _ _ _ _ _ us aq=>by(obtain⟨_,_,rfl⟩:=i3 aq);rfl
 have p4:eJ K eB "need_house" "Net.need_house" yX ["self","house"] A2 _:=⟨wa,⟨KC,NH,wa.cT⟩,aiT⟩
 have kf:ho K fm:=⟨Pl,MU,Pp,P7⟩
 have yf:=fu X G Ky;have ai5:=zk.binds (ps:=["self","net"]) λ_ _ _ _ _ _ us aq=>by(obtain⟨_,_,rfl⟩:=i3 aq);rfl
 have vh:pS K fm xi:=⟨OF,KS,NT,Ob⟩
 have xm:t9 K fm "Ways.__init__" yP ["self","net"] xi _:=⟨zk,vh,ai5⟩
 have ai9:=wt.binds (ps:=["self","house","goal","road"]) λ_ _ _ _ _ _ us aq=>by(obtain⟨_,_,_,_,rfl⟩:=Eh aq);rfl
 have sz:eJ K fm "set_way" "Ways.set_way" yO ["self","house","goal","road"] Bd _:=⟨wt,⟨KX,NX,wt.cT⟩,ai9⟩
 have aja:=wu.binds (ps:=["self","house","goal"]) λ_ _ _ _ _ _ us aq=>by(obtain⟨_,_,_,rfl⟩:=n9 aq);rfl
 have GC:eJ K fm "way" "Ways.way" C' ["self","house","goal"] Be _:=⟨wu,⟨KY,NY,wu.cT⟩,aja⟩
 have ai8:=wq.binds (ps:=["self","house","goal"]) λ_ _ _ _ _ _ us aq=>by(obtain⟨_,_,_,rfl⟩:=n9 aq);rfl
 have Gu:eJ K fm "route" "Ways.route" C6 ["self","house","goal"] Bc _:=⟨wq,⟨KW,NW,wq.cT⟩,ai8⟩
 have ai7:=wo.binds (ps:=["self"]) λ_ _ _ _ _ _ us aq=>by(obtain⟨_,rfl⟩:=tC aq);rfl
 have xe:eJ K fm "pairs" "Ways.pairs" C3 ["self"] Bb _:=⟨wo,⟨KV,NV,wo.cT⟩,ai7⟩
 have ai6:=wm.binds (ps:=["self","house","goal"]) λ_ _ _ _ _ _ us aq=>by(obtain⟨_,_,_,rfl⟩:=n9 aq);rfl
 have sD:eJ K fm "need_pair" "Ways.need_pair" yN ["self","house","goal"] Ba _:=⟨wm,⟨KU,NU,wm.cT⟩,ai6⟩
 have l7:ho K fl:=⟨Pk,MT,Po,P6⟩
 have Rq:=fu X G Kx;have ai0:=zj.binds (ps:=["self","net","letters"]) λ_ _ _ _ _ _ us aq=>by(obtain⟨_,_,_,rfl⟩:=n9 aq);rfl
 have HP:pS K fl xh:=⟨OE,KN,NO,Oa⟩
 have OJ:t9 K fl "Walk.__init__" zV ["self","net","letters"] xh _:=⟨zj,HP,ai0⟩
 have ai4:=wk.binds (ps:=["self","letter"]) λ_ _ _ _ _ _ us aq=>by(obtain⟨_,_,rfl⟩:=i3 aq);rfl
 have FP:eJ K fl "take_in" "Walk.take_in" DS ["self","letter"] A_ _:=⟨wk,⟨KR,NS,wk.cT⟩,ai4⟩
 have ai3:=wj.binds (ps:=["self","bag"]) λ_ _ _ _ _ _ us aq=>by(obtain⟨_,_,rfl⟩:=i3 aq);rfl
 have Gq:eJ K fl "send" "Walk.send" y7 ["self","bag"] A' _:=⟨wj,⟨KQ,NR,wj.cT⟩,ai3⟩
 have aiY:=wd.binds (ps:=["self","number"]) λ_ _ _ _ _ _ us aq=>by(obtain⟨_,_,rfl⟩:=i3 aq);rfl
 have Gp:eJ K fl "goal" "Walk.goal" y8 ["self","number"] A6 _:=⟨wd,⟨KJ,NM,wd.cT⟩,aiY⟩
 have ai1:=wg.binds (ps:=["self","number"]) λ_ _ _ _ _ _ us aq=>by(obtain⟨_,_,rfl⟩:=i3 aq);rfl
 have sC:eJ K fl "last_house" "Walk.last_house" yA ["self","number"] A8 _:=⟨wg,⟨KO,NP,wg.cT⟩,ai1⟩
 have ai2:=wh.binds (ps:=["self","number"]) λ_ _ _ _ _ _ us aq=>by(obtain⟨_,_,rfl⟩:=i3 aq);rfl
 have nE:eJ K fl "last_turn" "Walk.last_turn" vB ["self","number"] A9 _:=⟨wh,⟨KP,NQ,wh.cT⟩,ai2⟩
 have aiZ:=we.binds (ps:=["self","number"]) λ_ _ _ _ _ _ us aq=>by(obtain⟨_,_,rfl⟩:=i3 aq);rfl
 have Fg:eJ K fl "home_turn" "Walk.home_turn" DA ["self","number"] A7 _:=⟨we,⟨KL,NN,we.cT⟩,aiZ⟩
 have ajx:=zE.binds (ps:=["thing"]) λ_ _ _ _ _ _ us aq=>by(obtain⟨_,rfl⟩:=tC aq);rfl
 have B5:dS K ae "is_whole" ut ["thing"] FE _:=⟨zE,fu X G Lg,ajx⟩
 have ajy:=zF.binds (ps:=["thing","least","greatest"]) λ_ _ _ _ _ _ us aq=>by(obtain⟨_,_,_,rfl⟩:=n9 aq);rfl
 have sA:dS K ae "is_whole_within" CM ["thing","least","greatest"] FF _:=⟨zF,fu X G Lh,ajy⟩
 have ajw:=zD.binds (ps:=["thing","length"]) λ_ _ _ _ _ _ us aq=>by(obtain⟨_,_,rfl⟩:=i3 aq);rfl
 have A5:dS K ae "is_tuple_of" Dz ["thing","length"] FD _:=⟨zD,fu X G Lf,ajw⟩
 have ajo:=wx.binds (ps:=["houses","one","other"]) λ_ _ _ _ _ _ us aq=>by(obtain⟨_,_,_,rfl⟩:=n9 aq);rfl
 have p3:dS K ae "are_unlike_houses" vg ["houses","one","other"] Bi _:=⟨wx,fu X G K9,ajo⟩
 have ajt:=zA.binds (ps:=["thing"]) λ_ _ _ _ _ _ us aq=>by(obtain⟨_,rfl⟩:=tC aq);rfl
 have B3:dS K ae "is_name" DN ["thing"] Fz _:=⟨zA,fu X G Lc,ajt⟩
 have ajm:=zv.binds (ps:=["things"]) λ_ _ _ _ _ _ us aq=>by(obtain⟨_,rfl⟩:=tC aq);rfl
 have Bq:dS K ae "are_houses" DO ["things"] Fs _:=⟨zv,fu X G K7,ajm⟩
 have aju:=zB.binds (ps:=["houses","thing"]) λ_ _ _ _ _ _ us aq=>by(obtain⟨_,_,rfl⟩:=i3 aq);rfl
 have B4:dS K ae "is_road" DP ["houses","thing"] FA _:=⟨zB,fu X G Ld,aju⟩
 have ajn:=zw.binds (ps:=["houses","things"]) λ_ _ _ _ _ _ us aq=>by(obtain⟨_,_,rfl⟩:=i3 aq);rfl
 have BV:dS K ae "are_roads" DQ ["houses","things"] Ft _:=⟨zw,fu X G K8,ajn⟩
 have ajv:=zC.binds (ps:=["road","found"]) λ_ _ _ _ _ _ us aq=>by(obtain⟨_,_,rfl⟩:=i3 aq);rfl
 have AM:dS K ae "is_shorter_by" Dw ["road","found"] FC _:=⟨zC,fu X G Le,ajv⟩
 have ajz:=zH.binds (ps:=["roads","house"]) λ_ _ _ _ _ _ us aq=>by(obtain⟨_,_,rfl⟩:=i3 aq);rfl
 have AH:dS K ae "least_turns_from" Dx ["roads","house"] FG _:=⟨zH,fu X G Lk,ajz⟩
 have ajq:=zy.binds (ps:=["road","far_from","goal"]) λ_ _ _ _ _ _ us aq=>by(obtain⟨_,_,_,rfl⟩:=n9 aq);rfl
 have AI:dS K ae "begins_shortest" z8 ["road","far_from","goal"] Fv _:=⟨zy,fu X G K_,ajq⟩
 have ajF:=zL.binds (ps:=["net"]) λ_ _ _ _ _ _ us aq=>by(obtain⟨_,rfl⟩:=tC aq);rfl
 have B7:dS K ae "shortest" C7 ["net"] FN _:=⟨zL,fu X G Lq,ajF⟩
 have ajs:=zz.binds (ps:=["letter","ways"]) λ_ _ _ _ _ _ us aq=>by(obtain⟨_,_,rfl⟩:=i3 aq);rfl
 have p':dS K ae "has_route" yM ["letter","ways"] Fx _:=⟨zz,fu X G Lb,ajs⟩
 have ajC:=zJ.binds (ps:=["walk","going","ways","turn"]) λ_ _ _ _ _ _ us aq=>by(obtain⟨_,_,_,_,rfl⟩:=Eh aq);rfl
 have BW:dS K ae "queues_at" C4 ["walk","going","ways","turn"] FJ _:=⟨zJ,fu X G Lm,ajC⟩
 have ajp:=zx.binds (ps:=["net","walk","going","ways","turn"]) λ_ _ _ _ _ _ us aq=>by(obtain⟨_,_,_,_,_,rfl⟩:=Vv aq);rfl
 have Cj:dS K ae "bags_at" CZ ["net","walk","going","ways","turn"] Fu _:=⟨zx,fu X G K',ajp⟩
 have ajD:=zK.binds (ps:=["net","letters","ways"]) λ_ _ _ _ _ _ us aq=>by(obtain⟨_,_,_,rfl⟩:=n9 aq);rfl
 have tB:dS K ae "run" Ad ["net","letters","ways"] FL _:=⟨zK,fu X G Lp,ajD⟩
 have ajA:=zI.binds (ps:=["letters","ways"]) λ_ _ _ _ _ _ us aq=>by(obtain⟨_,_,rfl⟩:=i3 aq);rfl
 have B8:dS K ae "left_out" C1 ["letters","ways"] FH _:=⟨zI,fu X G Ll,ajA⟩
 have ajd:=zm.binds (ps:=["_law_script","_law_k"]) λ_ _ _ _ _ _ us aq=>by(obtain⟨_,_,rfl⟩:=i3 aq);rfl
 have jk:dS K ae "_law_cell_at" yL ["_law_script","_law_k"] Fj _:=⟨zm,fu X G K0,ajd⟩
 have aje:=zo.binds (ps:=["_law_cell","_law_many"]) λ_ _ _ _ _ _ us aq=>by(obtain⟨_,_,rfl⟩:=i3 aq);rfl
 have Bf:dS K ae "_law_houses" Ct ["_law_cell","_law_many"] Fl _:=⟨zo,fu X G K1,aje⟩
 have ajg:=zq.binds (ps:=["_law_cell","_law_names"]) λ_ _ _ _ _ _ us aq=>by(obtain⟨_,_,rfl⟩:=i3 aq);rfl
 have BX:dS K ae "_law_road" z4 ["_law_cell","_law_names"] Fn _:=⟨zq,fu X G K3,ajg⟩
 have ajf:=zp.binds (ps:=["_law_cell","_law_names","_law_base"]) λ_ _ _ _ _ _ us aq=>by(obtain⟨_,_,_,rfl⟩:=n9 aq);rfl
 have Bg:dS K ae "_law_letter" DM ["_law_cell","_law_names","_law_base"] Fm _:=⟨zp,fu X G K2,ajf⟩
 have aji:=zt.binds (ps:=["_law_net","_law_names","_law_lines","_law_script"]) λ_ _ _ _ _ _ us aq=>by(obtain⟨_,_,_,_,rfl⟩:=Eh aq);rfl
 have Bp:dS K ae "_law_table" C8 ["_law_net","_law_names","_law_lines","_law_script"] Fp _:=⟨zt,fu X G K5,aji⟩
 have ajh:=zr.binds (ps:=["_law_lines","_law_told","_law_house","_law_goal"]) λ_ _ _ _ _ _ us aq=>by(obtain⟨_,_,_,_,rfl⟩:=Eh aq);rfl
 have BY:dS K ae "_law_route" C5 ["_law_lines","_law_told","_law_house","_law_goal"] Fo _:=⟨zr,fu X G K4,ajh⟩
 have ajc:=zl.binds (ps:=["_law_lines","_law_letters","_law_stood","_law_gone","_law_bag"]) λ_ _ _ _ _ _ us aq=>by(obtain⟨_,_,_,_,_,rfl⟩:=Vv aq);rfl
 have AN:dS K ae "_law_bag_fits" C0 ["_law_lines","_law_letters","_law_stood","_law_gone","_law_bag"] Fi _:=⟨zl,fu X G KZ,ajc⟩
 have ajj:=zu.binds (ps:=["_law_lines","_law_letters","_law_plan"]) λ_ _ _ _ _ _ us aq=>by(obtain⟨_,_,_,rfl⟩:=n9 aq);rfl
 have Bh:dS K ae "_law_walked" C9 ["_law_lines","_law_letters","_law_plan"] Fq _:=⟨zu,fu X G K6,ajj⟩
 have arh:=zG.binds (ps:=["_law_script"]) λ_ _ _ _ _ _ us aq=>by(obtain⟨_,rfl⟩:=tC aq);rfl
 have Gr:=fu X G Kw;have vd:=fu X G Kv;have ő:=fu X G Kt;have aaV:=fu X G Ku;have aiX:=D3.binds (ps:=["self","reason","seen"]) λ_ _ _ _ _ _ us aq=>by(obtain⟨_,_,_,rfl⟩:=n9 aq);rfl
 have aqa:Exc K ae "RoadError" r7 _ _:=⟨Gr,Rg⟩
 have xO:Exc K ae "NoHouse" pJ _ _:=⟨ő,Rd⟩
 have xU:Exc K ae "NoRoad" v7 _ _:=⟨aaV,Rf⟩
 have DJ:=Ÿ Gx DJ;have mq:zU ae:=⟨⟨_,fu X G QN⟩,⟨_,fu X G QO⟩,⟨_,fu X G QR⟩,⟨_,fu X G QS⟩,⟨_,fu X G QP⟩⟩
 have B:hb ae:=⟨jK X G RR,jK X G RV,jK X G RQ,jK X G RK,jK X G RP,jK X G RM,jK X G RY,jK X G RS,jK X G R0,jK X G RW,jK X G RJ,jK X G RO,jK X G RT,jK X G RU,jK X G RZ,jK X G RL,jK X G RN,jK X G RX,jK X G R1⟩
 obtain⟨_,_,di,akm,pm,an,cd,fU,_,rfl,_,_⟩:=id zG.ex;refine⟨wX "law" "law" (CI wI) (tc wI) (dx wI) .none di akm pm an cd fU,λs v=>.of_eq rfl,λbase _ _=>?_⟩;have fN:tR K eB:=⟨hh,OL,OM⟩
 have KT:T5 K:=⟨afs K⟩
 have O':a4 l.prog w K ae base bu 1 FE _ ["thing"] Q8:=aba zE B KT;have E8:a4 l.prog w K ae base bu 2 FF _ ["thing","least","greatest"] QF:=ż zF B5 O';have N5:a4 l.prog w K ae base bu 1 FD _ ["thing","length"] Q9:=aaY zD B;have AL:a4 l.prog w K ae base bu 1 Bi _ ["houses","one","other"] (QG K):=Ž wx;have Pz:a4 l.prog w K ae base bu 1 Fz _ ["thing"] IL:=PP zA B mq;have Oj:a4 l.prog w K ae base bu 2 Fs _ ["things"] IM:=adi zv B mq B3 Pz;have PA:a4 l.prog w K ae base bu 3 FA _ ["houses","thing"] (IP K):=adj zB mq A5 N5 p3 AL sA E8;have OA:a4 l.prog w K ae base bu 4 Ft _ ["houses","things"] (IQ K):=ada zw B mq B4 PA;have O8:a4 l.prog w K ae base bu 5 xf _ ["self","houses","roads"] (IS K eB):=aej zi B fN Bq Oj BV OA;have Œ:a4 l.prog w K ae base bu 1 Bi _ ["houses","one","other"] PF:=Į wx;have Cx:p2 K ae "RoadError" iU r7:=⟨aqa,⟨_,_,_,_,_,_,Gx,Oi,Ri,Rc⟩,Qk,Pe,PO,L8,P_,⟨Mf,OY,MC,M9,Nq,M8,MG⟩,NA⟩
 have nB:o_ K fm:=⟨kf,OQ,OR⟩
 have cH:qC K fl:=⟨l7,OO,ON,OP⟩
 have uJ:a4 l.prog w K ae base bu 1 A1 _ ["self"] (GP eB):=ĸ v_ B fN;have O4:a4 l.prog w K ae base bu 1 A4 _ ["self"] (QH eB):=aaa wc B fN;have uC:a4 l.prog w K ae base (gP l.prog w) 1 A2 _ ["self","house"] (Io eB pJ):=aeB wa fN Aj xO;have uV:a4 l.prog w K ae base (gP l.prog w) 1 xg _ ["self","number"] (Q' eB v7):=abp t4 B fN Aj xU;have Wc:a4 l.prog w K ae base bu 1 xg _ ["self","number"] (HA eB):=ab7 t4 B fN;have xl:a4 l.prog w K ae base (gP l.prog w) 2 A3 _ ["self","house"] (D_ eB pJ (·.a)):=afi wb B fN p4 uC;have NZ:a4 l.prog w K ae base bu 1 FC _ ["road","found"] Ry:=abm zC;have Md:a4 l.prog w K ae base bu 2 FG _ ["roads","house"] (Rz K):=abn zH AM NZ;have xn:a4 l.prog w K ae base bu 1 xi _ ["self","net"] (ER fm):=ag7 zk nB;have w7:a4 l.prog w K ae base (gP l.prog w) 2 Ba _ ["self","house","goal"] (ES fm eB pJ):=ag8 wm nB hh Aj xO p5 uJ p3 Œ;have w':a4 l.prog w K ae base (gP l.prog w) 3 Bd _ ["self","house","goal","road"] (ET fm eB pJ v7):=ag9 wt nB hh Aj xU sH xl sD w7;have Pc:a4 l.prog w K ae base (gP l.prog w) 3 Be _ ["self","house","goal"] (Ke fm eB pJ):=ahd wu nB sD w7;have Gs:a4 l.prog w K ae base bu 1 Fh _ ["self","reason","seen"] (EU iU):=agG D3 B Cx Gr Ni Nm;have Om:a4 l.prog w K ae base (r8 l.prog w) 3 Bc _ ["self","house","goal"] (Kd fm eB pJ iU):=agH wq nB hh p4 uC nI uV Cx vd Oe KI NL Gs aiX;have ahM:a4 l.prog w K ae base bu 1 Fv _ ["road","far_from","goal"] JG:=afU zy;have ahR:a4 l.prog w K ae base bu 4 FN _ ["net"] (Kf fm eB):=WF zL B nB hh yf p5 uJ Gm O4 sH xl AH Md AI ahM vh xm xn sz w';have ahS:a4 l.prog w K ae base bu 1 A_ _ ["self","letter"] (IV fl):=aeq wk cH;have ahT:a4 l.prog w K ae base bu 2 xh _ ["self","net","letters"] (Jm fl):=afl zj cH FP ahS;have ahU:a4 l.prog w K ae base bu 1 A6 _ ["self","number"] (IU fl):=aex wd cH;have Wd:a4 l.prog w K ae base bu 1 A8 _ ["self","number"] (Hy fl):=aa2 wg cH;have Kl:a4 l.prog w K ae base bu 1 A9 _ ["self","number"] (CO fl):=aa3 wh cH;have aiy:a4 l.prog w K ae base bu 2 A7 _ ["self","number"] (Ra fl):=abo we cH sC Wd nE Kl;have aiz:a4 l.prog w K ae base bu 2 A' _ ["self","bag"] (IH fl eB):=aew wj cH hh nI Wc;have We:a4 l.prog w K ae base bu 4 Fx _ ["letter","ways"] (EO fm eB):=agK zz kf DJ vd Gu Om;have aiA:a4 l.prog w K ae base bu 4 FJ _ ["walk","going","ways","turn"] (Kh K fl fm eB):=agS zJ cH nB nE Kl sC Wd Gp ahU GC Pc;have aiB:a4 l.prog w K ae base bu 5 Fu _ ["net","walk","going","ways","turn"] (EN K fl fm eB):=agD (af3 zx B hh BW aiA nI Wc);have Eg:a4 l.prog w K ae base bu 6 FL _ ["net","letters","ways"] (JK fl fm eB):=afP zK B cH Rq HP OJ ahT p' We nE Kl Cj aiB Gq aiz Fg aiy;have Wf:a4 l.prog w K ae base bu 1 Fj _ ["_law_script","_law_k"] (EB K):=agZ zm B.len;have aiC:a4 l.prog w K ae base bu 1 Fl _ ["_law_cell","_law_many"] Py:=ķ zo B;have aiD:a4 l.prog w K ae base bu 1 Fn _ ["_law_cell","_law_names"] JC:=aff zq B;have aiE:a4 l.prog w K ae base bu 1 Fm _ ["_law_cell","_law_names","_law_base"] IT:=adf zp B;have aiF:a4 l.prog w K ae base bu 1 Bb _ ["self"] (JH fm):=afI wo B nB;have aiG:a4 l.prog w K ae base bu 5 Fp _ ["_law_net","_law_names","_law_lines","_law_script"] (Ka K fm eB):=ahH zt B nB yf jk Wf B7 ahR vh xm xn sz w';have aiH:a4 l.prog w K ae base bu 5 FH _ ["letters","ways"] (Kc fm eB):=ahL zI B p' We;have aiI:a4 l.prog w K ae base bu 1 Fo _ ["_law_lines","_law_told","_law_house","_law_goal"] Kb:=ahJ zr B;have aiJ:a4 l.prog w K ae base bu 1 Fi _ ["_law_lines","_law_letters","_law_stood","_law_gone","_law_bag"] Kk:=ahB zl B;have aiK:a4 l.prog w K ae base bu 2 Fq _ ["_law_lines","_law_letters","_law_plan"] UV:=ahE zu B AN aiJ;exact afL zG B nB I6 jk Wf Bf aiC BX aiD Bg aiE Il O7 O8 Bp aiG xe aiF tB Eg B8 aiH Bh aiK BY aiI
theorem walk{l:Ve}{q:bP}{loose:bR}{w1:cN->Heap->Prop}{sx:bt->Heap->Prop}{d:DefRec}{K:Params->aY}(aD:l.most=some 63)(BA:d.params.defaults=[])(MA:∀(w:bt)(h:Heap),sx w h->(K w.params).In h)(F:∀(w:bt)(ae:cN)(g7:Addr)(h:Heap),(K w.params).In h->h.Ns dc ae->ae d.name=some (.ref g7)->
   ∃fd:c1,(∀(s:aF)(u:Value),ze s fd ⟨[u],[]⟩ [("_law_script",u)])/\∀base:Heap,(K w.params).In base->base.Ns dc ae->a4 l.prog w (K w.params) ae base bu 8 g7 fd ["_law_script"] (D8 (K w.params))):
  adL q loose w1 sx l.row.toRowW d [] (λf vs=>Vp f vs):=
 ar.apw (n:=63) (k:=8) (x:="_law_script") (CX:=λ_=>bu) (sp:=λw=>D8 (K w.params)) aD (by decide) BA ⟨rfl,by decide,by decide⟩ MA F (λ_ _ a ns aq _ cP=>⟨a,ns,rfl,cP,aq,λ_=>rfl⟩) λ_ _ _ _ _ z=>z
end fR
noncomputable def PySem.W.Fast.tw5719349798968359442:Unit:=()
noncomputable def PySem.W.Fast.tw15355935660550459675:Unit:=()
noncomputable def PySem.W.Fast.tw15987491352035061174:Unit:=()
noncomputable def PySem.W.Fast.tw5525658183953299803:Unit:=()
noncomputable def PySem.W.Fast.tw1916514555200752551:Unit:=()
noncomputable def PySem.W.Fast.tw1309080741920430601:Unit:=()
noncomputable def PySem.W.Fast.tw10318410247021914715:Unit:=()
noncomputable def PySem.W.Fast.tw6420218445282015969:Unit:=()
noncomputable def PySem.W.Fast.tw11264782419690427757:Unit:=()
noncomputable def PySem.W.Fast.tw16465247956685742228:Unit:=()
noncomputable def PySem.W.Fast.tw12340083884878810325:Unit:=()
noncomputable def PySem.W.Fast.tw18124984939025943648:Unit:=()
noncomputable def PySem.W.Fast.tw8536820518430747341:Unit:=()
noncomputable def PySem.W.Fast.tw10628147746433634011:Unit:=()
noncomputable def PySem.W.Fast.tw6075285680891678968:Unit:=()
noncomputable def PySem.W.Fast.tw8091749860605109723:Unit:=()
noncomputable def PySem.W.Fast.tw11079940733199738747:Unit:=()
noncomputable def PySem.W.Fast.tw1860514427571465650:Unit:=()
noncomputable def PySem.W.Fast.tw2937312580635121606:Unit:=()
noncomputable def PySem.W.Fast.tw413252566396236427:Unit:=()
noncomputable def PySem.W.Fast.tw14456839478293317506:Unit:=()
noncomputable def PySem.W.Fast.tw1375492246840366469:Unit:=()
noncomputable def PySem.W.Fast.tw17996880852318981863:Unit:=()
noncomputable def PySem.W.Fast.tw12784624522091533121:Unit:=()
noncomputable def PySem.W.Fast.tw11840382004946739040:Unit:=()
noncomputable def PySem.W.Fast.tw16623648457878116949:Unit:=()
noncomputable def PySem.W.Fast.tw6554171576413176726:Unit:=()
noncomputable def PySem.W.Fast.tw4526199630641261406:Unit:=()
noncomputable def PySem.W.Fast.tw10907635904545071140:Unit:=()
noncomputable def PySem.W.Fast.tw4711127152457518489:Unit:=()
noncomputable def PySem.W.Fast.tw3259269221734868854:Unit:=()
noncomputable def PySem.W.Fast.tw1684987210446816487:Unit:=()
noncomputable def PySem.W.Fast.tw11983575409405998777:Unit:=()
noncomputable def PySem.W.Fast.tw5212896524323099842:Unit:=()
noncomputable def PySem.W.Fast.tw10825806107736500120:Unit:=()
noncomputable def PySem.W.Fast.tw14426237599759450311:Unit:=()
noncomputable def PySem.W.Fast.tw14418418972160803067:Unit:=()
noncomputable def PySem.W.Fast.tw9869456916569812454:Unit:=()
noncomputable def PySem.W.Fast.tw1910645740374878060:Unit:=()
noncomputable def PySem.W.Fast.tw14688069475920310365:Unit:=()
noncomputable def PySem.W.Fast.tw538516529470938700:Unit:=()
noncomputable def PySem.W.Fast.tw9753958693928006570:Unit:=()
noncomputable def PySem.W.Fast.tw4238934013859786572:Unit:=()
noncomputable def PySem.W.Fast.tw12818614032380561010:Unit:=()
noncomputable def PySem.W.Fast.tw8566131946448956416:Unit:=()
noncomputable def PySem.W.Fast.tw9870559979919029464:Unit:=()
noncomputable def PySem.W.Fast.tw5137448123317293020:Unit:=()
noncomputable def PySem.W.Fast.tw14855831929365596907:Unit:=()
noncomputable def PySem.W.Fast.tw16341934249050927766:Unit:=()
noncomputable def PySem.W.Fast.tw7899318010793598691:Unit:=()
noncomputable def PySem.W.Fast.tw10407865917248825210:Unit:=()
noncomputable def PySem.W.Fast.tw10544628694409614489:Unit:=()
noncomputable def PySem.W.Fast.tw5892282356977910408:Unit:=()
noncomputable def PySem.W.Fast.tw14069371537185666484:Unit:=()
noncomputable def PySem.W.Fast.tw9086666095441160953:Unit:=()
noncomputable def PySem.W.Fast.tw11401113428986520573:Unit:=()
noncomputable def PySem.W.Fast.tw18279804792258999355:Unit:=()
noncomputable def PySem.W.Fast.tw11088777940323042718:Unit:=()
noncomputable def PySem.W.Fast.tw10428705368721538519:Unit:=()
noncomputable def PySem.W.Fast.tw1484157593000755420:Unit:=()
noncomputable def PySem.W.Fast.tw15993666561044774830:Unit:=()
noncomputable def PySem.W.Fast.tw6750862035686874310:Unit:=()
noncomputable def PySem.W.Fast.tw14036052159136623509:Unit:=()
noncomputable def PySem.W.Fast.tw13471370295701151184:Unit:=()
noncomputable def PySem.W.Fast.tw17876972382641700044:Unit:=()
noncomputable def PySem.W.Fast.tw18084186783311839330:Unit:=()
noncomputable def PySem.W.Fast.tw17301847824646531194:Unit:=()
noncomputable def PySem.W.Fast.tw10575071627626427412:Unit:=()
noncomputable def PySem.W.Fast.tw3290202873583506882:Unit:=()
noncomputable def PySem.W.Fast.tw3006480507541051898:Unit:=()
noncomputable def PySem.W.Fast.tw8360394556959875472:Unit:=()
noncomputable def PySem.W.Fast.tw6082272127797857447:Unit:=()
noncomputable def PySem.W.Fast.tw4505990125300785932:Unit:=()
noncomputable def PySem.W.Fast.tw18086725450575251387:Unit:=()
noncomputable def PySem.W.Fast.tw14262976396186012193:Unit:=()
noncomputable def PySem.W.Fast.tw705773507713426301:Unit:=()
noncomputable def PySem.W.Fast.tw277695602107428296:Unit:=()
noncomputable def PySem.W.Fast.tw17183972336631999304:Unit:=()
noncomputable def PySem.W.Fast.tw7841749417190033730:Unit:=()
noncomputable def PySem.W.Fast.tw18442797271036457384:Unit:=()
noncomputable def PySem.W.Fast.tw6731356670003041723:Unit:=()
noncomputable def PySem.W.Fast.tw11665666311874594473:Unit:=()
noncomputable def PySem.W.Fast.tw16015701139204394413:Unit:=()
noncomputable def PySem.W.Fast.tw5277689665125824755:Unit:=()
noncomputable def PySem.W.Fast.tw2855628674436469073:Unit:=()
noncomputable def PySem.W.Fast.tw14236154385901926777:Unit:=()
noncomputable def PySem.W.Fast.tw6831155162394700109:Unit:=()
noncomputable def PySem.W.Fast.tw5794468887688788469:Unit:=()
noncomputable def PySem.W.Fast.tw9788977242774614308:Unit:=()
noncomputable def PySem.W.Fast.tw4985196531651095847:Unit:=()
noncomputable def PySem.W.Fast.tw11542197796637550308:Unit:=()
noncomputable def PySem.W.Fast.tw337144456164535213:Unit:=()
noncomputable def PySem.W.Fast.tw9983599261614198747:Unit:=()
noncomputable def PySem.W.Fast.tw2937427154772297617:Unit:=()
noncomputable def PySem.W.Fast.tw7663616113776650442:Unit:=()
noncomputable def PySem.W.Fast.tw12882313724770438227:Unit:=()
noncomputable def PySem.W.Fast.tw5592793967159323697:Unit:=()
noncomputable def PySem.W.Fast.tw14245328045829627863:Unit:=()
noncomputable def PySem.W.Fast.tw17685674531120467715:Unit:=()
noncomputable def PySem.W.Fast.tw17760802795912666773:Unit:=()
noncomputable def PySem.W.Fast.tw303487752617619492:Unit:=()
noncomputable def PySem.W.Fast.tw7224606459991608801:Unit:=()
noncomputable def PySem.W.Fast.tw5527051114534140754:Unit:=()
noncomputable def PySem.W.Fast.tw1623767546587894362:Unit:=()
noncomputable def PySem.W.Fast.tw13276654756677824248:Unit:=()
noncomputable def PySem.W.Fast.tw7934634272639666626:Unit:=()
noncomputable def PySem.W.Fast.tw13550761189833118534:Unit:=()
noncomputable def PySem.W.Fast.tw15756789831377470459:Unit:=()
noncomputable def PySem.W.Fast.tw10378840610356598790:Unit:=()
noncomputable def PySem.W.Fast.tw12804664148125360811:Unit:=()
noncomputable def PySem.W.Fast.tw13329489282224133771:Unit:=()
noncomputable def PySem.W.Fast.tw12239187067098757090:Unit:=()
noncomputable def PySem.W.Fast.tw9118156096297055509:Unit:=()
noncomputable def PySem.W.Fast.tw8754795283787089770:Unit:=()
noncomputable def PySem.W.Fast.tw10003034010876523115:Unit:=()
noncomputable def PySem.W.Fast.tw9993687745951116971:Unit:=()
noncomputable def PySem.W.Fast.tw3393013012088811632:Unit:=()
noncomputable def PySem.W.Fast.tw1603316076197527269:Unit:=()
noncomputable def PySem.W.Fast.tw13069240729192769013:Unit:=()
noncomputable def PySem.W.Fast.tw12274645819701600454:Unit:=()
noncomputable def PySem.W.Fast.tw2770803654670932034:Unit:=()
noncomputable def PySem.W.Fast.tw15105818276787155595:Unit:=()
noncomputable def PySem.W.Fast.tw15972201504101514577:Unit:=()
noncomputable def PySem.W.Fast.tw7055220506822629359:Unit:=()
noncomputable def PySem.W.Fast.tw3820823330493598021:Unit:=()
noncomputable def PySem.W.Fast.tw8086021629524336270:Unit:=()
noncomputable def PySem.W.Fast.tw6560442706645837930:Unit:=()
noncomputable def PySem.W.Fast.tw15858143322444618922:Unit:=()
noncomputable def PySem.W.Fast.tw1464557376764474842:Unit:=()
noncomputable def PySem.W.Fast.tw2043685690266545233:Unit:=()
noncomputable def PySem.W.Fast.tw2426614141454369766:Unit:=()
noncomputable def PySem.W.Fast.tw2090203795112422442:Unit:=()
noncomputable def PySem.W.Fast.tw14518445619444368486:Unit:=()
noncomputable def PySem.W.Fast.tw2037270418064284844:Unit:=()
noncomputable def PySem.W.Fast.tw11207485217832516799:Unit:=()
noncomputable def PySem.W.Fast.tw17640918296842199506:Unit:=()
noncomputable def PySem.W.Fast.tw12423193477261539941:Unit:=()
noncomputable def PySem.W.Fast.tw6683595395863768555:Unit:=()
noncomputable def PySem.W.Fast.tw12705747860188838124:Unit:=()
noncomputable def PySem.W.Fast.tw12905536802679787333:Unit:=()
noncomputable def PySem.W.Fast.tw9251957248330202267:Unit:=()
noncomputable def PySem.W.Fast.tw16719764959701655716:Unit:=()
noncomputable def PySem.W.Fast.tw17762579821704972683:Unit:=()
noncomputable def PySem.W.Fast.tw7994497909609869538:Unit:=()
noncomputable def PySem.W.Fast.tw12010060655911214256:Unit:=()
noncomputable def PySem.W.Fast.tw9397957703475219630:Unit:=()
noncomputable def PySem.W.Fast.tw4680459248103877211:Unit:=()
noncomputable def PySem.W.Fast.tw13505747764648502983:Unit:=()
noncomputable def PySem.W.Fast.tw6435131160451776508:Unit:=()
noncomputable def PySem.W.Fast.tw15805737792343766603:Unit:=()
open PySem PySem.W PyProof.Rows
set_option maxRecDepth 100000 in
set_option maxHeartbeats 0 in
theorem PySem.Challenge.cw_postroad_k31_each_goes_its_route_holds : PySem.Challenge.rw_postroad_k31_each_goes_its_route.Holds := by
 w_on;o_law;k_head;(case hw=>w_witness2)
 k_fill
 refine fR.walk (l:=aqM) rfl rfl (λw h Y=>PySem.W.kIn_of Y) ?F
 case F=>
  intro w ae g7 h pM G BM
  refine' fR.all_mk pM G BM ?Ks ?Pj ?MS ?Pn ?P5 ?OD ?N_ ?OL ?OM ?KA ?NG ?zi ?Kz ?NF ?v_ ?KH ?NK ?wc ?KG ?NJ ?t4 ?KD ?NI ?wb ?KC ?NH ?wa ?Ky ?Pl ?MU ?Pp ?P7 ?OF ?Ob ?OQ ?OR ?KS ?NT ?zk ?KX ?NX ?wt ?KY ?NY ?wu ?KW ?NW ?wq ?KV ?NV ?wo ?KU ?NU ?wm ?Kx ?Pk ?MT ?Po ?P6 ?OE ?Oa ?OO ?ON ?OP ?KN ?NO ?zj ?KR ?NS ?wk ?KQ ?NR ?wj ?KJ ?NM ?wd ?KO ?NP ?wg ?KP ?NQ ?wh ?KL ?NN ?we ?Lg ?zE ?Lh ?zF ?Lf ?zD ?K9 ?wx ?Lc ?zA ?K7 ?zv ?Ld ?zB ?K8 ?zw ?Le ?zC ?Lk ?zH ?K_ ?zy ?Lq ?zL ?Lb ?zz ?Lm ?zJ ?K' ?zx ?Lp ?zK ?Ll ?zI ?K0 ?zm ?K1 ?zo ?K3 ?zq ?K2 ?zp ?K5 ?zt ?K4 ?zr ?KZ ?zl ?K6 ?zu ?Lj ?zG ?Kw ?Oi ?Kv ?Gx ?Kt ?YR ?Ku ?YS ?KI ?NL ?D3 ?Rg ?Rd ?Rf ?DJ ?QN ?QO ?QR ?QS ?QP ?RR ?RV ?RQ ?RK ?RP ?RM ?RY ?RS ?R0 ?RW ?RJ ?RO ?RT ?RU ?RZ ?RL ?RN ?RX ?R1 ?Ri ?Rc ?Qk ?Pe ?NA ?Oe ?Mf ?OY ?MC ?M9 ?Nq ?M8 ?MG ?PO ?L8 ?P_ ?Ni ?Nm
  (case Ks=>k_is)
  (case Pj=>k_is)
  (case MS=>k_is)
  (case Pn=>k_is)
  (case P5=>k_is)
  (case OD=>k_is)
  (case N_=>k_is)
  (case OL=>k_is)
  (case OM=>k_is)
  (case KA=>k_is)
  (case NG=>k_is)
  (case zi=>refine' ar.ej ?z ?y ?x;(case z=>k_is);(case y=>k_is);(case x=>k_is))
  (case Kz=>k_is)
  (case NF=>k_is)
  (case v_=>refine' ar.ej ?z ?y ?x;(case z=>k_is);(case y=>k_is);(case x=>k_is))
  (case KH=>k_is)
  (case NK=>k_is)
  (case wc=>refine' ar.ej ?z ?y ?x;(case z=>k_is);(case y=>k_is);(case x=>k_is))
  (case KG=>k_is)
  (case NJ=>k_is)
  (case t4=>refine' ar.ej ?z ?y ?x;(case z=>k_is);(case y=>k_is);(case x=>k_is))
  (case KD=>k_is)
  (case NI=>k_is)
  (case wb=>refine' ar.ej ?z ?y ?x;(case z=>k_is);(case y=>k_is);(case x=>k_is))
  (case KC=>k_is)
  (case NH=>k_is)
  (case wa=>refine' ar.ej ?z ?y ?x;(case z=>k_is);(case y=>k_is);(case x=>k_is))
  (case Ky=>k_is)
  (case Pl=>k_is)
  (case MU=>k_is)
  (case Pp=>k_is)
  (case P7=>k_is)
  (case OF=>k_is)
  (case Ob=>k_is)
  (case OQ=>k_is)
  (case OR=>k_is)
  (case KS=>k_is)
  (case NT=>k_is)
  (case zk=>refine' ar.ej ?z ?y ?x;(case z=>k_is);(case y=>k_is);(case x=>k_is))
  (case KX=>k_is)
  (case NX=>k_is)
  (case wt=>refine' ar.ej ?z ?y ?x;(case z=>k_is);(case y=>k_is);(case x=>k_is))
  (case KY=>k_is)
  (case NY=>k_is)
  (case wu=>refine' ar.ej ?z ?y ?x;(case z=>k_is);(case y=>k_is);(case x=>k_is))
  (case KW=>k_is)
  (case NW=>k_is)
  (case wq=>refine' ar.ej ?z ?y ?x;(case z=>k_is);(case y=>k_is);(case x=>k_is))
  (case KV=>k_is)
  (case NV=>k_is)
  (case wo=>refine' ar.ej ?z ?y ?x;(case z=>k_is);(case y=>k_is);(case x=>k_is))
  (case KU=>k_is)
  (case NU=>k_is)
  (case wm=>refine' ar.ej ?z ?y ?x;(case z=>k_is);(case y=>k_is);(case x=>k_is))
  (case Kx=>k_is)
  (case Pk=>k_is)
  (case MT=>k_is)
  (case Po=>k_is)
  (case P6=>k_is)
  (case OE=>k_is)
  (case Oa=>k_is)
  (case OO=>k_is)
  (case ON=>k_is)
  (case OP=>k_is)
  (case KN=>k_is)
  (case NO=>k_is)
  (case zj=>refine' ar.ej ?z ?y ?x;(case z=>k_is);(case y=>k_is);(case x=>k_is))
  (case KR=>k_is)
  (case NS=>k_is)
  (case wk=>refine' ar.ej ?z ?y ?x;(case z=>k_is);(case y=>k_is);(case x=>k_is))
  (case KQ=>k_is)
  (case NR=>k_is)
  (case wj=>refine' ar.ej ?z ?y ?x;(case z=>k_is);(case y=>k_is);(case x=>k_is))
  (case KJ=>k_is)
  (case NM=>k_is)
  (case wd=>refine' ar.ej ?z ?y ?x;(case z=>k_is);(case y=>k_is);(case x=>k_is))
  (case KO=>k_is)
  (case NP=>k_is)
  (case wg=>refine' ar.ej ?z ?y ?x;(case z=>k_is);(case y=>k_is);(case x=>k_is))
  (case KP=>k_is)
  (case NQ=>k_is)
  (case wh=>refine' ar.ej ?z ?y ?x;(case z=>k_is);(case y=>k_is);(case x=>k_is))
  (case KL=>k_is)
  (case NN=>k_is)
  (case we=>refine' ar.ej ?z ?y ?x;(case z=>k_is);(case y=>k_is);(case x=>k_is))
  (case Lg=>k_is)
  (case zE=>refine' ar.ej ?z ?y ?x;(case z=>k_is);(case y=>k_is);(case x=>k_is))
  (case Lh=>k_is)
  (case zF=>refine' ar.ej ?z ?y ?x;(case z=>k_is);(case y=>k_is);(case x=>k_is))
  (case Lf=>k_is)
  (case zD=>refine' ar.ej ?z ?y ?x;(case z=>k_is);(case y=>k_is);(case x=>k_is))
  (case K9=>k_is)
  (case wx=>refine' ar.ej ?z ?y ?x;(case z=>k_is);(case y=>k_is);(case x=>k_is))
  (case Lc=>k_is)
  (case zA=>refine' ar.ej ?z ?y ?x;(case z=>k_is);(case y=>k_is);(case x=>k_is))
  (case K7=>k_is)
  (case zv=>refine' ar.ej ?z ?y ?x;(case z=>k_is);(case y=>k_is);(case x=>k_is))
  (case Ld=>k_is)
  (case zB=>refine' ar.ej ?z ?y ?x;(case z=>k_is);(case y=>k_is);(case x=>k_is))
  (case K8=>k_is)
  (case zw=>refine' ar.ej ?z ?y ?x;(case z=>k_is);(case y=>k_is);(case x=>k_is))
  (case Le=>k_is)
  (case zC=>refine' ar.ej ?z ?y ?x;(case z=>k_is);(case y=>k_is);(case x=>k_is))
  (case Lk=>k_is)
  (case zH=>refine' ar.ej ?z ?y ?x;(case z=>k_is);(case y=>k_is);(case x=>k_is))
  (case K_=>k_is)
  (case zy=>refine' ar.ej ?z ?y ?x;(case z=>k_is);(case y=>k_is);(case x=>k_is))
  (case Lq=>k_is)
  (case zL=>refine' ar.ej ?z ?y ?x;(case z=>k_is);(case y=>k_is);(case x=>k_is))
  (case Lb=>k_is)
  (case zz=>refine' ar.ej ?z ?y ?x;(case z=>k_is);(case y=>k_is);(case x=>k_is))
  (case Lm=>k_is)
  (case zJ=>refine' ar.ej ?z ?y ?x;(case z=>k_is);(case y=>k_is);(case x=>k_is))
  (case K'=>k_is)
  (case zx=>refine' ar.ej ?z ?y ?x;(case z=>k_is);(case y=>k_is);(case x=>k_is))
  (case Lp=>k_is)
  (case zK=>refine' ar.ej ?z ?y ?x;(case z=>k_is);(case y=>k_is);(case x=>k_is))
  (case Ll=>k_is)
  (case zI=>refine' ar.ej ?z ?y ?x;(case z=>k_is);(case y=>k_is);(case x=>k_is))
  (case K0=>k_is)
  (case zm=>refine' ar.ej ?z ?y ?x;(case z=>k_is);(case y=>k_is);(case x=>k_is))
  (case K1=>k_is)
  (case zo=>refine' ar.ej ?z ?y ?x;(case z=>k_is);(case y=>k_is);(case x=>k_is))
  (case K3=>k_is)
  (case zq=>refine' ar.ej ?z ?y ?x;(case z=>k_is);(case y=>k_is);(case x=>k_is))
  (case K2=>k_is)
  (case zp=>refine' ar.ej ?z ?y ?x;(case z=>k_is);(case y=>k_is);(case x=>k_is))
  (case K5=>k_is)
  (case zt=>refine' ar.ej ?z ?y ?x;(case z=>k_is);(case y=>k_is);(case x=>k_is))
  (case K4=>k_is)
  (case zr=>refine' ar.ej ?z ?y ?x;(case z=>k_is);(case y=>k_is);(case x=>k_is))
  (case KZ=>k_is)
  (case zl=>refine' ar.ej ?z ?y ?x;(case z=>k_is);(case y=>k_is);(case x=>k_is))
  (case K6=>k_is)
  (case zu=>refine' ar.ej ?z ?y ?x;(case z=>k_is);(case y=>k_is);(case x=>k_is))
  (case Lj=>k_is)
  (case zG=>refine' ar.ej ?z ?y ?x;(case z=>k_is);(case y=>k_is);(case x=>k_is))
  (case Kw=>k_is)
  (case Oi=>k_is)
  (case Kv=>k_is)
  (case Gx=>k_is)
  (case Kt=>k_is)
  (case YR=>k_is)
  (case Ku=>k_is)
  (case YS=>k_is)
  (case KI=>k_is)
  (case NL=>k_is)
  (case D3=>refine' ar.ej ?z ?y ?x;(case z=>k_is);(case y=>k_is);(case x=>k_is))
  (case Rg=>k_exc)
  (case Rd=>k_exc)
  (case Rf=>k_exc)
  (case DJ=>decide+kernel)
  (case QN=>k_is)
  (case QO=>k_is)
  (case QR=>k_is)
  (case QS=>k_is)
  (case QP=>k_is)
  (case RR=>k_is)
  (case RV=>k_is)
  (case RQ=>k_is)
  (case RK=>k_is)
  (case RP=>k_is)
  (case RM=>k_is)
  (case RY=>k_is)
  (case RS=>k_is)
  (case R0=>k_is)
  (case RW=>k_is)
  (case RJ=>k_is)
  (case RO=>k_is)
  (case RT=>k_is)
  (case RU=>k_is)
  (case RZ=>k_is)
  (case RL=>k_is)
  (case RN=>k_is)
  (case RX=>k_is)
  (case R1=>k_is)
  (case Ri=>decide+kernel)
  (case Rc=>decide+kernel)
  (case Qk=>k_is)
  (case Pe=>k_is)
  (case NA=>k_is)
  (case Oe=>k_is)
  (case Mf=>k_is)
  (case OY=>k_is)
  (case MC=>k_is)
  (case M9=>k_is)
  (case Nq=>k_is)
  (case M8=>k_is)
  (case MG=>k_is)
  (case PO=>k_is)
  (case L8=>k_is)
  (case P_=>k_is)
  (case Ni=>k_is)
  (case Nm=>k_is)
